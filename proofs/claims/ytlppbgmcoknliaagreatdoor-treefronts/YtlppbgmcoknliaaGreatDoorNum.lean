/-
  The walk of number.
-/
import Derived.Test.YtlppbgmcoknliaaGreatDoorFst
namespace Go.Proofs.YtlppbgmcoknliaaGreatDoor
set_option linter.unusedVariables false
open Go.RowKit

set_option maxHeartbeats 1000000 in
theorem number_none (s d : ByteArray) (C V : Nat) (hs : s.size ≤ 100000000) (hc : NumC s d C V) (w : World) (h : C = 0 ∨ 1099511627776 < V) :
    Calls Tryz.prog 158 #[.string s] w fun e w' => e = .returned (.tuple #[.agg #[.int .i64 0, .int .i64 0, .string ⟨#[]⟩, .int .i64 0], .bool false]) ∧ Below w.heap.size w w' := by
  obtain ⟨c1, c2, c3, hle, hsz, hv⟩ := hc
  by_cases h0 : C = 0
  · have hz : ((C : Int) == 0) = true := by simp; omega
    clear h h0
    go_enter Tryz.func158, Tryz.ntmps158
    go_wp2_with (first | (go_at_call 190; refine (c1 _).mono ?_; rintro e w' ⟨rfl, rfl⟩) | (go_at_call 187; refine (c2 _).mono ?_; rintro e w' ⟨rfl, rfl⟩) | (go_at_call 191; refine (c3 _).mono ?_; rintro e w' ⟨rfl, rfl⟩))
    (try simp only [Exit.inBlock, Exit.then])
    refine bodyPost_ret (by simp [results, Tryz.results158, go_sem]; try rfl) rfl ?_
    exact ⟨rfl, (Below.refl w.heap.size w).alloc (Nat.le_refl _) _⟩
  · have h1 : 1099511627776 < V := by omega
    have hz : ((C : Int) == 0) = false := by simp; omega
    clear h h0
    go_enter Tryz.func158, Tryz.ntmps158
    go_wp2_with (first | (go_at_call 190; refine (c1 _).mono ?_; rintro e w' ⟨rfl, rfl⟩) | (go_at_call 187; refine (c2 _).mono ?_; rintro e w' ⟨rfl, rfl⟩) | (go_at_call 191; refine (c3 _).mono ?_; rintro e w' ⟨rfl, rfl⟩))
    (try simp only [Exit.inBlock, Exit.then])
    refine bodyPost_ret (by simp [results, Tryz.results158, go_sem]; try rfl) rfl ?_
    exact ⟨rfl, (Below.refl w.heap.size w).alloc (Nat.le_refl _) _⟩

theorem box4' {w w1 : World} {a b c d : Value} {t : TypeId} {o : Obj} {B : Nat} (h : Below B (w.alloc (.cells #[a, b, c, d] t)) w1) (hB : B = (w.alloc (.cells #[a, b, c, d] t)).heap.size) :
    (w1.alloc o).cell? ⟨w.heap.size, 0, none⟩ = some a ∧ (w1.alloc o).cell? ⟨w.heap.size, 1, none⟩ = some b ∧ (w1.alloc o).cell? ⟨w.heap.size, 2, none⟩ = some c ∧ (w1.alloc o).cell? ⟨w.heap.size, 3, none⟩ = some d ∧
    (w1.alloc o).frozen? ⟨w.heap.size, 0, none⟩ = false ∧ (w1.alloc o).frozen? ⟨w.heap.size, 1, none⟩ = false ∧ (w1.alloc o).frozen? ⟨w.heap.size, 2, none⟩ = false ∧ (w1.alloc o).frozen? ⟨w.heap.size, 3, none⟩ = false := by
  subst hB
  have hq := box_at h
  have hlt : w.heap.size < w1.heap.size := by have := h.size; rw [World.size_alloc] at this; omega
  have hq2 : (w1.alloc o).heap[w.heap.size]? = some (.cells #[a, b, c, d] t (0, 0)) := (Below.heap_alloc w1 o _ hlt).trans hq
  exact ⟨cell_at hq2 0, cell_at hq2 1, cell_at hq2 2, cell_at hq2 3, frozen_at hq2 0, frozen_at hq2 1, frozen_at hq2 2, frozen_at hq2 3⟩

set_option maxHeartbeats 1000000 in
theorem number_plus (s d : ByteArray) (C V : Nat) (hs : s.size ≤ 100000000) (hc : NumC s d C V) (w : World) (h : C ≠ 0) (hV : V ≤ 1099511627776) (hd : d.size = s.size) :
    Calls Tryz.prog 158 #[.string s] w fun e w' => e = .returned (.tuple #[.agg #[.int .i64 3, .int .i64 0, .string (s.extract 0 C), .int .i64 V], .bool true]) ∧ Below w.heap.size w w' := by
  obtain ⟨c1, c2, c3, hle, hsz, hv⟩ := hc
  have hz : ((C : Int) == 0) = false := by simp; omega
  have c4 := fun w => newToken_any 3 s C w hs (by omega)
  clear h
  go_enter Tryz.func158, Tryz.ntmps158
  go_wp2_with (first | (go_at_call 190; refine (c1 _).mono ?_; rintro e w' ⟨rfl, rfl⟩) | (go_at_call 187; refine (c2 _).mono ?_; rintro e w' ⟨rfl, rfl⟩) | (go_at_call 191; refine (c3 _).mono ?_; rintro e w' ⟨rfl, rfl⟩) | (go_at_call 160; refine (c4 _).mono ?_; rintro e w' ⟨rfl, hb⟩; have qa := fun o => box4' (o := o) hb rfl; have hb := hidIt hb))
  (try simp only [Exit.inBlock, Exit.then])
  refine bodyPost_ret (by simp [results, Tryz.results158, go_sem, qa]; try rfl) rfl ?_
  exact ⟨rfl, below_put (below_put (below_put (below_put ((below_box hb.out).alloc (below_box hb.out).size _) _ _) _ _) _ _) _ _⟩

set_option maxHeartbeats 1000000 in
theorem number_minus (s d : ByteArray) (C V : Nat) (hs : s.size ≤ 100000000) (hc : NumC s d C V) (w : World) (h : C ≠ 0) (hV : V ≤ 1099511627776) (hd : s.size = d.size + 1) :
    Calls Tryz.prog 158 #[.string s] w fun e w' => e = .returned (.tuple #[.agg #[.int .i64 3, .int .i64 0, .string (s.extract 0 (1 + C)), .int .i64 (-(V : Int))], .bool true]) ∧ Below w.heap.size w w' := by
  obtain ⟨c1, c2, c3, hle, hsz, hv⟩ := hc
  have hz : ((C : Int) == 0) = false := by simp; omega
  have hmin : (s.size : Int) - (d.size : Int) = 1 := by omega
  have c4 : ∀ w, Calls Tryz.prog 160 #[.int .i64 3, .string s, .int .i64 (1 + (C : Int))] w fun e w' => e = .returned (.agg #[.int .i64 3, .int .i64 0, .string (s.extract 0 (1 + C)), .int .i64 0]) ∧ Below w.heap.size w w' := fun w => by
    have := newToken_any 3 s (1 + C) w hs (by omega)
    have e : ((1 + C : Nat) : Int) = 1 + (C : Int) := by omega
    rw [e] at this
    exact this
  have hds : d.size ≤ 100000000 := by omega
  clear h hd hsz
  go_enter Tryz.func158, Tryz.ntmps158
  go_wp2_with (first | (go_at_call 190; refine (c1 _).mono ?_; rintro e w' ⟨rfl, rfl⟩) | (go_at_call 187; refine (c2 _).mono ?_; rintro e w' ⟨rfl, rfl⟩) | (go_at_call 191; refine (c3 _).mono ?_; rintro e w' ⟨rfl, rfl⟩) | (go_at_call 160; refine (c4 _).mono ?_; rintro e w' ⟨rfl, hb⟩; have qa := fun o => box4' (o := o) hb rfl; have hb := hidIt hb))
  (try simp only [Exit.inBlock, Exit.then])
  refine bodyPost_ret (by simp [results, Tryz.results158, go_sem, qa]; try rfl) rfl ?_
  exact ⟨rfl, below_put (below_put (below_put (below_put ((below_box hb.out).alloc (below_box hb.out).size _) _ _) _ _) _ _) _ _⟩
end Go.Proofs.YtlppbgmcoknliaaGreatDoor
