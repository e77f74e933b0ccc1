/-
  The walks of Word, Clone, newToken, value.
-/
import Derived.Test.YtlppbgmcoknliaaGreatDoorByte
import Derived.Handy
namespace Go.Proofs.YtlppbgmcoknliaaGreatDoor
set_option linter.unusedVariables false
open Go.RowKit

/-- A box that was laid just ahead, behind calls that only lay new memory. -/
theorem box_at {w w1 : World} {cs : Array Value} {t : TypeId} (h : Below (w.alloc (.cells cs t)).heap.size (w.alloc (.cells cs t)) w1) : w1.heap[w.heap.size]? = some (.cells cs t (0, 0)) := by
  rw [h.block _ (by rw [World.size_alloc]; omega)]
  exact heap_alloc_new w _
theorem cell_at {w : World} {b : Nat} {cs : Array Value} {t : TypeId} {fr : Nat × Nat} (hb : w.heap[b]? = some (.cells cs t fr)) (j : Nat) : w.cell? ⟨b, j, none⟩ = cs[j]? := by
  simp [World.cell?, hb]
theorem frozen_at {w : World} {b : Nat} {cs : Array Value} {t : TypeId} (hb : w.heap[b]? = some (.cells cs t (0, 0))) (j : Nat) : w.frozen? ⟨b, j, none⟩ = false := by
  simp [World.frozen?, hb]

theorem box4 {w w1 : World} {a b c d : Value} {t : TypeId} (h : Below (w.alloc (.cells #[a, b, c, d] t)).heap.size (w.alloc (.cells #[a, b, c, d] t)) w1) :
    w1.cell? ⟨w.heap.size, 0, none⟩ = some a ∧ w1.cell? ⟨w.heap.size, 1, none⟩ = some b ∧ w1.cell? ⟨w.heap.size, 2, none⟩ = some c ∧ w1.cell? ⟨w.heap.size, 3, none⟩ = some d ∧
    w1.frozen? ⟨w.heap.size, 0, none⟩ = false ∧ w1.frozen? ⟨w.heap.size, 1, none⟩ = false ∧ w1.frozen? ⟨w.heap.size, 2, none⟩ = false ∧ w1.frozen? ⟨w.heap.size, 3, none⟩ = false :=
  have hq := box_at h
  ⟨cell_at hq 0, cell_at hq 1, cell_at hq 2, cell_at hq 3, frozen_at hq 0, frozen_at hq 1, frozen_at hq 2, frozen_at hq 3⟩
theorem below_box {w w1 : World} {o : Obj} (h : Below (w.alloc o).heap.size (w.alloc o) w1) : Below w.heap.size w w1 :=
  ((Below.refl w.heap.size w).alloc (Nat.le_refl _) o).trans (h.mono (by rw [World.size_alloc]; omega))
theorem below_put {w w1 : World} (h : Below w.heap.size w w1) (i : Nat) (u : Value) : Below w.heap.size w (w1.setCell ⟨w.heap.size, i, none⟩ u) :=
  h.setCell (p := ⟨w.heap.size, i, none⟩) (Nat.le_refl _) u

set_option maxHeartbeats 1000000 in
theorem word_any (s : ByteArray) (w : World) :
    Calls Tryz.prog 189 #[.string s] w fun e w' => e = .returned (.bool (isWord s.data.toList)) ∧ w = w' := by
  rw [← ByteArray.toList_eq]
  go_enter Tryz.func189, Tryz.ntmps189
  go_wp2
  all_goals first | (rename_i h1 h2; rw [h1] at h2; cases h2; done) | skip
  all_goals go_ret
  all_goals exact ⟨by simp only [isWord, words, List.contains, List.elem, *]; rfl, rfl⟩

set_option maxHeartbeats 400000 in
theorem clone_any (s : ByteArray) (w : World) (hs : s.size ≤ 100000000) :
    Calls Tryz.prog 37 #[.string s] w fun e w' => e = .returned (.string s) ∧ Below w.heap.size w w' := by
  have c1 := fun w => Tryz.stringslite_Clone s w (by omega)
  go_enter Tryz.func37, Tryz.ntmps37
  go_wp2_with (first | (go_at_call 85; refine (c1 _).mono ?_; rintro e w' ⟨rfl, hb⟩))
  go_ret
  exact ⟨rfl, hb⟩

set_option maxHeartbeats 400000 in
theorem newToken_any (k : Int) (s : ByteArray) (n : Nat) (w : World) (hs : s.size ≤ 100000000) (hn : n ≤ s.size) :
    Calls Tryz.prog 160 #[.int .i64 k, .string s, .int .i64 n] w fun e w' => e = .returned (.agg #[.int .i64 k, .int .i64 0, .string (s.extract 0 n), .int .i64 0]) ∧ Below w.heap.size w w' := by
  have c1 := fun w => clone_any (s.extract 0 n) w (by rw [ByteArray.size_extract]; omega)
  go_enter Tryz.func160, Tryz.ntmps160
  go_wp2_with (first | (go_at_call 37; refine (c1 _).mono ?_; rintro e w' ⟨rfl, hb⟩; obtain ⟨q0, q1, q2, q3, f0, f1, f2, f3⟩ := box4 hb; have hb := hidIt hb))
  (try simp only [Exit.inBlock, Exit.then])
  refine bodyPost_ret (by simp [results, Tryz.results160, go_sem, q0, q1, q2, q3]; try rfl) rfl ?_
  exact ⟨rfl, below_put (below_put (below_put (below_put (below_box hb.out) _ _) _ _) _ _) _ _⟩
end Go.Proofs.YtlppbgmcoknliaaGreatDoor
