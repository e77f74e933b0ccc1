/-
  Get in one word; New; Free.
-/
import Derived.Test.YtbjofdijhcdmaaaGet2
import Derived.Test.YtbjofdijhcdmaaaKeep
import Derived.Deep.AppendLies
import Derived.Deep.RegionLaw
namespace Go.Proofs.Ytbjofdijhcdmaaa
set_option linter.unusedVariables false
open Go.RowKit

theorem get_any {w : World} {A : Nat} {st : Sl} {fp : Nat → Prop} (h : Rep w A st fp) (hv : Inv st) (hs : Small st 900000) (n : Int) :
    Calls Try.prog 15 #[.pointer (some ⟨A, 0, none⟩), .int .i64 n] w fun e w' => e = .returned (.tuple #[.int .u64 (mget st n).2.1, .int .i64 (mget st n).2.2]) ∧ Did w A (mget st n).1 fp w' := by
  by_cases hr : n < 1 ∨ 4095 < n
  · have em : mget st n = (st, 0, 11) := by
      unfold mget
      rw [if_pos hr]
    rw [em]
    refine (get_range A n w hr).mono ?_
    rintro _ w' ⟨rfl, rfl⟩
    exact ⟨rfl, Did.same h⟩
  · by_cases hf : (st.room : Int) < st.used + n
    · have em : mget st n = (st, 0, 13) := by
        unfold mget
        rw [if_neg hr, if_pos hf]
      rw [em]
      obtain ⟨ve, vf, es, h0⟩ := id h
      have h1 := hv.room
      have h2 := hv.fits
      refine (get_full A n st.room st.used w (by omega) (by omega) (by omega) (by omega) (by omega) (by omega) h0.cells.1 h0.cells.2.2.1 hf).mono ?_
      rintro _ w' ⟨rfl, rfl⟩
      exact ⟨rfl, (Did.same (w := w.drew) (h.frame (Nat.le_refl _) fun _ _ => rfl)).undrew⟩
    · obtain ⟨m, rfl⟩ : ∃ m : Nat, n = m := ⟨n.toNat, by omega⟩
      obtain ⟨⟨e1, he1, hl1, hsl1, hsz1⟩, f1, f2, f3, f4, f5, f6, f7, f8, f9, f10, f11⟩ := mtake_facts hv hs
      exact get_ok h hv hs m (by omega) (by omega) (by omega) e1 he1 hl1 f1 f2 hv.live_le f4

set_option maxHeartbeats 400000 in
theorem new_err (n : Int) (w : World) (h : n < 0 ∨ 16384 < n) :
    Calls Try.prog 9 #[.int .i64 n] w fun e w' => e = .returned (.tuple #[.pointer none, .int .i64 11]) ∧ w = w' := by
  by_cases h1 : n < 0
  · clear h
    go_enter Try.func9, Try.ntmps9
    go_wp2
    go_ret2
    exact ⟨rfl, rfl⟩
  · have h2 : 16384 < n := by omega
    clear h
    go_enter Try.func9, Try.ntmps9
    go_wp2
    go_ret2
    exact ⟨rfl, rfl⟩

def newSl (n : Nat) : Sl := { room := n, live := 0, used := 0, ents := [], free := [] }
theorem newSl_inv (n : Nat) (h : n ≤ 16384) : Inv (newSl n) := ⟨h, Nat.zero_le _, rfl, rfl, by simp [newSl], by simp [newSl], by simp [newSl], by simp [newSl]⟩
theorem newSl_small (n : Nat) : Small (newSl n) 0 := ⟨by simp [newSl], by simp [newSl], by simp [newSl]⟩

set_option maxHeartbeats 400000 in
theorem new_ok (n : Int) (w : World) (h1 : 0 ≤ n) (h2 : n ≤ 16384) :
    Calls Try.prog 9 #[.int .i64 n] w fun e w' => e = .returned (.tuple #[.pointer (some ⟨w.heap.size, 0, none⟩), .int .i64 0]) ∧ w.alloc (.cells #[.int .i64 n, .int .i64 0, .int .i64 0, .slice none 0 0, .slice none 0 0] 69) = w' := by
  go_enter Try.func9, Try.ntmps9
  go_wp2
  go_ret2
  exact ⟨rfl, rfl⟩

/-- A new slab: all that lies at or beyond where the heap ended is its own. -/
theorem new_any (n : Nat) (w : World) (h2 : n ≤ 16384) :
    Calls Try.prog 9 #[.int .i64 n] w fun e w' => e = .returned (.tuple #[.pointer (some ⟨w.heap.size, 0, none⟩), .int .i64 0]) ∧ Rep w' w.heap.size (newSl n) (ext (fun _ => False) w w') ∧ Kp (fun _ => False) w w' := by
  refine (new_ok n w (by omega) (by omega)).mono ?_
  rintro _ w' ⟨rfl, rfl⟩
  refine ⟨rfl, ⟨.slice none 0 0, .slice none 0 0, [], ?_⟩, Kp.alloc _ _ _⟩
  exact
  { head := heap_alloc_new w _
    fpA := .inr ⟨Nat.le_refl _, by simp⟩
    fplt := ext_lt (fun _ h => h.elim) (by simp)
    ents := World.ownsRow_nil _ _ _ _
    fpE := fun k hk => by simp [Value.ownBlock] at hk
    free := World.ownsRow_nil _ _ _ _
    fpF := fun k hk => by simp [Value.ownBlock] at hk
    len := rfl
    sizes := fun i e v h1 _ => by simp [newSl] at h1
    slots := fun i e v h1 _ => by simp [newSl] at h1
    apart1 := fun i j u v _ h1 _ => by simp at h1
    apart2 := fun i j u v _ h1 _ => by simp at h1 }

set_option maxHeartbeats 400000 in
theorem free_err (A : Nat) (a c : Int) (w : World) (hc : (c != 0) = true)
    (hf : Hid (Calls Try.prog 42 #[.pointer (some ⟨A, 0, none⟩), .int .u64 a] w fun e w' => e = .returned (.tuple #[.pointer none, .int .i64 0, .int .i64 c]) ∧ w = w')) :
    Calls Try.prog 17 #[.pointer (some ⟨A, 0, none⟩), .int .u64 a] w fun e w' => e = .returned (.int .i64 c) ∧ w = w' := by
  go_enter Try.func17, Try.ntmps17
  go_wp2_with (go_at_call 42; refine hf.out.mono ?_; rintro e w' ⟨rfl, rfl⟩)
  go_ret
  exact ⟨rfl, rfl⟩

set_option maxHeartbeats 400000 in
theorem free_inner (A : Nat) (a p : Int) (q : Addr) (w : World) (hp : (p != 0) = true)
    (hf : Hid (Calls Try.prog 42 #[.pointer (some ⟨A, 0, none⟩), .int .u64 a] w fun e w' => e = .returned (.tuple #[.pointer (some q), .int .i64 p, .int .i64 0]) ∧ w = w')) :
    Calls Try.prog 17 #[.pointer (some ⟨A, 0, none⟩), .int .u64 a] w fun e w' => e = .returned (.int .i64 11) ∧ w = w' := by
  go_enter Try.func17, Try.ntmps17
  go_wp2_with (go_at_call 42; refine hf.out.mono ?_; rintro e w' ⟨rfl, rfl⟩)
  go_ret
  exact ⟨rfl, rfl⟩

def Freed (A : Nat) (W : World) (v : Value) (n : Nat) (xs : List Value) (x : Int) (w' : World) : Prop :=
  ∃ g cap w1, w1.ownsRow 0 3 1 (.slice (some ⟨g, 0, none⟩) (n + 1) cap) (n + 1) (xs ++ [.int .i64 x]) ∧ (W.alloc (.cells #[.int .i64 x] 3)).grownBy w1 v.ownBlock ∧ (v.ownBlock = some g ∨ g = W.heap.size + 1) ∧ (w1.setCell ⟨A, 4, none⟩ (.slice (some ⟨g, 0, none⟩) (n + 1) cap)) = w'

theorem free_mid {A : Nat} {W : World} {v x0 : Value} {n : Nat} {xs : List Value} {x : Int} {g cap : Nat} {w1 : World} (hA : A < W.heap.size) (c4 : W.cell? ⟨A, 4, none⟩ = some x0) (z4 : W.frozen? ⟨A, 4, none⟩ = false) (hne : Hid (v.ownBlock ≠ some A))
    (ho : w1.ownsRow 0 3 1 (.slice (some ⟨g, 0, none⟩) (n + 1) cap) (n + 1) (xs ++ [.int .i64 x])) (hg : (W.drew.alloc (.cells #[.int .i64 x] 3)).grownBy w1 v.ownBlock) (hf : v.ownBlock = some g ∨ g = W.heap.size + 1) :
    w1.cell? ⟨A, 4, none⟩ = some x0 ∧ w1.frozen? ⟨A, 4, none⟩ = false ∧ Hid (Freed A W v n xs x (w1.setCell ⟨A, 4, none⟩ (.slice (some ⟨g, 0, none⟩) (n + 1) cap))) := by
  have hg' : (W.alloc (.cells #[.int .i64 x] 3)).grownBy w1 v.ownBlock := ⟨hg.os, hg.tape, hg.output, hg.size, hg.block⟩
  have hA1 : w1.heap[A]? = W.heap[A]? := (hg'.block A (by simp; omega) (fun e => hne.out e.symm)).trans (Below.heap_alloc W _ A hA)
  exact ⟨(World.cell?_of_block (w := W) hA1).trans c4, (World.frozen?_of_block (w := W) hA1).trans z4, g, cap, w1, ho, hg', hf, rfl⟩

set_option maxRecDepth 100000 in
set_option maxHeartbeats 1000000 in
theorem free_walk (A g o nt ct : Nat) (at_ : Option Addr) (a li us : Int) (w : World) (h0 : 0 ≤ a) (h1 : a < 18446744073709551616) (hAg : A ≠ g) (hgA : g ≠ A) (hAl : A < w.heap.size) (hgl : g < w.heap.size)
    (hl : 1 ≤ li) (hl2 : li ≤ 16384) (hu : (nt : Int) ≤ us) (hu2 : us ≤ 16384)
    (c1 : w.cell? ⟨A, 1, none⟩ = some (.int .i64 li)) (c2 : w.cell? ⟨A, 2, none⟩ = some (.int .i64 us)) (z1 : w.frozen? ⟨A, 1, none⟩ = false) (z2 : w.frozen? ⟨A, 2, none⟩ = false)
    (hT : w.cell? ⟨g, o + 1, none⟩ = some (.slice at_ nt ct)) (zT : w.frozen? ⟨g, o + 1, none⟩ = false)
    (af : Option Addr) (nf cf : Nat) (xs : List Value) (hnf : nf ≤ 1000000000)
    (HW : Hid (∀ W, (((w.setCell ⟨A, 1, none⟩ (.int .i64 (li - 1))).setCell ⟨A, 2, none⟩ (.int .i64 (us - nt))).setCell ⟨g, o + 1, none⟩ (.slice none 0 0)).drew = W →
      W.cell? ⟨A, 4, none⟩ = some (.slice af nf cf) ∧ W.frozen? ⟨A, 4, none⟩ = false ∧ A < W.heap.size ∧ W.ownsRow 0 3 1 (.slice af nf cf) nf xs ∧ Value.ownBlock (.slice af nf cf) ≠ some A))
    (hf : Hid (Calls Try.prog 42 #[.pointer (some ⟨A, 0, none⟩), .int .u64 a] w fun e w' => e = .returned (.tuple #[.pointer (some ⟨g, o, none⟩), .int .i64 0, .int .i64 0]) ∧ w = w')) :
    Calls Try.prog 17 #[.pointer (some ⟨A, 0, none⟩), .int .u64 a] w fun e w' => e = .returned (.int .i64 0) ∧
      Freed A (((w.setCell ⟨A, 1, none⟩ (.int .i64 (li - 1))).setCell ⟨A, 2, none⟩ (.int .i64 (us - nt))).setCell ⟨g, o + 1, none⟩ (.slice none 0 0)).drew (.slice af nf cf) nf xs (a % 4294967296 / 4096) w' := by
  go_enter Try.func17, Try.ntmps17
  go_wp2_with (go_at_call 42; refine hf.out.mono ?_; rintro e w' ⟨rfl, rfl⟩)
  go_region
  go_wp2
  generalize hW : (((w.setCell ⟨A, 1, none⟩ (.int .i64 (li - 1))).setCell ⟨A, 2, none⟩ (.int .i64 (us - nt))).setCell ⟨g, o + 1, none⟩ (.slice none 0 0)).drew = W
  obtain ⟨c4, z4, hAW, ho, hne⟩ := HW.out W hW
  have HWe := hidIt hW
  have Ho := hidIt ho
  have Hne := hidIt hne
  clear HW hW ho hne c1 c2 z1 z2 hT zT hf hAl hgl
  obtain ⟨i3, hi3, hz30, hz31, hz32⟩ := info_parts Try.info3
  go_region_law (first | (refine step_append_lies _ rfl _ _ 41 rfl 0 3 i3 _ 1 8 Try.underlying41 hi3 hz30 hz31 hz32 rfl (by decide) _ _ _ rfl (Ho.out.drew.alloc _) ⟨W.heap.size, 0, none⟩ 1 1 [.int .i64 (a % 4294967296 / 4096)] rfl rfl (cell_one_new _ _ _) (by simp [Value.oneCell']) (by decide) (by unfold maxLen; omega) (by omega) (Nat.zero_le _) (W.heap.size + 1) (by simp) ?_; intro g1 cap1 w1 ho1 hg1 hfr1 hlt1; obtain ⟨c41, z41, HF⟩ := free_mid hAW c4 z4 Hne ho1 hg1 hfr1; clear ho1 hg1 hfr1 hlt1) | (go_simp; go_at_call 43; refine (indexOf_any _ _ h0 h1).mono ?_; rintro e w' ⟨rfl, rfl⟩))
  all_goals go_wp2
  all_goals go_ret
  all_goals exact ⟨rfl, by rw [HWe.out]; exact HF.out⟩
end Go.Proofs.Ytbjofdijhcdmaaa
