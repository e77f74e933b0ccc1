/-
  How a set lies in memory (a block with its bound and its slice, a block with its words), and what a step on memory leaves of it. No walk here.
-/
import Derived.WalkKit
import Derived.WalkSpells
import Derived.Test.YtcaibfalhkhleaaDoorSets
namespace Go.Proofs.YtcaibfalhkhleaaDoor
set_option linter.unusedVariables false
open Go.RowKit

theorem hidIt {p : Prop} (h : p) : Hid p := h

/-- Blocks that were there and are none of fp's have not turned. -/
structure Kp (fp : Nat → Prop) (w w' : World) : Prop where
  os : w'.os = w.os
  tape : w'.tape = w.tape
  output : w'.output = w.output
  size : w.heap.size ≤ w'.heap.size
  block : ∀ k, k < w.heap.size → ¬ fp k → w'.heap[k]? = w.heap[k]?

theorem Kp.refl (fp : Nat → Prop) (w : World) : Kp fp w w := ⟨rfl, rfl, rfl, Nat.le_refl _, fun _ _ _ => rfl⟩
theorem Kp.trans {fp : Nat → Prop} {a b c : World} (h : Kp fp a b) (k : Kp (fun i => fp i ∨ a.heap.size ≤ i) b c) : Kp fp a c :=
  ⟨k.os.trans h.os, k.tape.trans h.tape, k.output.trans h.output, Nat.le_trans h.size k.size, fun i hi hn =>
    (k.block i (Nat.lt_of_lt_of_le hi h.size) (fun e => by rcases e with e | e; exact hn e; omega)).trans (h.block i hi hn)⟩
theorem Kp.mono {fp fp' : Nat → Prop} {a b : World} (h : Kp fp a b) (hf : ∀ k, fp k → fp' k) : Kp fp' a b :=
  ⟨h.os, h.tape, h.output, h.size, fun k hk hn => h.block k hk (fun e => hn (hf k e))⟩
theorem Kp.trans' {fp : Nat → Prop} {a b c : World} (h : Kp fp a b) (k : Kp fp b c) : Kp fp a c := h.trans (k.mono fun _ => .inl)
theorem Kp.below {fp : Nat → Prop} {a b : World} {B : Nat} (h : Kp fp a b) (hB : B ≤ a.heap.size) (hf : ∀ k, fp k → B ≤ k) : Below B a b :=
  ⟨h.os, h.tape, h.output, h.size, fun k hk => h.block k (by omega) (fun e => by have := hf k e; omega)⟩
theorem Kp.of_below {a b : World} {B : Nat} (h : Below B a b) : Kp (fun k => B ≤ k) a b :=
  ⟨h.os, h.tape, h.output, h.size, fun k hk hn => h.block k (by omega)⟩
theorem Kp.alloc {fp : Nat → Prop} {a w : World} (h : Kp fp a w) (o : Obj) : Kp fp a (w.alloc o) :=
  ⟨h.os, h.tape, h.output, by have := h.size; simp; omega, fun k hk hn => (Below.heap_alloc _ _ _ (Nat.lt_of_lt_of_le hk h.size)).trans (h.block k hk hn)⟩
theorem Kp.drew {fp : Nat → Prop} {a w : World} (h : Kp fp a w) : Kp fp a w.drew := ⟨h.os, h.tape, h.output, h.size, h.block⟩
theorem Kp.setCell {fp : Nat → Prop} {a w : World} (h : Kp fp a w) {p : Addr} (hp : fp p.block ∨ a.heap.size ≤ p.block) (u : Value) : Kp fp a (w.setCell p u) :=
  ⟨h.os, h.tape, h.output, by have := h.size; simp [World.setCell]; exact this, fun k hk hn => (Below.heap_setCell _ _ _ _ (fun e => by
    subst e
    rcases hp with hp | hp
    · exact hn hp
    · omega)).trans (h.block k hk hn)⟩
theorem Kp.cell {fp : Nat → Prop} {w w' : World} (h : Kp fp w w') {p : Addr} {v : Value} (hc : w.cell? p = some v) (hn : ¬ fp p.block) : w'.cell? p = some v :=
  (World.cell?_of_block (w := w) (h.block p.block (World.block_lt_of_cell? w p hc) hn)).trans hc
theorem Kp.frozen {fp : Nat → Prop} {w w' : World} (h : Kp fp w w') {p : Addr} {v : Value} (hc : w.cell? p = some v) (hf : w.frozen? p = false) (hn : ¬ fp p.block) : w'.frozen? p = false :=
  (World.frozen?_of_block (w := w) (h.block p.block (World.block_lt_of_cell? w p hc) hn)).trans hf
theorem Kp.at {fp : Nat → Prop} {w w' : World} (h : Kp fp w w') {k : Nat} {o : Obj} (hc : w.heap[k]? = some o) (hn : ¬ fp k) : w'.heap[k]? = some o :=
  (h.block k (Array.getElem?_eq_some_iff.1 hc).1 hn).trans hc

/-- The cells of the first m words. -/
def wcells (m : Nat) (p : Nat → Bool) : Array Value := ((List.range m).map fun i => Value.int .u64 (wd p i : Nat)).toArray
theorem wcells_size (m : Nat) (p : Nat → Bool) : (wcells m p).size = m := by simp [wcells]
theorem wcells_get (m : Nat) (p : Nat → Bool) {i : Nat} (h : i < m) : (wcells m p)[i]? = some (.int .u64 (wd p i : Nat)) := by
  simp [wcells, h]
theorem wcells_congr {m : Nat} {p q : Nat → Bool} (h : ∀ i, i < m → wd p i = wd q i) : wcells m p = wcells m q := by
  unfold wcells
  congr 1
  refine List.map_congr_left fun i hi => ?_
  rw [h i (List.mem_range.1 hi)]
theorem wcells_set {m : Nat} {p q : Nat → Bool} {i : Nat} (hi : i < m) (hne : ∀ j, j < m → j ≠ i → wd q j = wd p j) : (wcells m p).setIfInBounds i (.int .u64 (wd q i : Nat)) = wcells m q := by
  refine Array.ext_getElem? fun j => ?_
  rw [Array.getElem?_setIfInBounds]
  by_cases h : i = j
  · subst h
    rw [if_pos rfl, if_pos (by rw [wcells_size]; exact hi), wcells_get m q hi]
  · rw [if_neg h]
    by_cases hj : j < m
    · rw [wcells_get m p hj, wcells_get m q hj, hne j hj (fun e => h e.symm)]
    · rw [Array.getElem?_eq_none (by rw [wcells_size]; omega), Array.getElem?_eq_none (by rw [wcells_size]; omega)]

/-- A row of words at block g. -/
def RowAt (w : World) (g m : Nat) (p : Nat → Bool) : Prop := w.heap[g]? = some (.cells (wcells m p) 58 (0, 0))
/-- THE SET AT BLOCK A, with its words at block g: its bound is b, and p tells what is in it. -/
structure SetAt (w : World) (A g b : Nat) (p : Nat → Bool) : Prop where
  head : w.heap[A]? = some (.cells #[.int .i64 b, .slice (some ⟨g, 0, none⟩) (nw b) (nw b)] 55 (0, 0))
  row : RowAt w g (nw b) p
  fits : Fits b p

theorem RowAt.cell {w : World} {g m : Nat} {p : Nat → Bool} (h : RowAt w g m p) {i : Nat} (hi : i < m) : w.cell? ⟨g, i, none⟩ = some (.int .u64 (wd p i : Nat)) := by
  have h' : w.heap[g]? = _ := h
  have := wcells_get m p hi
  simp [World.cell?, h', this]
theorem RowAt.frz {w : World} {g m : Nat} {p : Nat → Bool} (h : RowAt w g m p) (j : Nat) : w.frozen? ⟨g, j, none⟩ = false := frozen_of_row w g j _ 58 h
theorem RowAt.lt {w : World} {g m : Nat} {p : Nat → Bool} (h : RowAt w g m p) : g < w.heap.size := (Array.getElem?_eq_some_iff.1 (show w.heap[g]? = _ from h)).1
theorem SetAt.bound {w : World} {A g b : Nat} {p : Nat → Bool} (h : SetAt w A g b p) : w.cell? ⟨A, 0, none⟩ = some (.int .i64 b) := by simp [World.cell?, h.head]
theorem SetAt.words {w : World} {A g b : Nat} {p : Nat → Bool} (h : SetAt w A g b p) : w.cell? ⟨A, 1, none⟩ = some (.slice (some ⟨g, 0, none⟩) (nw b) (nw b)) := by simp [World.cell?, h.head]
theorem SetAt.ne {w : World} {A g b : Nat} {p : Nat → Bool} (h : SetAt w A g b p) : A ≠ g := by
  intro e
  subst e
  have h1 := h.head
  have h2 : w.heap[A]? = _ := h.row
  rw [h1] at h2
  simp at h2
theorem SetAt.ltA {w : World} {A g b : Nat} {p : Nat → Bool} (h : SetAt w A g b p) : A < w.heap.size := (Array.getElem?_eq_some_iff.1 h.head).1
theorem SetAt.ltg {w : World} {A g b : Nat} {p : Nat → Bool} (h : SetAt w A g b p) : g < w.heap.size := h.row.lt

theorem RowAt.kept {w w' : World} {g m : Nat} {p : Nat → Bool} {fp : Nat → Prop} (h : RowAt w g m p) (k : Kp fp w w') (hn : ¬ fp g) : RowAt w' g m p := k.at h hn
theorem SetAt.kept {w w' : World} {A g b : Nat} {p : Nat → Bool} {fp : Nat → Prop} (h : SetAt w A g b p) (k : Kp fp w w') (hA : ¬ fp A) (hg : ¬ fp g) : SetAt w' A g b p := ⟨k.at h.head hA, h.row.kept k hg, h.fits⟩

theorem heap_setCell_row (w : World) (g i : Nat) (u : Value) (cs : Array Value) (t : TypeId) (h : w.heap[g]? = some (.cells cs t (0, 0))) : (w.setCell ⟨g, i, none⟩ u).heap[g]? = some (.cells (cs.setIfInBounds i u) t (0, 0)) := by
  have hlt := (Array.getElem?_eq_some_iff.1 h).1
  have he := (Array.getElem?_eq_some_iff.1 h).2
  simp [World.setCell, Array.getElem?_modify, h]
/-- A word is stored. -/
theorem RowAt.set {w : World} {g m : Nat} {p q : Nat → Bool} (h : RowAt w g m p) {i : Nat} (hi : i < m) (hne : ∀ j, j < m → j ≠ i → wd q j = wd p j) : RowAt (w.setCell ⟨g, i, none⟩ (.int .u64 (wd q i : Nat))) g m q := by
  have := heap_setCell_row w g i (.int .u64 (wd q i : Nat)) _ 58 h
  rw [wcells_set hi hne] at this
  exact this
theorem SetAt.set {w : World} {A g b : Nat} {p q : Nat → Bool} (h : SetAt w A g b p) {i : Nat} (hi : i < nw b) (hne : ∀ j, j < nw b → j ≠ i → wd q j = wd p j) (hf : Fits b q) : SetAt (w.setCell ⟨g, i, none⟩ (.int .u64 (wd q i : Nat))) A g b q :=
  ⟨(Below.heap_setCell _ _ _ _ (fun e => h.ne e)).trans h.head, h.row.set hi hne, hf⟩
end Go.Proofs.YtcaibfalhkhleaaDoor
