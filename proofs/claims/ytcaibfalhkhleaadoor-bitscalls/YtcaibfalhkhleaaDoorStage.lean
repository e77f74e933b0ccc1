/-
  Some sets side by side; and the states that 'alive' goes through.
-/
import Derived.Test.YtcaibfalhkhleaaDoorAll
import Derived.Test.YtcaibfalhkhleaaDoorMeet
import Derived.Test.YtcaibfalhkhleaaDoorLess
import Derived.Test.YtcaibfalhkhleaaDoorJoin
import Derived.Test.YtcaibfalhkhleaaDoorSame
import Derived.Test.YtcaibfalhkhleaaDoorApart
import Derived.Test.YtcaibfalhkhleaaDoorFill
namespace Go.Proofs.YtcaibfalhkhleaaDoor
set_option linter.unusedVariables false
open Go.RowKit

theorem SetAt.neg {w : World} {A g b A' g' b' : Nat} {p p' : Nat → Bool} (h : SetAt w A g b p) (h' : SetAt w A' g' b' p') : A ≠ g' := by
  intro e
  subst e
  have h1 := h.head
  have h2 : w.heap[A]? = _ := h'.row
  rw [h1] at h2
  simp at h2
/-- Another set has turned. -/
theorem SetAt.other {w w' : World} {A g b A' g' b' : Nat} {p p' : Nat → Bool} (h : SetAt w A g b p) (h' : SetAt w A' g' b' p') (k : Kp (fun i => i = g') w w') (hne : g ≠ g') : SetAt w' A g b p :=
  h.kept k (fun e => h.neg h' e) hne
theorem SetAt.grown {w w' : World} {A g b : Nat} {p : Nat → Bool} (h : SetAt w A g b p) (k : Kp (fun _ => False) w w') : SetAt w' A g b p := h.kept k (fun e => e) (fun e => e)
theorem Tab.below {w W : World} (h : Tab w) (hb : Below w.heap.size w W) : Tab W := fun j hj => by
  have := h j hj
  exact (hb.cell (p := ⟨0, j, none⟩) (World.block_lt_of_cell? w _ this)).trans this
theorem bOnG {w W W' : World} {g : Nat} (h : Below w.heap.size w W) (k : Kp (fun i => i = g) W W') (hg : w.heap.size ≤ g) : Below w.heap.size w W' := h.trans (k.below h.size fun i hi => by omega)
theorem bOn0 {w W W' : World} (h : Below w.heap.size w W) (k : Kp (fun _ => False) W W') : Below w.heap.size w W' := h.trans (k.below h.size fun i hi => hi.elim)
theorem LAt.new (w : World) (zs : List Int) : LAt (w.alloc (.cells (zs.map (Value.int .i64)).toArray 3)) (some ⟨w.heap.size, 0, none⟩) zs := by
  intro j z hz
  refine ⟨_, _, rfl, ?_⟩
  simp [hz]

/-- What ranges over an iterator from Wx on has turned blocks of fp and new ones alone; all blocks of the iterator's are new. -/
def Own1 (Wx : World) (fp G : Nat → Prop) (W : World) : Prop := Kp fp Wx W ∧ (∀ k, G k → Wx.heap.size ≤ k)
theorem Own1.sep {Wx W W' : World} {fp G G' : Nat → Prop} (h : Own1 Wx fp G W) (hk : Kp G W W') (hG : ∀ k, G' k → G k ∨ (W.heap.size ≤ k ∧ k < W'.heap.size)) : Own1 Wx fp G' W' := by
  refine ⟨⟨hk.os.trans h.1.os, hk.tape.trans h.1.tape, hk.output.trans h.1.output, Nat.le_trans h.1.size hk.size, fun k h1 h2 => ?_⟩, fun k h1 => ?_⟩
  · rw [hk.block k (Nat.lt_of_lt_of_le h1 h.1.size) (fun e => by have := h.2 k e; omega)]
    exact h.1.block k h1 h2
  · have := h.1.size
    rcases hG k h1 with e | e
    · exact h.2 k e
    · omega
theorem Own1.start (Wx : World) (fp : Nat → Prop) : Own1 Wx fp (fun _ => False) Wx := ⟨Kp.refl _ _, fun _ h => h.elim⟩
/-- A variable's box. -/
def Box (W : World) (N : Nat) (t : TypeId) (v : Value) : Prop := W.heap[N]? = some (.cells #[v] t (0, 0))
theorem Box.cell {W : World} {N : Nat} {t : TypeId} {v : Value} (h : Box W N t v) : W.cell? ⟨N, 0, none⟩ = some v := by
  have h' : W.heap[N]? = _ := h
  simp [World.cell?, h']
theorem Box.frz {W : World} {N : Nat} {t : TypeId} {v : Value} (h : Box W N t v) : W.frozen? ⟨N, 0, none⟩ = false := by
  have h' : W.heap[N]? = _ := h
  simp [World.frozen?, h']
theorem Box.lt {W : World} {N : Nat} {t : TypeId} {v : Value} (h : Box W N t v) : N < W.heap.size := (Array.getElem?_eq_some_iff.1 (show W.heap[N]? = _ from h)).1
theorem Box.kept {W W' : World} {N : Nat} {t : TypeId} {v : Value} {fp : Nat → Prop} (h : Box W N t v) (k : Kp fp W W') (hn : ¬ fp N) : Box W' N t v := k.at h hn
theorem Box.set {W : World} {N : Nat} {t : TypeId} {v : Value} (h : Box W N t v) (u : Value) : Box (W.setCell ⟨N, 0, none⟩ u) N t u := by
  have := heap_setCell_row W N 0 u _ t h
  simpa [Box] using this
theorem sepBox {α : Type} {Wx : World} {N : Nat} {t : TypeId} {v : List α → Value} (hN : N < Wx.heap.size) : Sep (fun (pre : List α) G W => Own1 Wx (fun k => k = N) G W ∧ Box W N t (v pre)) := by
  rintro s G G' W W' ⟨h1, h2⟩ hk hG
  exact ⟨h1.sep hk hG, h2.kept hk fun e => by have := h1.2 N e; omega⟩
/-- Only new blocks have turned. -/
theorem Kp.onNew {W Wx W' : World} {fp : Nat → Prop} (h : Kp (fun _ => False) W Wx) (k : Kp fp Wx W') (hf : ∀ i, fp i → W.heap.size ≤ i) : Kp (fun i => W.heap.size ≤ i) W W' :=
  (h.mono fun _ h => h.elim).trans (k.mono fun i hi => .inl (hf i hi))

/-- A block that holds no words is kept where a set's words turn. -/
theorem keepObj {W W' : World} {k A g b : Nat} {p : Nat → Bool} {o : Obj} (h : W.heap[k]? = some o) (hs : SetAt W A g b p) (hk : Kp (fun i => i = g) W W') (ho : ∀ cs, o ≠ .cells cs 58 (0, 0)) : W'.heap[k]? = some o :=
  hk.at h fun e => by
    subst e
    have h2 : W.heap[k]? = _ := hs.row
    rw [h] at h2
    exact ho _ (Option.some.inj h2)

/-- Three sets behind w. -/
structure Al (w : World) (As gs Ao go Ac gc : Nat) (p q r : Nat → Bool) (W : World) : Prop where
  s : SetAt W As gs 5 p
  o : SetAt W Ao go 70 q
  c : SetAt W Ac gc 5 r
  bel : Below w.heap.size w W
  so : gs ≠ go
  sc : gs ≠ gc
  oc : go ≠ gc
  ls : w.heap.size ≤ gs
  lo : w.heap.size ≤ go
  lc : w.heap.size ≤ gc
section
variable {w W W' : World} {As gs Ao go Ac gc : Nat} {p q r p' : Nat → Bool}
theorem Al.onS (h : Al w As gs Ao go Ac gc p q r W) (hs : SetAt W' As gs 5 p') (k : Kp (fun i => i = gs) W W') : Al w As gs Ao go Ac gc p' q r W' :=
  ⟨hs, h.o.other h.s k (fun e => h.so e.symm), h.c.other h.s k (fun e => h.sc e.symm), bOnG h.bel k h.ls, h.so, h.sc, h.oc, h.ls, h.lo, h.lc⟩
theorem Al.onO (h : Al w As gs Ao go Ac gc p q r W) (hs : SetAt W' Ao go 70 p') (k : Kp (fun i => i = go) W W') : Al w As gs Ao go Ac gc p p' r W' :=
  ⟨h.s.other h.o k h.so, hs, h.c.other h.o k (fun e => h.oc e.symm), bOnG h.bel k h.lo, h.so, h.sc, h.oc, h.ls, h.lo, h.lc⟩
theorem Al.onC (h : Al w As gs Ao go Ac gc p q r W) (hs : SetAt W' Ac gc 5 p') (k : Kp (fun i => i = gc) W W') : Al w As gs Ao go Ac gc p q p' W' :=
  ⟨h.s.other h.c k h.sc, h.o.other h.c k h.oc, hs, bOnG h.bel k h.lc, h.so, h.sc, h.oc, h.ls, h.lo, h.lc⟩
theorem Al.grow (h : Al w As gs Ao go Ac gc p q r W) (k : Kp (fun _ => False) W W') : Al w As gs Ao go Ac gc p q r W' :=
  ⟨h.s.grown k, h.o.grown k, h.c.grown k, bOn0 h.bel k, h.so, h.sc, h.oc, h.ls, h.lo, h.lc⟩
theorem Al.old (h : Al w As gs Ao go Ac gc p q r W) (k : Kp (fun i => W.heap.size ≤ i) W W') : Al w As gs Ao go Ac gc p q r W' := by
  have h1 := h.s.ltA
  have h2 := h.s.ltg
  have h3 := h.o.ltA
  have h4 := h.o.ltg
  have h5 := h.c.ltA
  have h6 := h.c.ltg
  exact ⟨h.s.kept k (by omega) (by omega), h.o.kept k (by omega) (by omega), h.c.kept k (by omega) (by omega), h.bel.trans (k.below h.bel.size fun i hi => Nat.le_trans h.bel.size hi), h.so, h.sc, h.oc, h.ls, h.lo, h.lc⟩
end

def a1p : Nat → Bool := ofL 5 [3, 9, 1]
def a2p : Nat → Bool := addP 5 a1p 4
def a3p : Nat → Bool := addP 5 a2p 4
def a4p : Nat → Bool := addP 5 a3p 5
def o1p : Nat → Bool := ofL 70 [64, 3, 2]
def a5p : Nat → Bool := opP (fun x y => x || y) 5 a4p o1p
def a6p : Nat → Bool := cutN a5p 2
def a7p : Nat → Bool := opP (fun x y => x && y) 5 a6p o1p
def o2p : Nat → Bool := opP (fun x y => x && !y) 70 o1p a7p
theorem f1 : addB 5 a1p 4 = true := by decide +kernel
theorem f2 : addB 5 a2p 4 = false := by decide +kernel
theorem f3 : addB 5 a3p 5 = false := by decide +kernel
theorem f4 : chg 5 a4p a5p = true := by decide +kernel
theorem f5 : hasP a5p 2 = true := by decide +kernel
theorem f6 : chg 5 a6p a7p = true := by decide +kernel
theorem f7 : nums 5 a7p = [3] := by decide +kernel
theorem f8 : chg 70 o1p o2p = true := by decide +kernel
theorem f9 : (nums 5 a1p).length = 2 := by decide +kernel
theorem f10 : (nums 70 o2p).length = 2 := by decide +kernel
theorem f11 : hasP o2p 64 = true := by decide +kernel
theorem f12 : hasP o2p 3 = false := by decide +kernel
theorem f13 : (nums 5 (fullP 5)).length = 5 := by decide +kernel
theorem f14 : apartAll 5 70 a7p o2p = true := by decide +kernel
theorem f15 : sameAll 5 9 a7p (ofL 9 [3]) = true := by decide +kernel
theorem f16 : sameAll 5 5 a7p (fullP 5) = false := by decide +kernel
theorem c5 : clampB 5 = 5 ∧ clampB 70 = 70 ∧ clampB 9 = 9 := by decide
end Go.Proofs.YtcaibfalhkhleaaDoor
