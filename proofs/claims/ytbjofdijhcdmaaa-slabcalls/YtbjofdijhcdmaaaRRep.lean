/-
  How the document's slab lies in memory; what a step on memory leaves of it. No walk here.
-/
import Derived.Test.YtbjofdijhcdmaaaRMod
import Derived.Test.YtbjofdijhcdmaaaStage
namespace Go.Proofs.Ytbjofdijhcdmaaa
set_option linter.unusedVariables false
open Go.RowKit

abbrev PV := RP × Value × Value
def pcell (e : PV) : List Value := [.int .i64 e.1.ix, .int .i64 e.1.age, e.2.1, e.2.2, .bool e.1.freed]
def pcells (l : List PV) : List Value := l.flatMap pcell
def valCells (l : List Int) : List Value := l.map fun n => .int .i64 n
def hasCells (l : List Bool) : List Value := l.map fun b => .bool b

theorem pcells_length (l : List PV) : (pcells l).length = l.length * 5 := by
  induction l with
  | nil => rfl
  | cons a t ih =>
    have : pcells (a :: t) = pcell a ++ pcells t := rfl
    rw [this, List.length_append, ih]
    simp [pcell]
    omega
theorem pcells_get (l : List PV) (i j : Nat) (e : PV) (h : l[i]? = some e) (hj : j < 5) : (pcells l)[i * 5 + j]? = (pcell e)[j]? := by
  induction l generalizing i with
  | nil => simp at h
  | cons a t ih =>
    have hp : pcells (a :: t) = pcell a ++ pcells t := rfl
    rw [hp]
    cases i with
    | zero =>
      simp at h
      subst h
      rw [List.getElem?_append_left (by simp [pcell]; omega)]
      simp
    | succ i =>
      rw [List.getElem?_append_right (by simp [pcell]; omega)]
      have := ih i (by simpa using h)
      rw [← this]
      congr 1
      simp [pcell]
      omega
theorem pcells_set (l : List PV) (i j : Nat) (e e' : PV) (v : Value) (h : l[i]? = some e) (hj : j < 5) (he : (pcell e).set j v = pcell e') : (pcells l).set (i * 5 + j) v = pcells (l.set i e') := by
  induction l generalizing i with
  | nil => simp at h
  | cons a t ih =>
    have hp : ∀ b u, pcells (b :: u) = pcell b ++ pcells u := fun _ _ => rfl
    rw [hp]
    cases i with
    | zero =>
      simp at h
      subst h
      rw [List.set_append_left _ _ (by simp [pcell]; omega)]
      simp only [Nat.zero_mul, Nat.zero_add, he, List.set_cons_zero, hp]
    | succ i =>
      have hlen : (pcell a).length = 5 := rfl
      rw [List.set_append_right _ _ (by omega)]
      have := ih i (by simpa using h)
      simp only [List.set_cons_succ, hp]
      rw [← this, hlen]
      congr 2
      omega

/-- Rows of types in S that were there lie as they lay. -/
structure KT (S : TypeId → Prop) (w w2 : World) : Prop where
  size : w.heap.size ≤ w2.heap.size
  keep : ∀ (k : Nat) (cs : Array Value) (t : TypeId), S t → w.heap[k]? = some (.cells cs t (0, 0)) → w2.heap[k]? = some (.cells cs t (0, 0))
theorem KT.refl (S : TypeId → Prop) (w : World) : KT S w w := ⟨Nat.le_refl _, fun _ _ _ _ h => h⟩
theorem KT.trans {S : TypeId → Prop} {a b c : World} (h : KT S a b) (k : KT S b c) : KT S a c := ⟨Nat.le_trans h.size k.size, fun i cs t ht hc => k.keep i cs t ht (h.keep i cs t ht hc)⟩
theorem KT.alloc (S : TypeId → Prop) (w : World) (o : Obj) : KT S w (w.alloc o) := ⟨by simp, fun k cs t _ hc => (Below.heap_alloc w o k (lt_of_block hc)).trans hc⟩
theorem KT.kp {S : TypeId → Prop} {w w2 : World} (h : Kp (fun _ => False) w w2) : KT S w w2 := ⟨h.size, fun k cs t _ hc => (h.block k (lt_of_block hc) id).trans hc⟩
theorem KT.drew {S : TypeId → Prop} {a w : World} (h : KT S a w) : KT S a w.drew := ⟨h.size, h.keep⟩
theorem KT.setCell {S : TypeId → Prop} {w : World} {A : Nat} {cs : Array Value} {t : TypeId} {fr : Nat × Nat} (hA : w.heap[A]? = some (.cells cs t fr)) (hn : ¬ S t) (j : Nat) (v : Value) : KT S w (w.setCell ⟨A, j, none⟩ v) :=
  ⟨by simp [World.setCell], fun k cs' t' ht hc => by
    rw [heap_setCell_other w ⟨A, j, none⟩ k _ (fun e => ?_)]
    · exact hc
    · simp only at e
      subst e
      rw [hA] at hc
      simp at hc
      exact hn (hc.2.1 ▸ ht)⟩
theorem KT.grown {S : TypeId → Prop} {w w2 : World} {row : Option Nat} (hg : w.grownBy w2 row) (hr : ∀ k, row = some k → ∃ cs t fr, w.heap[k]? = some (.cells cs t fr) ∧ ¬ S t) : KT S w w2 :=
  ⟨hg.size, fun k cs t ht hc => by
    rw [hg.block k (lt_of_block hc) (fun e => ?_)]
    · exact hc
    · obtain ⟨cs', t', fr', h1, h2⟩ := hr k e.symm
      rw [h1] at hc
      simp at hc
      exact h2 (hc.2.1 ▸ ht)⟩
theorem KT.row {S : TypeId → Prop} {w w2 : World} (h : KT S w w2) {base : Nat} {e : TypeId} {size : Nat} {v : Value} {n : Nat} {xs : List Value} (ho : w.ownsRow base e size v n xs) (he : S e) : w2.ownsRow base e size v n xs :=
  ownsRow_of_block ho fun k hk => by
    obtain ⟨c, hc⟩ := own_block ho hk
    rw [h.keep k c e he hc, hc]

def S24 : TypeId → Prop := fun t => t = 2 ∨ t = 4

/-- The numbers and marks of the pieces. -/
structure PD (w : World) (fp : Nat → Prop) (es : List PV) : Prop where
  vals : ∀ (i : Nat) (e : PV), es[i]? = some e → w.ownsRow 0 2 1 e.2.1 e.1.vals.length (valCells e.1.vals) ∧ OB fp e.2.1
  has : ∀ (i : Nat) (e : PV), es[i]? = some e → w.ownsRow 0 4 1 e.2.2 e.1.has.length (hasCells e.1.has) ∧ OB fp e.2.2
  ap1 : ∀ (i j : Nat) (u v : PV), i ≠ j → es[i]? = some u → es[j]? = some v → apart u.2.1 v.2.1
  ap2 : ∀ (i j : Nat) (u v : PV), i ≠ j → es[i]? = some u → es[j]? = some v → apart u.2.2 v.2.2
theorem PD.keep {w w2 : World} {fp : Nat → Prop} {es : List PV} (h : PD w fp es) (k : KT S24 w w2) : PD w2 fp es :=
  ⟨fun i e he => ⟨k.row (h.vals i e he).1 (.inl rfl), (h.vals i e he).2⟩, fun i e he => ⟨k.row (h.has i e he).1 (.inr rfl), (h.has i e he).2⟩, h.ap1, h.ap2⟩
theorem PD.mono {w : World} {fp fp' : Nat → Prop} {es : List PV} (h : PD w fp es) (hf : ∀ k, fp k → fp' k) : PD w fp' es :=
  ⟨fun i e he => ⟨(h.vals i e he).1, (h.vals i e he).2.mono hf⟩, fun i e he => ⟨(h.has i e he).1, (h.has i e he).2.mono hf⟩, h.ap1, h.ap2⟩

structure RAt (w : World) (A : Nat) (rs : RS) (fp : Nat → Prop) (vp vf : Value) (es : List PV) : Prop where
  head : w.heap[A]? = some (.cells #[.int .i64 rs.room, vp, vf, .int .i64 rs.next] 72 (0, 0))
  fpA : fp A
  fplt : ∀ k, fp k → k < w.heap.size
  prow : w.ownsRow 0 95 5 vp es.length (pcells es)
  fpP : OB fp vp
  free : w.ownsRow 0 3 1 vf rs.free.length (freeCells rs.free)
  fpF : OB fp vf
  data : PD w fp es
  ps : es.map (fun e => e.1) = rs.ps
def RRep (w : World) (A : Nat) (rs : RS) (fp : Nat → Prop) : Prop := ∃ vp vf es, RAt w A rs fp vp vf es

section
variable {w w2 : World} {A : Nat} {rs : RS} {fp : Nat → Prop} {vp vf : Value} {es : List PV}
theorem RAt.frame (h : RAt w A rs fp vp vf es) (hs : w.heap.size ≤ w2.heap.size) (hb : ∀ k, fp k → w2.heap[k]? = w.heap[k]?) : RAt w2 A rs fp vp vf es where
  head := by rw [hb A h.fpA]; exact h.head
  fpA := h.fpA
  fplt := fun k hk => Nat.lt_of_lt_of_le (h.fplt k hk) hs
  prow := ownsRow_of_block h.prow fun k hk => hb k (h.fpP k hk)
  fpP := h.fpP
  free := ownsRow_of_block h.free fun k hk => hb k (h.fpF k hk)
  fpF := h.fpF
  data := ⟨fun i e he => ⟨ownsRow_of_block (h.data.vals i e he).1 fun k hk => hb k ((h.data.vals i e he).2 k hk), (h.data.vals i e he).2⟩,
    fun i e he => ⟨ownsRow_of_block (h.data.has i e he).1 fun k hk => hb k ((h.data.has i e he).2 k hk), (h.data.has i e he).2⟩, h.data.ap1, h.data.ap2⟩
  ps := h.ps
theorem RAt.mono {fp' : Nat → Prop} (h : RAt w A rs fp vp vf es) (hf : ∀ k, fp k → fp' k) (hl : ∀ k, fp' k → k < w.heap.size) : RAt w A rs fp' vp vf es :=
  { head := h.head, fpA := hf _ h.fpA, fplt := hl, prow := h.prow, fpP := h.fpP.mono hf, free := h.free, fpF := h.fpF.mono hf, data := h.data.mono hf, ps := h.ps }
theorem RRep.frame (h : RRep w A rs fp) (hs : w.heap.size ≤ w2.heap.size) (hb : ∀ k, fp k → w2.heap[k]? = w.heap[k]?) : RRep w2 A rs fp := by
  obtain ⟨vp, vf, es, h⟩ := h
  exact ⟨vp, vf, es, h.frame hs hb⟩
theorem RRep.lt (h : RRep w A rs fp) : ∀ k, fp k → k < w.heap.size := by
  obtain ⟨vp, vf, es, h⟩ := h
  exact h.fplt
theorem RRep.mono {fp' : Nat → Prop} (h : RRep w A rs fp) (hf : ∀ k, fp k → fp' k) (hl : ∀ k, fp' k → k < w.heap.size) : RRep w A rs fp' := by
  obtain ⟨vp, vf, es, h⟩ := h
  exact ⟨vp, vf, es, h.mono hf hl⟩
theorem RRep.other {fp2 : Nat → Prop} (h : RRep w A rs fp) (hk : Kp fp2 w w2) (hd : ∀ k, fp k → ¬ fp2 k) : RRep w2 A rs fp :=
  h.frame hk.size fun k hf => hk.block k (h.lt k hf) (hd k hf)
def RDid (w : World) (A : Nat) (rs' : RS) (fp : Nat → Prop) (w' : World) : Prop := RRep w' A rs' (ext fp w w') ∧ Kp fp w w'
theorem RDid.same (h : RRep w A rs fp) : RDid w A rs fp w := ⟨h.mono (fun k hk => .inl hk) (ext_lt h.lt (Nat.le_refl _)), Kp.refl _ _⟩

theorem RAt.cells (h : RAt w A rs fp vp vf es) : w.cell? ⟨A, 0, none⟩ = some (.int .i64 rs.room) ∧ w.cell? ⟨A, 1, none⟩ = some vp ∧ w.cell? ⟨A, 2, none⟩ = some vf ∧ w.cell? ⟨A, 3, none⟩ = some (.int .i64 rs.next) := by
  refine ⟨?_, ?_, ?_, ?_⟩ <;> (rw [World.cell?]; simp [h.head])
theorem RAt.frz (h : RAt w A rs fp vp vf es) (j : Nat) : w.frozen? ⟨A, j, none⟩ = false := frozen_of_row w A j _ 72 h.head
theorem RAt.len (h : RAt w A rs fp vp vf es) : es.length = rs.ps.length := by rw [← h.ps]; simp
theorem RAt.get (h : RAt w A rs fp vp vf es) {i : Nat} {p : RP} (hp : rs.ps[i]? = some p) : ∃ u v, es[i]? = some (p, u, v) := by
  rw [← h.ps, List.getElem?_map] at hp
  cases he : es[i]? with
  | none => simp [he] at hp
  | some e =>
    obtain ⟨q, u, v⟩ := e
    simp [he] at hp
    subst hp
    exact ⟨u, v, rfl⟩
theorem RAt.shape (h : RAt w A rs fp vp vf es) : ∃ ao cap, vp = .slice ao rs.ps.length cap := by
  obtain ⟨ao, cap, hh, _⟩ := own_shape h.prow
  exact ⟨ao, cap, by rw [hh, h.len]⟩
theorem RAt.pos (h : RAt w A rs fp vp vf es) {i : Nat} {p : RP} (hp : rs.ps[i]? = some p) : ∃ g cap, vp = .slice (some ⟨g, 0, none⟩) rs.ps.length cap := by
  have : i < rs.ps.length := (List.getElem?_eq_some_iff.1 hp).1
  obtain ⟨g, cap, hh, _⟩ := own_pos h.prow (by rw [h.len]; omega)
  exact ⟨g, cap, by rw [hh, h.len]⟩
theorem RAt.cell {g n cap : Nat} (h : RAt w A rs fp (.slice (some ⟨g, 0, none⟩) n cap) vf es) {i : Nat} {e : PV} (he : es[i]? = some e) :
    w.cell? ⟨g, i * 5, none⟩ = some (.int .i64 e.1.ix) ∧ w.cell? ⟨g, i * 5 + 1, none⟩ = some (.int .i64 e.1.age) ∧ w.cell? ⟨g, i * 5 + 2, none⟩ = some e.2.1 ∧ w.cell? ⟨g, i * 5 + 3, none⟩ = some e.2.2 ∧ w.cell? ⟨g, i * 5 + 4, none⟩ = some (.bool e.1.freed) := by
  have hi : i < es.length := (List.getElem?_eq_some_iff.1 he).1
  have ho := h.prow
  obtain ⟨ao, c, hv, hp, _⟩ := own_shape ho
  simp only [Value.slice.injEq] at hv
  obtain ⟨rfl, rfl, rfl⟩ := hv
  have key : ∀ j, j < 5 → w.cell? ⟨g, i * 5 + j, none⟩ = (pcell e)[j]? := fun j hj => (ho.cellAt _ (by omega)).trans (pcells_get es i j e he hj)
  exact ⟨key 0 (by omega), key 1 (by omega), key 2 (by omega), key 3 (by omega), key 4 (by omega)⟩
theorem RAt.pfrz {g n cap : Nat} (h : RAt w A rs fp (.slice (some ⟨g, 0, none⟩) n cap) vf es) (j : Nat) : w.frozen? ⟨g, j, none⟩ = false := by
  obtain ⟨ao, c, hv, hp, _⟩ := own_shape h.prow
  simp only [Value.slice.injEq] at hv
  obtain ⟨rfl, rfl, rfl⟩ := hv
  exact h.prow.frozenAt j
end
end Go.Proofs.Ytbjofdijhcdmaaa
