/-
  What each step on memory makes of the document's slab.
-/
import Derived.Test.YtbjofdijhcdmaaaRApp
namespace Go.Proofs.Ytbjofdijhcdmaaa
set_option linter.unusedVariables false
open Go.RowKit

theorem new_at {w w' : World} {o : Obj} {k : Nat} (hh : w'.heap = (w.alloc o).heap) (hk : k = w.heap.size) : w'.heap[k]? = some o := by
  subst hk
  rw [hh]
  exact heap_alloc_new w o
theorem old_at {w w' : World} {o : Obj} {k : Nat} {x : Option Obj} (hh : w'.heap = (w.alloc o).heap) (hk : w.heap[k]? = x) (hl : k < w.heap.size) : w'.heap[k]? = x := by
  rw [hh, ← hk]
  exact Below.heap_alloc w o k hl

section
variable {w w2 : World} {A : Nat} {rs rs' : RS} {fp : Nat → Prop} {vp vf vp' vf' : Value} {es es' : List PV}

def S72 : TypeId → Prop := fun t => t ≠ 72

theorem RAt.headSet {cs : Array Value} (hh : w.heap[A]? = some (.cells cs 72 (0, 0))) (j : Nat) (v : Value) (hj : cs.setIfInBounds j v = #[.int .i64 rs'.room, vp', vf', .int .i64 rs'.next])
    (fpA : fp A) (fplt : ∀ k, fp k → k < w.heap.size) (prow : w.ownsRow 0 95 5 vp' es'.length (pcells es')) (fpP : OB fp vp') (free : w.ownsRow 0 3 1 vf' rs'.free.length (freeCells rs'.free)) (fpF : OB fp vf') (data : PD w fp es') (ps : es'.map (fun e => e.1) = rs'.ps) :
    RAt (w.setCell ⟨A, j, none⟩ v) A rs' fp vp' vf' es' := by
  have hk : KT S72 w (w.setCell ⟨A, j, none⟩ v) := KT.setCell hh (fun h => h rfl) j v
  have hk2 : KT S24 w (w.setCell ⟨A, j, none⟩ v) := KT.setCell hh (fun h => by rcases h with h | h <;> cases h) j v
  have hsz : (w.setCell ⟨A, j, none⟩ v).heap.size = w.heap.size := by simp [World.setCell]
  exact
  { head := by rw [heap_setCell_same w A j _ 72 _ hh, hj]
    fpA := fpA
    fplt := fun k hf => by rw [hsz]; exact fplt k hf
    prow := hk.row prow (by unfold S72; decide)
    fpP := fpP
    free := hk.row free (by unfold S72; decide)
    fpF := fpF
    data := data.keep hk2
    ps := ps }

theorem RAt.setNext (h : RAt w A rs fp vp vf es) (n : Nat) : RAt (w.setCell ⟨A, 3, none⟩ (.int .i64 n)) A { rs with next := n } fp vp vf es :=
  RAt.headSet h.head 3 _ (by simp [Array.setIfInBounds]) h.fpA h.fplt h.prow h.fpP h.free h.fpF h.data h.ps

/-- A row of its own for the free indexes. -/
def NewFree (W : World) (A : Nat) (l : List Nat) (w' : World) : Prop :=
  ∃ v w1, Kp (fun _ => False) W w1 ∧ w1.ownsRow 0 3 1 v l.length (freeCells l) ∧ (∀ k, v.ownBlock = some k → W.heap.size ≤ k) ∧ w1.setCell ⟨A, 2, none⟩ v = w'

theorem RAt.newFree (h : RAt w A rs fp vp vf es) {l : List Nat} (hn : NewFree w A l w2) : (∃ v, RAt w2 A { rs with free := l } (ext fp w w2) vp v es) ∧ Kp fp w w2 := by
  obtain ⟨v, w1, hk, ho, hb, rfl⟩ := hn
  have h1 := h.kp hk
  have hsz : (w1.setCell ⟨A, 2, none⟩ v).heap.size = w1.heap.size := by simp [World.setCell]
  have hk2 : Kp fp w (w1.setCell ⟨A, 2, none⟩ v) := hk.of_false.trans' (Kp.setCell _ (p := ⟨A, 2, none⟩) h.fpA _)
  refine ⟨⟨v, ?_⟩, hk2⟩
  have hext : ∀ k, ext fp w (w1.setCell ⟨A, 2, none⟩ v) k → k < w1.heap.size := fun k hx => by
    rcases hx with hx | hx
    · exact h1.fplt k hx
    · omega
  exact RAt.headSet (rs' := { rs with free := l }) h1.head 2 v (by simp [Array.setIfInBounds]) (.inl h.fpA) hext h1.prow (fun k hk => .inl (h1.fpP k hk)) ho
    (fun k hk => .inr ⟨hb k hk, by rw [hsz]; exact own_lt ho k hk⟩) (h1.data.mono fun k hk => .inl hk) h1.ps

theorem RAt.setFreed {g n cap i : Nat} {p : RP} {u v : Value} (h : RAt w A rs fp (.slice (some ⟨g, 0, none⟩) n cap) vf es) (he : es[i]? = some (p, u, v)) :
    RAt (w.setCell ⟨g, i * 5 + 4, none⟩ (.bool true)) A { rs with ps := rs.ps.set i (rfreed p) } fp (.slice (some ⟨g, 0, none⟩) n cap) vf (es.set i (rfreed p, u, v)) := by
  obtain ⟨cur, hg⟩ := own_block h.prow (k := g) rfl
  have hk2 : KT S24 w (w.setCell ⟨g, i * 5 + 4, none⟩ (.bool true)) := KT.setCell hg (fun h => by rcases h with h | h <;> cases h) _ _
  have hk3 : KT (fun t => t ≠ 95) w (w.setCell ⟨g, i * 5 + 4, none⟩ (.bool true)) := KT.setCell hg (fun h => h rfl) _ _
  have hsz : (w.setCell ⟨g, i * 5 + 4, none⟩ (.bool true)).heap.size = w.heap.size := by simp [World.setCell]
  have hpr := h.prow
  obtain ⟨ao, c, hv, hp, _⟩ := own_shape hpr
  simp only [Value.slice.injEq] at hv
  obtain ⟨rfl, rfl, rfl⟩ := hv
  have hst := (hpr.stored (i * 5 + 4) (.bool true)).1
  rw [pcells_set es i 4 _ (rfreed p, u, v) (.bool true) he (by omega) rfl] at hst
  have hd := h.data.keep hk2
  exact
  { head := hk3.keep A _ 72 (by decide) h.head
    fpA := h.fpA
    fplt := fun k hf => by rw [hsz]; exact h.fplt k hf
    prow := by rw [List.length_set]; exact hst
    fpP := h.fpP
    free := hk3.row h.free (by decide)
    fpF := h.fpF
    data :=
    { vals := fun k e hke => by
        rcases get_set_some hke with ⟨rfl, rfl, _⟩ | ⟨_, hke⟩
        · have t := hd.vals i _ he
          exact t
        · exact hd.vals k e hke
      has := fun k e hke => by
        rcases get_set_some hke with ⟨rfl, rfl, _⟩ | ⟨_, hke⟩
        · have t := hd.has i _ he
          exact t
        · exact hd.has k e hke
      ap1 := fun k l a c hkl ha hc => by
        rcases get_set_some ha with ⟨rfl, rfl, _⟩ | ⟨_, ha⟩
        · rcases get_set_some hc with ⟨rfl, rfl, _⟩ | ⟨_, hc⟩
          · exact absurd rfl hkl
          · have t := hd.ap1 i l _ c hkl he hc
            exact t
        · rcases get_set_some hc with ⟨rfl, rfl, _⟩ | ⟨_, hc⟩
          · have t := hd.ap1 k i a _ hkl ha he
            exact t
          · exact hd.ap1 k l a c hkl ha hc
      ap2 := fun k l a c hkl ha hc => by
        rcases get_set_some ha with ⟨rfl, rfl, _⟩ | ⟨_, ha⟩
        · rcases get_set_some hc with ⟨rfl, rfl, _⟩ | ⟨_, hc⟩
          · exact absurd rfl hkl
          · have t := hd.ap2 i l _ c hkl he hc
            exact t
        · rcases get_set_some hc with ⟨rfl, rfl, _⟩ | ⟨_, hc⟩
          · have t := hd.ap2 k i a _ hkl ha he
            exact t
          · exact hd.ap2 k l a c hkl ha hc }
    ps := by simp [List.map_set, h.ps] }

/-- A piece more, whose numbers and marks are new since W0. -/
theorem RAt.push {W1 W2 : World} (h : RAt w A rs fp vp vf es) (hk : Kp (fun _ => False) w W1) {p : RP} {u v vp' : Value} (hu : W1.ownsRow 0 2 1 u p.vals.length (valCells p.vals)) (hv : W1.ownsRow 0 4 1 v p.has.length (hasCells p.has))
    (hnu : ∀ k, u.ownBlock = some k → w.heap.size ≤ k) (hnv : ∀ k, v.ownBlock = some k → w.heap.size ≤ k)
    (hg : W1.grownBy W2 vp.ownBlock) (ho : W2.ownsRow 0 95 5 vp' (es.length + 1) (pcells es ++ pcell (p, u, v))) (hf : freshOr W1 vp vp') :
    RAt (W2.setCell ⟨A, 1, none⟩ vp') A { rs with ps := rs.ps ++ [p] } (ext fp w (W2.setCell ⟨A, 1, none⟩ vp')) vp' vf (es ++ [(p, u, v)]) ∧ Kp fp w (W2.setCell ⟨A, 1, none⟩ vp') := by
  have h1 := h.kp hk
  have hsz : (W2.setCell ⟨A, 1, none⟩ vp').heap.size = W2.heap.size := by simp [World.setCell]
  have hrow : ∀ k, vp.ownBlock = some k → ∃ cs t fr, W1.heap[k]? = some (.cells cs t fr) ∧ ¬ (t ≠ 95) := fun k hk => by
    obtain ⟨c, hc⟩ := own_block h1.prow hk
    exact ⟨c, 95, _, hc, by simp⟩
  have k95 : KT (fun t => t ≠ 95) W1 W2 := KT.grown hg hrow
  have k24 : KT S24 W1 W2 := ⟨k95.size, fun k cs t ht hc => k95.keep k cs t (by rcases ht with h | h <;> (subst h; decide)) hc⟩
  have hkk : Kp fp w W2 := ⟨hg.os.trans hk.os, hg.tape.trans hk.tape, hg.output.trans hk.output, Nat.le_trans hk.size hg.size, fun k hl hn => (hg.block k (Nat.lt_of_lt_of_le hl hk.size) (fun e => hn (h.fpP k e.symm))).trans (hk.block k hl id)⟩
  have hk3 : Kp fp w (W2.setCell ⟨A, 1, none⟩ vp') := hkk.trans' (Kp.setCell _ (p := ⟨A, 1, none⟩) h.fpA _)
  refine ⟨?_, hk3⟩
  have hext : ∀ k, ext fp w (W2.setCell ⟨A, 1, none⟩ vp') k → k < W2.heap.size := fun k hx => by
    rcases hx with hx | hx
    · exact Nat.lt_of_lt_of_le (h.fplt k hx) hkk.size
    · omega
  have hu2 := k95.row hu (by decide)
  have hv2 := k95.row hv (by decide)
  have hd := (h1.data.keep k24).mono (fp' := ext fp w (W2.setCell ⟨A, 1, none⟩ vp')) fun k hk => .inl hk
  have hold1 : ∀ (k : Nat) (e : PV), es[k]? = some e → apart e.2.1 u ∧ apart u e.2.1 := fun k e he => by
    refine ⟨fun b h1 h2 => ?_, fun b h1 h2 => ?_⟩
    · have := h.fplt b ((h.data.vals k e he).2 b h1)
      have := hnu b h2
      omega
    · have := h.fplt b ((h.data.vals k e he).2 b h2)
      have := hnu b h1
      omega
  have hold2 : ∀ (k : Nat) (e : PV), es[k]? = some e → apart e.2.2 v ∧ apart v e.2.2 := fun k e he => by
    refine ⟨fun b h1 h2 => ?_, fun b h1 h2 => ?_⟩
    · have := h.fplt b ((h.data.has k e he).2 b h1)
      have := hnv b h2
      omega
    · have := h.fplt b ((h.data.has k e he).2 b h2)
      have := hnv b h1
      omega
  refine RAt.headSet (rs' := { rs with ps := rs.ps ++ [p] }) (k95.keep A _ 72 (by decide) h1.head) 1 vp' (by simp [Array.setIfInBounds]) (.inl h.fpA) hext ?_ ?_ (k95.row h1.free (by decide)) (fun k hk => .inl (h.fpF k hk)) ?_ ?_
  · have e : pcells (es ++ [(p, u, v)]) = pcells es ++ pcell (p, u, v) := by simp [pcells]
    rw [e, List.length_append]
    exact ho
  · intro k hk'
    rcases hf with hf | hf
    · exact .inl (h.fpP k (hf ▸ hk'))
    · refine .inr ⟨Nat.le_trans hk.size (hf k hk'), by rw [hsz]; exact own_lt ho k hk'⟩
  · exact
    { vals := fun k e he => by
        rcases getElem?_snoc he with he | ⟨_, rfl⟩
        · exact hd.vals k e he
        · exact ⟨hu2, fun b hb => .inr ⟨hnu b hb, by rw [hsz]; exact own_lt hu2 b hb⟩⟩
      has := fun k e he => by
        rcases getElem?_snoc he with he | ⟨_, rfl⟩
        · exact hd.has k e he
        · exact ⟨hv2, fun b hb => .inr ⟨hnv b hb, by rw [hsz]; exact own_lt hv2 b hb⟩⟩
      ap1 := fun k l a c hkl ha hc => by
        rcases getElem?_snoc ha with ha | ⟨hk0, rfl⟩
        · rcases getElem?_snoc hc with hc | ⟨_, rfl⟩
          · exact hd.ap1 k l a c hkl ha hc
          · exact (hold1 k a ha).1
        · rcases getElem?_snoc hc with hc | ⟨hl0, rfl⟩
          · exact (hold1 l c hc).2
          · exact absurd (hk0.trans hl0.symm) hkl
      ap2 := fun k l a c hkl ha hc => by
        rcases getElem?_snoc ha with ha | ⟨hk0, rfl⟩
        · rcases getElem?_snoc hc with hc | ⟨_, rfl⟩
          · exact hd.ap2 k l a c hkl ha hc
          · exact (hold2 k a ha).1
        · rcases getElem?_snoc hc with hc | ⟨hl0, rfl⟩
          · exact (hold2 l c hc).2
          · exact absurd (hk0.trans hl0.symm) hkl }
  · simp [h.ps]
end
end Go.Proofs.Ytbjofdijhcdmaaa
