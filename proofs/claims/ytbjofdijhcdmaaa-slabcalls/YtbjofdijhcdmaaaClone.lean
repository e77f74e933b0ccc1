/-
  Clone.
-/
import Derived.Test.YtbjofdijhcdmaaaClones
import Derived.LoopTactic
namespace Go.Proofs.Ytbjofdijhcdmaaa
set_option linter.unusedVariables false
open Go.RowKit

/-- A clone of which the first k entries are done. -/
structure Half (w wr : World) (st : Sl) (es es' : List (Value × Value)) (k C : Nat) (ve' vf' : Value) : Prop where
  head : wr.heap[C]? = some (.cells #[.int .i64 st.room, .int .i64 st.live, .int .i64 st.used, ve', vf'] 69 (0, 0))
  hC : w.heap.size ≤ C
  ents : wr.ownsRow w.heap.size 86 2 ve' es'.length (entCells es')
  free : wr.ownsRow w.heap.size 3 1 vf' st.free.length (freeCells st.free)
  len : es'.length = st.ents.length
  done : ∀ (i : Nat) (e : Ent) (v : Value × Value), i < k → st.ents[i]? = some e → es'[i]? = some v → wr.ownsRow w.heap.size 56 1 v.1 e.sizes.length (sizeCells e.sizes) ∧ wr.ownsRow w.heap.size 91 2 v.2 e.slots.length (slotCells e.slots)
  todo : ∀ i, k ≤ i → es'[i]? = es[i]?
  apart : ∀ (i j : Nat) (u v : Value × Value), i < k → j < k → i ≠ j → es'[i]? = some u → es'[j]? = some v → apart u.1 v.1 ∧ apart u.2 v.2
  keep : Kp (fun _ => False) w wr

theorem Half.rep {w wr : World} {st : Sl} {es es' : List (Value × Value)} {C : Nat} {ve' vf' : Value} (h : Half w wr st es es' st.ents.length C ve' vf') :
    Rep wr C st (fun k => w.heap.size ≤ k ∧ k < wr.heap.size) := by
  have hb : ∀ (e : TypeId) (size : Nat) (v : Value) (n : Nat) (xs : List Value), wr.ownsRow w.heap.size e size v n xs → OB (fun k => w.heap.size ≤ k ∧ k < wr.heap.size) v := fun e size v n xs ho k hk => ho.lt k hk
  have hlt : ∀ (i : Nat) (e : Ent), st.ents[i]? = some e → i < st.ents.length := fun i e he => (List.getElem?_eq_some_iff.1 he).1
  have hlt' : ∀ (i : Nat) (e : Value × Value), es'[i]? = some e → i < st.ents.length := fun i e he => by rw [← h.len]; exact (List.getElem?_eq_some_iff.1 he).1
  exact ⟨ve', vf', es',
  { head := h.head
    fpA := ⟨h.hC, lt_of_block h.head⟩
    fplt := fun k hk => hk.2
    ents := own_weak h.ents
    fpE := hb _ _ _ _ _ h.ents
    free := own_weak h.free
    fpF := hb _ _ _ _ _ h.free
    len := h.len
    sizes := fun i e v h1 h2 => ⟨own_weak (h.done i e v (hlt i e h1) h1 h2).1, hb _ _ _ _ _ (h.done i e v (hlt i e h1) h1 h2).1⟩
    slots := fun i e v h1 h2 => ⟨own_weak (h.done i e v (hlt i e h1) h1 h2).2, hb _ _ _ _ _ (h.done i e v (hlt i e h1) h1 h2).2⟩
    apart1 := fun i j u v hij h1 h2 => (h.apart i j u v (hlt' i u h1) (hlt' j v h2) hij h1 h2).1
    apart2 := fun i j u v hij h1 h2 => (h.apart i j u v (hlt' i u h1) (hlt' j v h2) hij h1 h2).2 }⟩

theorem ownB_of_block {w w' : World} {base : Nat} {e : TypeId} {size : Nat} {v : Value} {n : Nat} {xs : List Value} (h : w.ownsRow base e size v n xs)
    (hb : ∀ k, v.ownBlock = some k → w'.heap[k]? = w.heap[k]?) : w'.ownsRow base e size v n xs := ownsRow_of_block h hb
theorem own_raise {w : World} {base base' : Nat} {e : TypeId} {size : Nat} {v : Value} {n : Nat} {xs : List Value} (h : w.ownsRow base e size v n xs) (hb : base' ≤ base) : w.ownsRow base' e size v n xs := by
  refine ⟨h.1, ?_⟩
  rcases h.2 with h | ⟨g, cap, cur, hv, hg, r⟩
  · exact .inl h
  · exact .inr ⟨g, cap, cur, hv, Nat.le_trans hb hg, r⟩

/-- One entry more is done. -/
theorem Half.step {w wr w1 w2 : World} {st : Sl} {es es' : List (Value × Value)} {k C g cap n : Nat} {vf' u v u' v' : Value} {e : Ent} (h : Half w wr st es es' k C (.slice (some ⟨g, 0, none⟩) n cap) vf')
    (he : st.ents[k]? = some e) (hu : es'[k]? = some (u, v)) (h1 : Kp (fun _ => False) wr w1) (o1 : w1.ownsRow wr.heap.size 56 1 u' e.sizes.length (sizeCells e.sizes))
    (h2 : Kp (fun _ => False) (w1.setCell ⟨g, k * 2, none⟩ u') w2) (o2 : w2.ownsRow w1.heap.size 91 2 v' e.slots.length (slotCells e.slots)) :
    Half w (w2.setCell ⟨g, k * 2 + 1, none⟩ v') st es (es'.set k (u', v')) (k + 1) C (.slice (some ⟨g, 0, none⟩) n cap) vf' := by
  have hsz1 : (w1.setCell ⟨g, k * 2, none⟩ u').heap.size = w1.heap.size := size_setCell' _ _ _
  have hs1 := h1.size
  have hs2 := h2.size
  rw [hsz1] at hs2
  have hs0 := h.keep.size
  have hgl : g < wr.heap.size := own_lt h.ents g rfl
  have hgB : w.heap.size ≤ g := (h.ents.lt g rfl).1
  have hother : ∀ j, j < wr.heap.size → j ≠ g → (w2.setCell ⟨g, k * 2 + 1, none⟩ v').heap[j]? = wr.heap[j]? := fun j hj hne => by
    rw [heap_setCell_other w2 ⟨g, k * 2 + 1, none⟩ j _ hne, h2.block j (by rw [hsz1]; omega) id, heap_setCell_other w1 ⟨g, k * 2, none⟩ j _ hne, h1.block j hj id]
  have hkl : k < es'.length := (List.getElem?_eq_some_iff.1 hu).1
  have hE1 : w1.ownsRow w.heap.size 86 2 (.slice (some ⟨g, 0, none⟩) n cap) es'.length (entCells es') := ownsRow_of_block h.ents fun j hj => h1.block j (own_lt h.ents j hj) id
  obtain ⟨ao, c, hve, _⟩ := own_shape hE1
  simp only [Value.slice.injEq] at hve
  obtain ⟨rfl, rfl, rfl⟩ := hve
  have hE1' := (hE1.stored (k * 2) u').1
  rw [entCells_set1 es' k u v u' hu] at hE1'
  have hE2 : w2.ownsRow w.heap.size 86 2 (.slice (some ⟨g, 0, none⟩) es'.length cap) es'.length (entCells (es'.set k (u', v))) := ownsRow_of_block hE1' fun j hj => h2.block j (own_lt hE1' j hj) id
  have hE2' := (hE2.stored (k * 2 + 1) v').1
  rw [entCells_set2 (es'.set k (u', v)) k u' v v' (by simp [hkl]), List.set_set] at hE2'
  have o1' : (w2.setCell ⟨g, k * 2 + 1, none⟩ v').ownsRow wr.heap.size 56 1 u' e.sizes.length (sizeCells e.sizes) := ownsRow_of_block o1 fun j hj => by
    have hj2 := o1.lt j hj
    have hne : j ≠ g := by omega
    rw [heap_setCell_other w2 ⟨g, k * 2 + 1, none⟩ j _ hne, h2.block j (by rw [hsz1]; omega) id, heap_setCell_other w1 ⟨g, k * 2, none⟩ j _ hne]
  have o2' : (w2.setCell ⟨g, k * 2 + 1, none⟩ v').ownsRow w1.heap.size 91 2 v' e.slots.length (slotCells e.slots) := ownsRow_of_block o2 fun j hj => by
    have hj2 := o2.lt j hj
    exact heap_setCell_other w2 ⟨g, k * 2 + 1, none⟩ j _ (show j ≠ g by omega)
  have hkeep : ∀ (t : TypeId) (s : Nat) (x : Value) (m : Nat) (xs : List Value), wr.ownsRow w.heap.size t s x m xs → t ≠ 86 → (w2.setCell ⟨g, k * 2 + 1, none⟩ v').ownsRow w.heap.size t s x m xs := fun t s x m xs hx hne =>
    ownsRow_of_block hx fun j hj => hother j (own_lt hx j hj) fun e => own_apart hx h.ents hne j hj (by rw [e]; rfl)
  exact
  { head := by
      rw [hother C (lt_of_block h.head) (fun e => own_ne h.ents h.head (by decide) (by rw [e]; rfl))]
      exact h.head
    hC := h.hC
    ents := by simpa using hE2'
    free := hkeep _ _ _ _ _ h.free (by decide)
    len := by simpa using h.len
    done := fun i e' x hi h1 h2 => by
      rcases get_set_some h2 with ⟨rfl, rfl, _⟩ | ⟨hij, h2⟩
      · rw [he] at h1
        simp only [Option.some.injEq] at h1
        subst h1
        exact ⟨own_raise o1' hs0, own_raise o2' (by omega)⟩
      · have := h.done i e' x (by omega) h1 h2
        exact ⟨hkeep _ _ _ _ _ this.1 (by decide), hkeep _ _ _ _ _ this.2 (by decide)⟩
    todo := fun i hi => by
      rw [List.getElem?_set, if_neg (by omega)]
      exact h.todo i (by omega)
    apart := fun i j x y hi hj hij h1 h2 => by
      have hfresh : ∀ (i : Nat) (x : Value × Value), i < k → es'[i]? = some x → (∀ b, x.1.ownBlock = some b → b < wr.heap.size) ∧ (∀ b, x.2.ownBlock = some b → b < wr.heap.size) := fun i x hi hx => by
        obtain ⟨e2, hee⟩ : ∃ e2, st.ents[i]? = some e2 := ⟨_, List.getElem?_eq_getElem (by rw [← h.len]; exact (List.getElem?_eq_some_iff.1 hx).1)⟩
        have := h.done i e2 x hi hee hx
        exact ⟨own_lt this.1, own_lt this.2⟩
      rcases get_set_some h1 with ⟨rfl, rfl, _⟩ | ⟨hki, h1⟩
      · rcases get_set_some h2 with ⟨e, _⟩ | ⟨hkj, h2⟩
        · exact absurd e hij
        · have hf := hfresh j y (by omega) h2
          exact ⟨fun b hb hb' => by have := hf.1 b hb'; have := (o1.lt b hb).1; omega, fun b hb hb' => by have := hf.2 b hb'; have := (o2.lt b hb).1; omega⟩
      · rcases get_set_some h2 with ⟨rfl, rfl, _⟩ | ⟨hkj, h2⟩
        · have hf := hfresh i x (by omega) h1
          exact ⟨fun b hb hb' => by have := hf.1 b hb; have := (o1.lt b hb').1; omega, fun b hb hb' => by have := hf.2 b hb; have := (o2.lt b hb').1; omega⟩
        · exact h.apart i j x y (by omega) (by omega) hij h1 h2
    keep := by
      have k1 : Kp (fun _ => False) w (w2.setCell ⟨g, k * 2 + 1, none⟩ v') := by
        refine ⟨?_, ?_, ?_, by rw [size_setCell']; omega, fun j hj _ => ?_⟩
        · exact (h2.os.trans h1.os).trans h.keep.os
        · exact (h2.tape.trans h1.tape).trans h.keep.tape
        · exact (h2.output.trans h1.output).trans h.keep.output
        · rw [hother j (by omega) (by omega), h.keep.block j hj id]
      exact k1 }
end Go.Proofs.Ytbjofdijhcdmaaa
