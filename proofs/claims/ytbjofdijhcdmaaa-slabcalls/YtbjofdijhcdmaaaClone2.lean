/-
  The walk of Clone.
-/
import Derived.Test.YtbjofdijhcdmaaaClone
namespace Go.Proofs.Ytbjofdijhcdmaaa
set_option linter.unusedVariables false
open Go.RowKit

theorem one_free (l : List Nat) : ∀ u ∈ freeCells l, u.oneCell' = true := by
  intro u hu
  simp only [freeCells, List.mem_map] at hu
  obtain ⟨n, _, rfl⟩ := hu
  rfl
theorem one_sizes (l : List Nat) : ∀ u ∈ sizeCells l, u.oneCell' = true := by
  intro u hu
  simp only [sizeCells, List.mem_map] at hu
  obtain ⟨n, _, rfl⟩ := hu
  rfl
theorem one_slots (l : List (Int × Bool)) : ∀ u ∈ slotCells l, u.oneCell' = true := by
  intro u hu
  simp only [slotCells, List.mem_flatMap] at hu
  obtain ⟨s, _, hu⟩ := hu
  simp at hu
  rcases hu with rfl | rfl <;> rfl
theorem one_ents {w : World} {A : Nat} {st : Sl} {fp : Nat → Prop} {ve vf : Value} {es : List (Value × Value)} (h : RepAt w A st fp ve vf es) : ∀ u ∈ entCells es, u.oneCell' = true := by
  intro u hu
  simp only [entCells, List.mem_flatMap] at hu
  obtain ⟨s, hs, hu⟩ := hu
  obtain ⟨i, hi⟩ := List.getElem?_of_mem hs
  obtain ⟨e, he⟩ : ∃ e, st.ents[i]? = some e := ⟨_, List.getElem?_eq_getElem (by rw [← h.len]; exact (List.getElem?_eq_some_iff.1 hi).1)⟩
  obtain ⟨a1, c1, h1, _⟩ := own_shape (h.sizes i e s he hi).1
  obtain ⟨a2, c2, h2, _⟩ := own_shape (h.slots i e s he hi).1
  simp at hu
  rcases hu with rfl | rfl
  · rw [h1]; rfl
  · rw [h2]; rfl

theorem Kp.poke {w W : World} (h : Kp (fun _ => False) w W) {p : Addr} (hp : w.heap.size ≤ p.block) (u : Value) : Kp (fun _ => False) w (W.setCell p u) :=
  ⟨h.os, h.tape, h.output, by rw [size_setCell']; exact h.size, fun k hk hn => (heap_setCell_other W p k u (by omega)).trans (h.block k hk hn)⟩

/-- Where the loop stands: k entries are done. -/
def HalfAt (w : World) (st : Sl) (es : List (Value × Value)) (C : Nat) (ve' vf' : Value) (k : Nat) (wr : World) : Prop := ∃ es', Half w wr st es es' k C ve' vf'

def ClonedSlab (w : World) (st : Sl) (en : Ending) (w' : World) : Prop :=
  ∃ C, en = .returned (.pointer (some ⟨C, 0, none⟩)) ∧ w.heap.size ≤ C ∧ Rep w' C st (fun k => w.heap.size ≤ k ∧ k < w'.heap.size) ∧ Kp (fun _ => False) w w'

set_option maxRecDepth 100000 in
set_option maxHeartbeats 1000000 in
theorem clone_any {w : World} {A : Nat} {st : Sl} {fp : Nat → Prop} (h : Rep w A st fp) (hv : Inv st) (hs : Small st 1000000) :
    Calls Try.prog 13 #[.pointer (some ⟨A, 0, none⟩)] w fun en w' => ClonedSlab w st en w' := by
  obtain ⟨ve, vf, es, h⟩ := h
  obtain ⟨c0, c1, c2, c3, c4⟩ := h.cells
  have hAl := h.fplt A h.fpA
  have HR := hidIt h
  have Hs := hidIt hs
  have Hv := hidIt hv
  obtain ⟨ae, ce, rfl⟩ := h.shapeE
  obtain ⟨af, cf, rfl, _⟩ := own_shape h.free
  have hne := hs.ents
  have hnf := hs.free
  clear h hs hv
  go_enter Try.func13, Try.ntmps13
  go_wp2_with fail
  have hk0 : Kp (fun _ => False) w (w.alloc (.cells #[.int .i64 st.room, .int .i64 st.live, .int .i64 st.used, .slice ae st.ents.length ce, .slice af st.free.length cf] 69)) := Kp.alloc _ _ _
  have hR0 := HR.out.grow hk0
  have hC0 := heap_alloc_new w (.cells #[.int .i64 st.room, .int .i64 st.live, .int .i64 st.used, .slice ae st.ents.length ce, .slice af st.free.length cf] 69)
  refine (clone35_any _ _ _ _ hR0.free (by omega) (one_free _)).mono ?_
  rintro en w1 ⟨af', cf', rfl, ho1, hk1⟩
  have hC1 : w1.heap[w.heap.size]? = some (.cells #[.int .i64 st.room, .int .i64 st.live, .int .i64 st.used, .slice ae st.ents.length ce, .slice af st.free.length cf] 69 (0, 0)) := (hk1.block _ (by simp) id).trans hC0
  have hkw1 : Kp (fun _ => False) w w1 := hk0.trans' hk1
  have hsz1 : w.heap.size + 1 ≤ w1.heap.size := by have := hk1.size; simpa using this
  have hR1 := HR.out.grow hkw1
  have a3 := hR1.cells.2.2.2.1
  have f4 : w1.cell? ⟨w.heap.size, 4, none⟩ = some (.slice af st.free.length cf) := by simp [World.cell?, hC1]
  have z4 : w1.frozen? ⟨w.heap.size, 4, none⟩ = false := frozen_of_row w1 _ 4 _ 69 hC1
  have hAC : A ≠ w.heap.size := by omega
  have hCA : w.heap.size ≠ A := by omega
  have hCl : w.heap.size < w1.heap.size := by omega
  have HC1 := hidIt hC1
  have Ho1 := hidIt ho1
  have Hk1 := hidIt hkw1
  clear hk0 hR0 hC0 ho1 hk1 hC1 hkw1 hR1 c0 c1 c2 c3 c4
  go_wp2_with fail
  have hC1' := heap_setCell_same w1 w.heap.size 4 _ 69 (.slice af' st.free.length cf') HC1.out
  have hkw2 : Kp (fun _ => False) w (w1.setCell ⟨w.heap.size, 4, none⟩ (.slice af' st.free.length cf')) := Hk1.out.poke (Nat.le_refl _) _
  have hR2 := HR.out.grow hkw2
  have hE2 := hR2.ents
  rw [hR2.len] at hE2
  have hof : (w1.setCell ⟨w.heap.size, 4, none⟩ (.slice af' st.free.length cf')).ownsRow w.heap.size 3 1 (.slice af' st.free.length cf') st.free.length (freeCells st.free) :=
    own_raise (ownsRow_of_block Ho1.out fun k hk => heap_setCell_other w1 ⟨w.heap.size, 4, none⟩ k _ (by have := (Ho1.out.lt k hk).1; simp at this; show k ≠ w.heap.size; omega)) (by simp)
  refine (clone36_any _ _ _ _ hE2 (by omega) (one_ents hR2)).mono ?_
  rintro en w2 ⟨ae', ce', rfl, ho2, hk2⟩
  have hsz2 : w1.heap.size ≤ w2.heap.size := by have := hk2.size; rwa [size_setCell'] at this
  have hC2 : w2.heap[w.heap.size]? = some (.cells #[.int .i64 st.room, .int .i64 st.live, .int .i64 st.used, .slice ae st.ents.length ce, .slice af' st.free.length cf'] 69 (0, 0)) := by
    rw [hk2.block _ (by rw [size_setCell']; omega) id, hC1']
    simp
  have hkw3 : Kp (fun _ => False) w w2 := hkw2.trans' hk2
  have hof2 : w2.ownsRow w.heap.size 3 1 (.slice af' st.free.length cf') st.free.length (freeCells st.free) := ownsRow_of_block hof fun k hk => hk2.block k (own_lt hof k hk) id
  have b3 : w2.cell? ⟨w.heap.size, 3, none⟩ = some (.slice ae st.ents.length ce) := by simp [World.cell?, hC2]
  have y3 : w2.frozen? ⟨w.heap.size, 3, none⟩ = false := frozen_of_row w2 _ 3 _ 69 hC2
  have hC3 := heap_setCell_same w2 w.heap.size 3 _ 69 (.slice ae' st.ents.length ce') hC2
  have hH0 : HalfAt w st es w.heap.size (.slice ae' st.ents.length ce') (.slice af' st.free.length cf') 0 (w2.setCell ⟨w.heap.size, 3, none⟩ (.slice ae' st.ents.length ce')) := by
    refine ⟨es, ?_⟩
    exact
    { head := by rw [hC3]; simp
      hC := Nat.le_refl _
      ents := by
        rw [HR.out.len]
        rw [size_setCell'] at ho2
        exact own_raise (ownsRow_of_block ho2 fun k hk => heap_setCell_other w2 ⟨w.heap.size, 3, none⟩ k _ (by have := (ho2.lt k hk).1; show k ≠ w.heap.size; omega)) (by omega)
      free := ownsRow_of_block hof2 fun k hk => heap_setCell_other w2 ⟨w.heap.size, 3, none⟩ k _ (show k ≠ w.heap.size from fun e => own_ne hof2 hC2 (by decide) (by rw [← e]; exact hk))
      len := HR.out.len
      done := fun i _ _ hi => by omega
      todo := fun i _ => rfl
      apart := fun i _ _ _ hi => by omega
      keep := hkw3.poke (Nat.le_refl _) _ }
  have HH0 := hidIt hH0
  clear hC1' hkw2 hR2 hE2 hof ho2 hk2 hC2 hkw3 hof2 hC3 hH0 HC1 Ho1 Hk1 a3 f4 z4
  go_wp2
  clear b3 y3
  go_loopw [24] (fun i wr => ∃ k : Nat, k ≤ st.ents.length ∧ i = .int .i64 k ∧ HalfAt w st es w.heap.size (.slice ae' st.ents.length ce') (.slice af' st.free.length cf') k wr) (fun i _ => st.ents.length - (intOf i).toNat)
  case atStart => exact ⟨0, Nat.zero_le _, rfl, HH0.out⟩
  case round =>
    clear HH0
    obtain ⟨k, hk, rfl, hH⟩ := hrel
    by_cases hlt : k < st.ents.length
    · obtain ⟨es', hH⟩ := hH
      obtain ⟨e, he⟩ : ∃ e, st.ents[k]? = some e := ⟨_, List.getElem?_eq_getElem hlt⟩
      obtain ⟨u, v, hu0⟩ := HR.out.get he
      have hu : es'[k]? = some (u, v) := (hH.todo k (Nat.le_refl _)).trans hu0
      obtain ⟨g, c, hv', _⟩ := own_pos hH.ents (by rw [hH.len]; omega)
      simp only [Value.slice.injEq] at hv'
      obtain ⟨rfl, hbad, rfl⟩ := hv'
      clear hbad
      have hRr := HR.out.grow hH.keep
      have ou := (hRr.sizes k e _ he hu0).1
      have ov := (hRr.slots k e _ he hu0).1
      obtain ⟨au, cu, hus, _⟩ := own_shape ou
      obtain ⟨av, cv, hvs, _⟩ := own_shape ov
      simp only at hus hvs
      subst hus hvs
      have hE := hH.ents
      rw [hH.len] at hE
      have h2 := flat2_get (fun e : Value × Value => e.1) (fun e => e.2) es' k
      rw [hu] at h2
      have cu0 : wr.cell? ⟨g, k * 2, none⟩ = some (.slice au e.sizes.length cu) := (hE.cellAt _ (by omega)).trans h2.1
      have cv0 : wr.cell? ⟨g, k * 2 + 1, none⟩ = some (.slice av e.slots.length cv) := (hE.cellAt _ (by omega)).trans h2.2
      have zu0 : wr.frozen? ⟨g, k * 2, none⟩ = false := hE.frozenAt _
      have zv0 : wr.frozen? ⟨g, k * 2 + 1, none⟩ = false := hE.frozenAt _
      have d3 : wr.cell? ⟨w.heap.size, 3, none⟩ = some (.slice (some ⟨g, 0, none⟩) st.ents.length ce') := by simp [World.cell?, hH.head]
      have hgl : g < wr.heap.size := own_lt hE g rfl
      have hgC : g ≠ w.heap.size := fun e => own_ne hE hH.head (by decide) (by rw [← e]; rfl)
      have hCg : w.heap.size ≠ g := fun e => hgC e.symm
      have hsl : e.sizes.length ≤ 1000000 := Hs.out.sizes e (List.mem_of_getElem? he)
      have hst : e.slots.length ≤ 1000000000 := by
        have := le_sum st.ents k e he
        have := Hv.out.used
        have := Hv.out.fits
        have := Hv.out.room
        omega
      have HHf := hidIt hH
      have He := hidIt he
      have Hu := hidIt hu
      have Hou := hidIt ou
      have Hov := hidIt ov
      clear hH he hu hu0 hRr ou ov hE h2 hk
      go_wp2_with fail
      refine (clone37_any _ _ _ _ Hou.out (by omega) (one_sizes _)).mono ?_
      rintro en w3 ⟨au', cu', rfl, ho3, hk3⟩
      have hb3 := hk3.block g hgl id
      have e1 : w3.cell? ⟨g, k * 2, none⟩ = some (.slice au e.sizes.length cu) := (World.cell?_of_block (w := wr) hb3).trans cu0
      have e2 : w3.cell? ⟨g, k * 2 + 1, none⟩ = some (.slice av e.slots.length cv) := (World.cell?_of_block (w := wr) hb3).trans cv0
      have q1 : w3.frozen? ⟨g, k * 2, none⟩ = false := (World.frozen?_of_block (w := wr) hb3).trans zu0
      have q2 : w3.frozen? ⟨g, k * 2 + 1, none⟩ = false := (World.frozen?_of_block (w := wr) hb3).trans zv0
      have hov3 : (w3.setCell ⟨g, k * 2, none⟩ (.slice au' e.sizes.length cu')).ownsRow 0 91 2 (.slice av e.slots.length cv) e.slots.length (slotCells e.slots) :=
        ownsRow_of_block Hov.out fun j hj => by
          have hne : j ≠ g := fun e => own_apart Hov.out HHf.out.ents (by decide) j hj (by rw [e]; rfl)
          rw [heap_setCell_other w3 ⟨g, k * 2, none⟩ j _ hne, hk3.block j (own_lt Hov.out j hj) id]
      have Ho3 := hidIt ho3
      have Hk3 := hidIt hk3
      have Hov3 := hidIt hov3
      have hgl3 : g < w3.heap.size := by have := hk3.size; omega
      clear ho3 hk3 hb3 hov3 Hou Hov cu0 cv0 zu0 zv0
      go_wp2_with fail
      refine (clone38_any _ _ _ _ Hov3.out hst (one_slots _)).mono ?_
      rintro en w4 ⟨av', cv', rfl, ho4, hk4⟩
      have hstep := HHf.out.step He.out Hu.out Hk3.out Ho3.out hk4 (by rw [size_setCell'] at ho4; exact ho4)
      have hb4 := hk4.block g (by rw [size_setCell']; exact hgl3) id
      have e4 : w4.cell? ⟨g, k * 2 + 1, none⟩ = some (.slice av e.slots.length cv) := by
        rw [World.cell?_of_block (w := w3.setCell ⟨g, k * 2, none⟩ (.slice au' e.sizes.length cu')) hb4]
        exact (World.cell?_setCell_other _ _ (a := ⟨g, k * 2, none⟩) (b := ⟨g, k * 2 + 1, none⟩) (by simp)).trans e2
      have q4 : w4.frozen? ⟨g, k * 2 + 1, none⟩ = false := by
        rw [World.frozen?_of_block (w := w3.setCell ⟨g, k * 2, none⟩ (.slice au' e.sizes.length cu')) hb4]
        rw [World.frozen?_setCell]
        exact q2
      have Hst := hidIt hstep
      clear hstep ho4 hk4 hb4 Ho3 Hk3 Hov3 HHf He Hu e1 e2 q1 q2 d3
      go_wp2
      go_roundw
      case rel => exact ⟨k + 1, by omega, by go_num, _, Hst.out⟩
      case measure => simp [intOf]; omega
    · obtain rfl : k = st.ents.length := by omega
      obtain ⟨es', hH⟩ := hH
      have HF : Hid (ClonedSlab w st (.returned (.pointer (some ⟨w.heap.size, 0, none⟩))) wr) := ⟨_, rfl, Nat.le_refl _, hH.rep, hH.keep⟩
      clear hH
      go_wp2
      go_ret
      exact HF.out
end Go.Proofs.Ytbjofdijhcdmaaa
