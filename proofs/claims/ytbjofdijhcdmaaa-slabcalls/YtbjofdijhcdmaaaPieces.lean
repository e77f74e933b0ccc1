/-
  The pieces that there are: pieces.
-/
import Derived.Test.YtbjofdijhcdmaaaClone2
namespace Go.Proofs.Ytbjofdijhcdmaaa
set_option linter.unusedVariables false
open Go.RowKit

/-- The pieces of entries that stand from index i on: first slots' addresses, and sizes. -/
def pcs : List Ent → Nat → List (Int × Int)
  | [], _ => []
  | e :: t, i => if taken e then (mkAddr (e.sizes.length - 1) i, (e.slots.length : Int)) :: pcs t (i + 1) else pcs t (i + 1)
def pieceCells (l : List (Int × Int)) : List Value := l.flatMap fun p => [.int .u64 p.1, .int .i64 p.2]

theorem pcs_append (l m : List Ent) (i : Nat) : pcs (l ++ m) i = pcs l i ++ pcs m (i + l.length) := by
  induction l generalizing i with
  | nil => simp [pcs]
  | cons e t ih =>
    simp only [List.cons_append, pcs, ih, List.length_cons]
    rw [show i + (t.length + 1) = i + 1 + t.length from by omega]
    split <;> rfl
theorem pcs_snoc (l : List Ent) (k : Nat) (e : Ent) (h : l[k]? = some e) :
    pcs (l.take (k + 1)) 0 = pcs (l.take k) 0 ++ (if taken e then [(mkAddr (e.sizes.length - 1) k, (e.slots.length : Int))] else []) := by
  have hk : k < l.length := (List.getElem?_eq_some_iff.1 h).1
  have he : l[k] = e := (List.getElem?_eq_some_iff.1 h).2
  rw [List.take_succ_eq_append_getElem hk, pcs_append, he, List.length_take, Nat.min_eq_left (by omega)]
  simp only [pcs, Nat.zero_add]
theorem pcs_length (l : List Ent) (i : Nat) : (pcs l i).length = l.countP taken := by
  induction l generalizing i with
  | nil => rfl
  | cons e t ih =>
    simp only [pcs, List.countP_cons]
    split
    · rw [List.length_cons, ih]
    · rw [ih]; rfl
theorem pcs_le (l : List Ent) (k : Nat) : (pcs (l.take k) 0).length ≤ k := by
  rw [pcs_length]
  have := List.countP_le_length (p := taken) (l := l.take k)
  rw [List.length_take] at this
  omega
theorem pieceCells_length (l : List (Int × Int)) : (pieceCells l).length = l.length * 2 := by
  induction l with
  | nil => rfl
  | cons a t ih => simp [pieceCells] at ih ⊢; omega

theorem Try.info105 : (Try.prog.info? 105).map (fun i => (i.zero, i.size, i.bytes)) = some (some (.agg #[.int .u64 0, .int .i64 0]), 2, 16) := by kernel_rfl

/-- The list behind k entries. -/
structure Listed (w wr : World) (st : Sl) (g k : Nat) : Prop where
  row : ∃ cs : List Value, wr.ownsRow w.heap.size 105 2 (.slice (some ⟨g, 0, none⟩) st.ents.length st.ents.length) st.ents.length cs ∧ cs.take ((pcs (st.ents.take k) 0).length * 2) = pieceCells (pcs (st.ents.take k) 0)
  keep : Kp (fun _ => False) w wr

theorem take_two (cs : List Value) (m : Nat) (x y : Value) (h : m * 2 + 1 < cs.length) : ((cs.set (m * 2) x).set (m * 2 + 1) y).take ((m + 1) * 2) = cs.take (m * 2) ++ [x, y] := by
  refine List.ext_getElem? fun j => ?_
  simp only [List.getElem?_take, List.getElem?_set, List.getElem?_append, List.length_take, List.length_set]
  by_cases h1 : j < m * 2
  · rw [if_pos (by omega), if_neg (by omega), if_neg (by omega), if_pos (by omega), if_pos h1]
  · by_cases h2 : j = m * 2
    · subst h2
      rw [if_pos (by omega), if_neg (by omega), if_pos rfl, if_pos (by omega), if_neg (by omega)]
      simp [Nat.min_eq_left (show m * 2 ≤ cs.length by omega)]
    · by_cases h3 : j = m * 2 + 1
      · subst h3
        rw [if_pos (by omega), if_pos rfl, if_pos (by omega), if_neg (by omega)]
        simp [Nat.min_eq_left (show m * 2 ≤ cs.length by omega)]
      · rw [if_neg (by omega), if_neg (by omega), List.getElem?_eq_none]
        simp
        omega

theorem Listed.drew {w wr : World} {st : Sl} {g k : Nat} (h : Listed w wr st g k) : Listed w wr.drew st g k := ⟨h.row, h.keep.drew⟩
theorem Listed.skip {w wr : World} {st : Sl} {g k : Nat} {e : Ent} (h : Listed w wr st g k) (he : st.ents[k]? = some e) (ht : taken e = false) : Listed w wr st g (k + 1) := by
  have := pcs_snoc st.ents k e he
  rw [ht] at this
  simp at this
  exact ⟨by rw [this]; exact h.row, h.keep⟩
theorem Listed.add {w wr : World} {st : Sl} {g k : Nat} {e : Ent} (h : Listed w wr st g k) (he : st.ents[k]? = some e) (ht : taken e = true) :
    Listed w ((wr.setCell ⟨g, (pcs (st.ents.take k) 0).length * 2, none⟩ (.int .u64 (mkAddr (e.sizes.length - 1) k))).setCell ⟨g, (pcs (st.ents.take k) 0).length * 2 + 1, none⟩ (.int .i64 e.slots.length)) st g (k + 1) := by
  have hp := pcs_snoc st.ents k e he
  rw [ht] at hp
  simp only [if_true] at hp
  have hk : k < st.ents.length := (List.getElem?_eq_some_iff.1 he).1
  have hle := pcs_le st.ents k
  obtain ⟨cs, ho, hc⟩ := h.row
  have hg := (ho.lt g rfl).1
  have o1 := (ho.stored ((pcs (st.ents.take k) 0).length * 2) (.int .u64 (mkAddr (e.sizes.length - 1) k))).1
  have o2 := (o1.stored ((pcs (st.ents.take k) 0).length * 2 + 1) (.int .i64 e.slots.length)).1
  refine ⟨⟨_, o2, ?_⟩, (h.keep.poke (p := ⟨g, _, none⟩) hg _).poke (p := ⟨g, _, none⟩) hg _⟩
  have hcl : cs.length = st.ents.length * 2 := ho.1
  rw [hp, List.length_append, List.length_singleton, take_two cs _ _ _ (by omega), hc]
  simp [pieceCells]

def PiecesPost (w : World) (l : List (Int × Int)) (en : Ending) (w' : World) : Prop :=
  ∃ g, en = .returned (.slice (some ⟨g, 0, none⟩) l.length l.length) ∧ w.heap.size ≤ g ∧ g < w'.heap.size ∧ (∀ (j : Nat) (p : Int × Int), l[j]? = some p → w'.cell? ⟨g, j * 2, none⟩ = some (.int .u64 p.1) ∧ w'.cell? ⟨g, j * 2 + 1, none⟩ = some (.int .i64 p.2)) ∧ Kp (fun _ => False) w w'

theorem Listed.post {w wr : World} {st : Sl} {g : Nat} (h : Listed w wr st g st.ents.length) : PiecesPost w (pcs st.ents 0) (.returned (.slice (some ⟨g, 0, none⟩) (pcs st.ents 0).length (pcs st.ents 0).length)) wr := by
  obtain ⟨cs, ho, hc⟩ := h.row
  rw [List.take_length] at hc
  have hle := pcs_le st.ents st.ents.length
  rw [List.take_length] at hle
  refine ⟨g, rfl, (ho.lt g rfl).1, (ho.lt g rfl).2, fun j p hj => ?_, h.keep⟩
  have hjl : j < (pcs st.ents 0).length := (List.getElem?_eq_some_iff.1 hj).1
  have h2 := flat2_get (fun p : Int × Int => Value.int .u64 p.1) (fun p => Value.int .i64 p.2) (pcs st.ents 0) j
  have hcells : ∀ i, i < (pcs st.ents 0).length * 2 → cs[i]? = (pieceCells (pcs st.ents 0))[i]? := fun i hi => by
    rw [← hc, List.getElem?_take, if_pos hi]
  rw [hj] at h2
  exact ⟨(ho.cellAt _ (by omega)).trans ((hcells _ (by omega)).trans h2.1), (ho.cellAt _ (by omega)).trans ((hcells _ (by omega)).trans h2.2)⟩

set_option maxRecDepth 100000 in
set_option maxHeartbeats 1000000 in
theorem pieces_any {w : World} {A : Nat} {st : Sl} {fp : Nat → Prop} (h : Rep w A st fp) (hv : Inv st) (hs : Small st 900000) :
    Calls Try.prog 45 #[.pointer (some ⟨A, 0, none⟩)] w fun en w' => PiecesPost w (pcs st.ents 0) en w' := by
  obtain ⟨ve, vf, es, h⟩ := h
  have c3 := h.cells.2.2.2.1
  have hAl := h.fplt A h.fpA
  have HR := hidIt h
  have Hs := hidIt hs
  have Hv := hidIt hv
  obtain ⟨ae, ce, rfl⟩ := h.shapeE
  have hne := hs.ents
  clear h hs hv
  go_enter Try.func45, Try.ntmps45
  obtain ⟨i0, hi, hz0, hz1, hz2⟩ := info_parts Try.info105
  go_wp2_with (at_make; go_must (refine wpList_make_full _ rfl _ _ 102 rfl w.heap.size 105 i0 _ 2 Try.underlying102 hi hz0 hz1 .i64 .i64 st.ents.length st.ents.length st.ents.length rfl rfl rfl rfl ?d1 ?d2 ?d3 ?_))
  case d1 => rw [hz2]; omega
  case d2 => unfold maxLen; omega
  case d3 => simp
  clear hi hz0 hz1 hz2
  intro w1 ho1 hg1
  have hk1 : Kp (fun _ => False) w w1 := Kp.grown hg1 fun k hk => by cases hk
  have d3 := (HR.out.grow hk1).cells.2.2.2.1
  have HL : Hid (Listed w w1 st w.heap.size 0) := ⟨⟨_, ho1, by simp [pcs, pieceCells]⟩, hk1⟩
  clear ho1 hg1 hk1 c3
  go_wp2
  clear d3
  go_loopw [4, 18] (fun t i wr => ∃ k m : Nat, k ≤ st.ents.length ∧ i = .int .i64 k ∧ t = .int .i64 m ∧ Hid (m = (pcs (st.ents.take k) 0).length) ∧ Hid (Listed w wr st w.heap.size k)) (fun _ i _ => st.ents.length - (intOf i).toNat)
  case atStart => exact ⟨0, 0, Nat.zero_le _, rfl, rfl, rfl, HL.out⟩
  case round =>
    clear HL
    obtain ⟨k, m, hk, rfl, rfl, Hm, hL⟩ := hrel
    have hmk : m ≤ k := by rw [Hm.out]; exact pcs_le _ _
    by_cases hlt : k < st.ents.length
    · obtain ⟨e, he⟩ : ∃ e, st.ents[k]? = some e := ⟨_, List.getElem?_eq_getElem hlt⟩
      have hRr := HR.out.grow hL.out.keep
      obtain ⟨g, cap, hve⟩ := hRr.posE he
      simp only [Value.slice.injEq] at hve
      obtain ⟨rfl, _, rfl⟩ := hve
      obtain ⟨u, v, hu0⟩ := HR.out.get he
      obtain ⟨cu0, cv0⟩ := hRr.entCell hu0
      obtain ⟨au, cu, hus, _⟩ := own_shape (hRr.sizes k e _ he hu0).1
      obtain ⟨av, cv, hvs, _⟩ := own_shape (hRr.slots k e _ he hu0).1
      simp only at hus hvs
      subst hus hvs
      have d3 := hRr.cells.2.2.2.1
      have hmem : e ∈ st.ents := List.mem_of_getElem? he
      have hsl := Hs.out.sizes e hmem
      have hsn : 1 ≤ e.sizes.length := List.length_pos_iff.2 (Hv.out.sizes e hmem).1
      obtain ⟨cs, ho, hc⟩ := hL.out.row
      have hgw : w.heap.size < wr.heap.size := own_lt ho _ rfl
      have hgl : g < w.heap.size := HR.out.fplt g (HR.out.fpE g rfl)
      obtain ⟨x1, hx1⟩ : ∃ x, wr.cell? ⟨w.heap.size, m * 2, none⟩ = some x := by
        refine ⟨cs[m * 2]'(by rw [ho.1]; omega), ?_⟩
        rw [ho.cellAt _ (by omega), List.getElem?_eq_getElem (by rw [ho.1]; omega)]
      obtain ⟨x2, hx2⟩ : ∃ x, wr.cell? ⟨w.heap.size, m * 2 + 1, none⟩ = some x := by
        refine ⟨cs[m * 2 + 1]'(by rw [ho.1]; omega), ?_⟩
        rw [ho.cellAt _ (by omega), List.getElem?_eq_getElem (by rw [ho.1]; omega)]
      have z1 := ho.frozenAt (m * 2)
      have z2 := ho.frozenAt (m * 2 + 1)
      have He := hidIt he
      have hml : m < st.ents.length := by omega
      clear he hRr hu0 ho hc cs
      by_cases ht : 0 < e.slots.length
      · have hstep : Hid (Listed w ((wr.setCell ⟨w.heap.size, m * 2, none⟩ (.int .u64 (4611686018427387904 + ((e.sizes.length : Int) - 1) * 4294967296 + (k : Int) * 4096))).setCell ⟨w.heap.size, m * 2 + 1, none⟩ (.int .i64 e.slots.length)).drew st w.heap.size (k + 1)) := by
          have := hL.out.add He.out (by unfold taken; rw [bne_iff_ne]; omega)
          rw [← Hm.out] at this
          have e2 : mkAddr (e.sizes.length - 1) k = 4611686018427387904 + ((e.sizes.length : Int) - 1) * 4294967296 + (k : Int) * 4096 := by
            unfold mkAddr
            rw [Int.ofNat_sub hsn]
            simp
          rw [e2] at this
          exact this.drew
        have hm1 : Hid (m + 1 = (pcs (st.ents.take (k + 1)) 0).length) := by
          have := pcs_snoc st.ents k e He.out
          rw [show taken e = true from by unfold taken; rw [bne_iff_ne]; omega] at this
          show m + 1 = _
          rw [this, Hm.out]
          simp
        clear hL Hm
        go_wp2_with (go_at_call 49; go_must (refine (taken_any _ _ _ _ _ _ cv0).mono ?_); rintro e w' ⟨rfl, rfl⟩)
        go_region_with (go_at_call 40; refine (first_any _ _ _ _ _ _ _ (by exact cu0) hsn (by omega) (by omega) (by omega)).mono ?_; rintro e w' ⟨rfl, rfl⟩)
        all_goals go_wp2
        all_goals go_roundw
        all_goals first
          | exact ⟨k + 1, m + 1, by omega, by go_num, by go_num, hm1, hstep⟩
          | (simp [intOf]; omega)
      · have hstep : Hid (Listed w wr st w.heap.size (k + 1)) := hL.out.skip He.out (by unfold taken; rw [bne_eq_false_iff_eq]; omega)
        have hm1 : Hid (m = (pcs (st.ents.take (k + 1)) 0).length) := by
          have := pcs_snoc st.ents k e He.out
          rw [show taken e = false from by unfold taken; rw [bne_eq_false_iff_eq]; omega] at this
          show m = _
          rw [this, Hm.out]
          simp
        clear hL Hm
        go_wp2_with (go_at_call 49; go_must (refine (taken_any _ _ _ _ _ _ cv0).mono ?_); rintro e w' ⟨rfl, rfl⟩)
        go_roundw
        case rel => exact ⟨k + 1, m, by omega, by go_num, rfl, hm1, hstep⟩
        case measure => simp [intOf]; omega
    · obtain rfl : k = st.ents.length := by omega
      have hF : PiecesPost w (pcs st.ents 0) (.returned (.slice (some ⟨w.heap.size, 0, none⟩) m m)) wr := by
        have h1 := hL.out.post
        have h2 := Hm.out
        rw [List.take_length] at h2
        rw [h2]
        exact h1
      have HF := hidIt hF
      clear hF hL Hm
      go_wp2
      go_ret
      exact HF.out
end Go.Proofs.Ytbjofdijhcdmaaa
