/-
  takeIndex, New, Get.
-/
import Derived.Test.YtbjofdijhcdmaaaPut
import Derived.BigQuiet
import Derived.Deep.QuietTactic
namespace Go.Proofs.Ytbjofdijhcdmaaa
set_option linter.unusedVariables false
open Go.RowKit

theorem Try.info86 : (Try.prog.info? 86).map (fun i => (i.zero, i.size, i.bytes)) = some (some (.agg #[.slice none 0 0, .slice none 0 0]), 2, 48) := by kernel_rfl
theorem Try.info56 : (Try.prog.info? 56).map (fun i => (i.zero, i.size, i.bytes)) = some (some (.int .u16 0), 1, 2) := by kernel_rfl
theorem Try.info91 : (Try.prog.info? 91).map (fun i => (i.zero, i.size, i.bytes)) = some (some (.agg #[.int .i64 0, .bool false]), 2, 16) := by kernel_rfl
theorem Try.info3 : (Try.prog.info? 3).map (fun i => (i.zero, i.size, i.bytes)) = some (some (.int .i64 0), 1, 8) := by kernel_rfl

set_option maxHeartbeats 400000 in
theorem takeIndex_f (A g m cap : Nat) (x : Int) (w : World) (hm : m < 1000000000) (hcap : m + 1 ≤ cap) (hcm : cap ≤ 9223372036854775807) (hc4 : w.cell? ⟨A, 4, none⟩ = some (.slice (some ⟨g, 0, none⟩) (m + 1) cap)) (hz : w.frozen? ⟨A, 4, none⟩ = false)
    (hcell : w.cell? ⟨g, m, none⟩ = some (.int .i64 x)) :
    Calls Try.prog 39 #[.pointer (some ⟨A, 0, none⟩)] w fun e w' => e = .returned (.int .i64 x) ∧ w.setCell ⟨A, 4, none⟩ (.slice (some ⟨g, 0, none⟩) m cap) = w' := by
  go_enter Try.func39, Try.ntmps39
  go_wp2
  go_ret
  exact ⟨rfl, rfl⟩

def blankEnt : Obj := .cells #[.slice none 0 0, .slice none 0 0] 86
def TookN (A : Nat) (w : World) (v : Value) (n : Nat) (xs : List Value) (w' : World) : Prop :=
  ∃ v' w1, w1.ownsRow 0 86 2 v' (n + 1) (xs ++ [.slice none 0 0, .slice none 0 0]) ∧ (w.alloc blankEnt).grownBy w1 v.ownBlock ∧ freshOr (w.alloc blankEnt) v v' ∧ w1.setCell ⟨A, 3, none⟩ v' = w'

theorem cells_two_new (w : World) (x y : Value) (t : TypeId) : ∀ (j : Nat) (u : Value), [x, y][j]? = some u → (w.alloc (.cells #[x, y] t)).cell? ((⟨w.heap.size, 0, none⟩ : Addr).add j) = some u := by
  intro j u h
  match j, h with
  | 0, h => simp at h; subst h; simp [Addr.add]
  | 1, h => simp at h; subst h; simp [Addr.add]

set_option maxHeartbeats 400000 in
theorem takeIndex_n (A : Nat) (w : World) (n : Nat) (ao : Option Addr) (cap : Nat) (n4 : Option Addr) (cap4 : Nat) (hn : n ≤ 1000000000)
    (h3 : w.cell? ⟨A, 3, none⟩ = some (.slice ao n cap)) (hz3 : w.frozen? ⟨A, 3, none⟩ = false) (hA : A < w.heap.size) (h4 : w.cell? ⟨A, 4, none⟩ = some (.slice n4 0 cap4))
    (xs : List Value) (ho : w.ownsRow 0 86 2 (.slice ao n cap) n xs) (hne : Value.ownBlock (.slice ao n cap) ≠ some A) :
    Calls Try.prog 39 #[.pointer (some ⟨A, 0, none⟩)] w fun e w' => e = .returned (.int .i64 n) ∧ TookN A w (.slice ao n cap) n xs w' := by
  obtain ⟨i0, hi, hz0, hz1, hz2⟩ := info_parts Try.info86
  have hne' := hidIt hne
  clear hne
  go_enter Try.func39, Try.ntmps39
  go_wp2_with (at_builtin; go_must (refine wpList_append_fr _ rfl _ _ 67 rfl 86 i0 _ 2 48 Try.underlying67 hi hz0 hz1 hz2 rfl (by decide) _ _ _ rfl (ho.alloc _) ⟨w.heap.size, 0, none⟩ 1 1 [.slice none 0 0, .slice none 0 0] rfl rfl ?c1 ?c2 (by decide) ?c3 ?c4 ?_))
  case c1 => exact cells_two_new _ _ _ _
  case c2 => intro u hu; simp at hu; subst hu; rfl
  case c3 => unfold maxLen; omega
  case c4 => omega
  intro v' w1 ho1 hg1 hf1
  have hA1 : w1.heap[A]? = w.heap[A]? := (hg1.block A (by simp; omega) (fun e => hne'.out e.symm)).trans (Below.heap_alloc w _ A hA)
  have c3 : w1.cell? ⟨A, 3, none⟩ = some (.slice ao n cap) := (World.cell?_of_block (w := w) hA1).trans h3
  have z3 : w1.frozen? ⟨A, 3, none⟩ = false := (World.frozen?_of_block (w := w) hA1).trans hz3
  have HT : Hid (TookN A w (.slice ao n cap) n xs (w1.setCell ⟨A, 3, none⟩ v')) := ⟨v', w1, ho1, hg1, hf1, rfl⟩
  obtain ⟨g', cap', rfl, _, _⟩ := own_pos ho1 (by omega)
  clear hi hz0 hz1 hz2 ho1 hg1 hf1 ho hne' hA1 h3 hz3
  go_wp2
  go_ret
  exact ⟨by simp, HT.out⟩

theorem takeIndex_any {w : World} {A : Nat} {st : Sl} {fp : Nat → Prop} (h : Rep w A st fp) (hs : Small st 999999999) :
    Calls Try.prog 39 #[.pointer (some ⟨A, 0, none⟩)] w fun e w' => e = .returned (.int .i64 (mtake st).2) ∧ Did w A (mtake st).1 fp w' := by
  obtain ⟨ve, vf, es, h⟩ := h
  by_cases hf : st.free = []
  · have e1 : mtake st = ({ st with ents := st.ents ++ [⟨[], []⟩] }, st.ents.length) := by simp [mtake, hf]
    rw [e1]
    obtain ⟨ao, cap, rfl⟩ := h.shapeE
    obtain ⟨n4, cap4, rfl, _⟩ := own_shape h.free
    have hc := h.cells
    have hE := h.ents
    rw [h.len] at hE
    refine (takeIndex_n A w st.ents.length ao cap n4 cap4 (by have := hs.ents; omega) hc.2.2.2.1 (h.frz 3) (h.fplt A h.fpA) (by rw [hc.2.2.2.2, hf]; rfl) _ hE (own_ne h.ents h.head (by decide))).mono ?_
    rintro _ w' ⟨rfl, v', w1, ho1, hg1, hf1, rfl⟩
    refine ⟨rfl, ?_⟩
    have hk0 : Kp (fun _ => False) w (w.alloc blankEnt) := Kp.alloc _ _ _
    have hR := h.grow hk0
    have hR2 := hR.pushEnt hg1 (by rw [h.len]; exact ho1) hf1
    have hk1 : Kp (ext fp w (w.alloc blankEnt)) (w.alloc blankEnt) w1 := Kp.grown hg1 fun k hk => .inl (h.fpE k hk)
    have hk2 : Kp (ext fp w (w.alloc blankEnt)) (w.alloc blankEnt) (w1.setCell ⟨A, 3, none⟩ v') := hk1.trans' (Kp.setCell _ (p := ⟨A, 3, none⟩) (.inl h.fpA) _)
    refine Did.trans ⟨⟨_, _, _, hR⟩, hk0.of_false⟩ ⟨?_, hk2⟩
    have hsz : (w1.setCell ⟨A, 3, none⟩ v').heap.size = w1.heap.size := by simp [World.setCell]
    exact ⟨_, _, _, hR2.mono (fun k hk => by unfold ext at hk ⊢; rw [hsz]; exact hk) (ext_lt hR.fplt hk2.size)⟩
  · obtain ⟨x, hx⟩ : ∃ x, st.free.getLast? = some x := by
      cases hh : st.free.getLast? with
      | none => exact absurd (List.getLast?_eq_none_iff.1 hh) hf
      | some x => exact ⟨x, rfl⟩
    have e1 : mtake st = ({ st with free := st.free.dropLast }, x) := by simp [mtake, hx]
    rw [e1]
    have hpos : 0 < st.free.length := List.length_pos_iff.2 hf
    obtain ⟨m, hm⟩ : ∃ m, st.free.length = m + 1 := ⟨st.free.length - 1, by omega⟩
    have hF := h.free
    rw [hm] at hF
    obtain ⟨g, cap, rfl, hcap, hcm⟩ := own_pos hF (by omega)
    have hx2 : st.free[m]? = some x := by
      rw [List.getLast?_eq_getElem?, hm] at hx
      exact hx
    have hcell : w.cell? ⟨g, m, none⟩ = some (.int .i64 x) := by
      refine (hF.cellAt _ (by omega)).trans ?_
      simp [freeCells, hx2]
    refine (takeIndex_f A g m cap x w (by have := hs.free; omega) hcap (by unfold maxLen at hcm; omega) h.cells.2.2.2.2 (h.frz 4) hcell).mono ?_
    rintro _ w' ⟨rfl, rfl⟩
    refine ⟨rfl, ?_⟩
    have ht := own_take hF (by omega) (m := m) (by omega)
    have hdl : st.free.dropLast.length = m := by simp [hm]
    have hR := h.setFree (w2 := w) (World.grownBy.refl _ _) st.free.dropLast (vf' := .slice (some ⟨g, 0, none⟩) m cap) (by
      rw [hdl]
      have : freeCells st.free.dropLast = (freeCells st.free).take (m * 1) := by
        unfold freeCells
        rw [List.dropLast_eq_take, List.map_take, hm]
        simp
      rw [this]
      exact ht) (.inl rfl)
    have hk : Kp fp w (w.setCell ⟨A, 4, none⟩ (.slice (some ⟨g, 0, none⟩) m cap)) := Kp.setCell _ (p := ⟨A, 4, none⟩) h.fpA _
    exact ⟨⟨_, _, _, hR.mono (fun k hk => by unfold ext at hk ⊢; rcases hk with hk | hk; exact .inl hk; omega) (ext_lt h.fplt hk.size)⟩, hk⟩
end Go.Proofs.Ytbjofdijhcdmaaa
