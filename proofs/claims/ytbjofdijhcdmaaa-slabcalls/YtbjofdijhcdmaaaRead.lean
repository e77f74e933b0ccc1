/-
  What a slab's readers answer, by the data that it stands for: find, Load, Off, Size, Live, Used.
-/
import Derived.Test.YtbjofdijhcdmaaaFind
import Derived.Test.YtbjofdijhcdmaaaMod
namespace Go.Proofs.Ytbjofdijhcdmaaa
set_option linter.unusedVariables false
open Go.RowKit

section
variable {w : World} {A : Nat} {st : Sl} {fp : Nat → Prop} {ve vf : Value} {es : List (Value × Value)}

theorem RepAt.cells (h : RepAt w A st fp ve vf es) :
    w.cell? ⟨A, 0, none⟩ = some (.int .i64 st.room) ∧ w.cell? ⟨A, 1, none⟩ = some (.int .i64 st.live) ∧ w.cell? ⟨A, 2, none⟩ = some (.int .i64 st.used) ∧ w.cell? ⟨A, 3, none⟩ = some ve ∧ w.cell? ⟨A, 4, none⟩ = some vf := by
  refine ⟨?_, ?_, ?_, ?_, ?_⟩ <;> simp [World.cell?, h.head]
theorem RepAt.frz (h : RepAt w A st fp ve vf es) (j : Nat) : w.frozen? ⟨A, j, none⟩ = false := frozen_of_row w A j _ 69 h.head
theorem RepAt.get (h : RepAt w A st fp ve vf es) {i : Nat} {e : Ent} (he : st.ents[i]? = some e) : ∃ u v, es[i]? = some (u, v) := by
  have hi : i < es.length := by rw [h.len]; exact (List.getElem?_eq_some_iff.1 he).1
  exact ⟨es[i].1, es[i].2, by rw [List.getElem?_eq_getElem hi]⟩
theorem RepAt.entCell {g n cap : Nat} (h : RepAt w A st fp (.slice (some ⟨g, 0, none⟩) n cap) vf es) {i : Nat} {u v : Value} (hi : es[i]? = some (u, v)) :
    w.cell? ⟨g, i * 2, none⟩ = some u ∧ w.cell? ⟨g, i * 2 + 1, none⟩ = some v := by
  have hl : i < es.length := (List.getElem?_eq_some_iff.1 hi).1
  have ho := h.ents
  obtain ⟨ao, c, hv, hp, _⟩ := own_shape ho
  simp only [Value.slice.injEq] at hv
  obtain ⟨rfl, rfl, rfl⟩ := hv
  have h2 := flat2_get (fun e : Value × Value => e.1) (fun e => e.2) es i
  rw [hi] at h2
  exact ⟨(ho.cellAt _ (by omega)).trans h2.1, (ho.cellAt _ (by omega)).trans h2.2⟩
theorem RepAt.entFrz {g n cap : Nat} (h : RepAt w A st fp (.slice (some ⟨g, 0, none⟩) n cap) vf es) (j : Nat) : w.frozen? ⟨g, j, none⟩ = false := by
  obtain ⟨ao, c, hv, hp, _⟩ := own_shape h.ents
  simp only [Value.slice.injEq] at hv
  obtain ⟨rfl, rfl, rfl⟩ := hv
  exact h.ents.frozenAt j
theorem RepAt.shapeE (h : RepAt w A st fp ve vf es) : ∃ ao cap, ve = .slice ao st.ents.length cap := by
  obtain ⟨ao, c, hv, _⟩ := own_shape h.ents
  exact ⟨ao, c, by rw [hv, h.len]⟩
theorem RepAt.posE (h : RepAt w A st fp ve vf es) {i : Nat} {e : Ent} (he : st.ents[i]? = some e) : ∃ g cap, ve = .slice (some ⟨g, 0, none⟩) st.ents.length cap := by
  have hi : i < st.ents.length := (List.getElem?_eq_some_iff.1 he).1
  obtain ⟨g, c, hv, _⟩ := own_pos h.ents (by rw [h.len]; omega)
  exact ⟨g, c, by rw [hv, h.len]⟩

theorem idx_cast (a : Int) (h0 : 0 ≤ a) : ((idx a : Nat) : Int) = a % 4294967296 / 4096 := by unfold idx; omega
theorem age_cast (a : Int) (hb : 4611686018427387904 ≤ a) : ((ageN a : Nat) : Int) = (a - 4611686018427387904) / 4294967296 := by unfold ageN; omega
theorem plc_cast (a : Int) : ((plc a : Nat) : Int) = a % 4096 := by unfold plc; omega

theorem sizeCell {v : Value} {l : List Nat} {ns cs gs i : Nat} (h : w.ownsRow 0 56 1 v l.length (sizeCells l)) (hv : v = .slice (some ⟨gs, 0, none⟩) ns cs) {z : Nat} (hz : l[i]? = some z) :
    w.cell? ⟨gs, i, none⟩ = some (.int .u16 z) := by
  subst hv
  obtain ⟨ao, c, hv, hp, _⟩ := own_shape h
  simp only [Value.slice.injEq] at hv
  obtain ⟨rfl, rfl, rfl⟩ := hv
  have hl : i < l.length := (List.getElem?_eq_some_iff.1 hz).1
  refine (h.cellAt i (by omega)).trans ?_
  simp [sizeCells, hz]

theorem find_err (h : RepAt w A st fp ve vf es) (hv : Inv st) (hs : Small st 1000000000) (a : Int) (h0 : 0 ≤ a) (h1 : a < 18446744073709551616) (hc : mfind st a ≠ 0) :
    Calls Try.prog 42 #[.pointer (some ⟨A, 0, none⟩), .int .u64 a] w fun e w' => e = .returned (.tuple #[.pointer none, .int .i64 0, .int .i64 (mfind st a)]) ∧ w = w' := by
  by_cases hb : a < 4611686018427387904
  · have : mfind st a = 12 := by simp [mfind, hb]
    rw [this]
    exact find_low A a w h0 hb
  · have hb' : 4611686018427387904 ≤ a := by omega
    cases he : st.ents[idx a]? with
    | none =>
      have : mfind st a = 12 := by simp [mfind, hb, he]
      rw [this]
      obtain ⟨ao, cap, rfl⟩ := h.shapeE
      have hl := List.getElem?_eq_none_iff.1 he
      exact find_beyond A ao _ cap a w h0 h1 hb' h.cells.2.2.2.1 (by rw [← idx_cast a h0]; omega)
    | some e =>
      have hi : idx a < st.ents.length := (List.getElem?_eq_some_iff.1 he).1
      obtain ⟨g, cap, rfl⟩ := h.posE he
      obtain ⟨u, v, hu⟩ := h.get he
      obtain ⟨hcu, hcv⟩ := h.entCell hu
      obtain ⟨ho1, _⟩ := h.sizes _ _ _ he hu
      obtain ⟨ho2, _⟩ := h.slots _ _ _ he hu
      have hmem : e ∈ st.ents := List.mem_of_getElem? he
      have hlt : a % 4294967296 / 4096 < (st.ents.length : Int) := by rw [← idx_cast a h0]; omega
      cases hz : e.sizes[ageN a]? with
      | none =>
        have : mfind st a = 12 := by simp [mfind, hb, he, hz]
        rw [this]
        obtain ⟨as_, cs, rfl, _⟩ := own_shape ho1
        have hl := List.getElem?_eq_none_iff.1 hz
        exact find_older A g _ cap as_ _ cs a w h0 h1 hb' h.cells.2.2.2.1 hlt hcu (by rw [← age_cast a hb']; omega)
      | some z =>
        have hal : ageN a < e.sizes.length := (List.getElem?_eq_some_iff.1 hz).1
        obtain ⟨gs, cs, rfl, _⟩ := own_pos ho1 (by omega)
        have hzc := sizeCell ho1 rfl hz
        have hal' : (a - 4611686018427387904) / 4294967296 < (e.sizes.length : Int) := by rw [← age_cast a hb']; omega
        have hzb := ((hv.sizes e hmem).2 z (List.mem_of_getElem? hz))
        by_cases hp : z ≤ plc a
        · have : mfind st a = 12 := by simp [mfind, hb, he, hz, hp]
          rw [this]
          exact find_place A g _ cap gs _ cs z a w h0 h1 hb' h.cells.2.2.2.1 hlt hcu hal' hzc (by omega) (by rw [← plc_cast a]; omega)
        · by_cases hf : ageN a + 1 < e.sizes.length ∨ e.slots.length = 0
          · have : mfind st a = 14 := by
              unfold mfind
              rw [if_neg hb]
              simp only [he, hz]
              rw [if_neg hp, if_pos hf]
            rw [this]
            obtain ⟨as_, ct, hvv, _⟩ := own_shape ho2
            exact find_freed A g _ cap gs _ cs as_ _ ct z a w h0 h1 hb' h.cells.2.2.2.1 hlt hcu (hs.sizes e hmem) hal' (by rw [← hvv]; exact hcv) hzc (by rw [← plc_cast a]; omega) (by omega) (by rw [← age_cast a hb']; omega)
          · have : mfind st a = 0 := by
              unfold mfind
              rw [if_neg hb]
              simp only [he, hz]
              rw [if_neg hp, if_neg hf]
            exact absurd this hc

theorem find_okay {g n cap : Nat} (h : RepAt w A st fp (.slice (some ⟨g, 0, none⟩) n cap) vf es) (hv : Inv st) (hs : Small st 1000000000) (a : Int) (h0 : 0 ≤ a) (h1 : a < 18446744073709551616) (hc : mfind st a = 0) :
    Calls Try.prog 42 #[.pointer (some ⟨A, 0, none⟩), .int .u64 a] w fun e w' => e = .returned (.tuple #[.pointer (some ⟨g, idx a * 2, none⟩), .int .i64 (plc a), .int .i64 0]) ∧ w = w' := by
  obtain ⟨hb, e, he, hlen, hz, hp⟩ := mfind_zero hv hc
  have hi : idx a < st.ents.length := (List.getElem?_eq_some_iff.1 he).1
  have hmem : e ∈ st.ents := List.mem_of_getElem? he
  obtain ⟨g', cap', hve⟩ := h.posE he
  simp only [Value.slice.injEq, Option.some.injEq, Addr.mk.injEq, and_true] at hve
  obtain ⟨rfl, rfl, rfl⟩ := hve
  obtain ⟨u, v, hu⟩ := h.get he
  obtain ⟨hcu, hcv⟩ := h.entCell hu
  obtain ⟨ho1, _⟩ := h.sizes _ _ _ he hu
  obtain ⟨ho2, _⟩ := h.slots _ _ _ he hu
  have hlt : a % 4294967296 / 4096 < (st.ents.length : Int) := by rw [← idx_cast a h0]; omega
  obtain ⟨gs, cs, rfl, _⟩ := own_pos ho1 (by omega)
  obtain ⟨gt, ct, rfl, _⟩ := own_pos ho2 (by omega)
  have hzc := sizeCell ho1 rfl hz
  have hzb := ((hv.sizes e hmem).2 _ (List.mem_of_getElem? hz))
  have := find_good A g st.ents.length cap gs _ cs _ _ ct _ a w h0 h1 hb h.cells.2.2.2.1 hlt hcu (hs.sizes e hmem) (by rw [← age_cast a hb]; omega) hcv hzc (by rw [← plc_cast a]; omega) (by omega) (by rw [← age_cast a hb]; omega) (by omega)
  rw [← plc_cast a] at this
  exact this
end
end Go.Proofs.Ytbjofdijhcdmaaa
