/-
  Load, Off and Size in one word each, by the data.
-/
import Derived.Test.YtbjofdijhcdmaaaRead2
namespace Go.Proofs.Ytbjofdijhcdmaaa
set_option linter.unusedVariables false
open Go.RowKit

section
variable {w : World} {A : Nat} {st : Sl} {fp : Nat → Prop} {ve vf : Value} {es : List (Value × Value)}

/-- All that stands at an address that is good. -/
theorem RepAt.good (h : RepAt w A st fp ve vf es) (hv : Inv st) (hs : Small st 1000000000) (a : Int) (h0 : 0 ≤ a) (h1 : a < 18446744073709551616) (hc : mfind st a = 0) :
    ∃ g cap e gs cs gt ct s, ve = .slice (some ⟨g, 0, none⟩) st.ents.length cap ∧ st.ents[idx a]? = some e ∧ es[idx a]? = some (.slice (some ⟨gs, 0, none⟩) e.sizes.length cs, .slice (some ⟨gt, 0, none⟩) e.slots.length ct) ∧
      w.cell? ⟨g, idx a * 2, none⟩ = some (.slice (some ⟨gs, 0, none⟩) e.sizes.length cs) ∧ w.cell? ⟨g, idx a * 2 + 1, none⟩ = some (.slice (some ⟨gt, 0, none⟩) e.slots.length ct) ∧
      plc a < e.slots.length ∧ e.slots[plc a]? = some s ∧ w.cell? ⟨gt, plc a * 2, none⟩ = some (.int .i64 s.1) ∧ w.cell? ⟨gt, plc a * 2 + 1, none⟩ = some (.bool s.2) ∧ w.frozen? ⟨gt, plc a * 2, none⟩ = false ∧ w.frozen? ⟨gt, plc a * 2 + 1, none⟩ = false ∧
      1 ≤ e.sizes.length ∧ e.sizes.length ≤ 1000000000 ∧ e.slots.length ≤ 4095 ∧
      Hid (Calls Try.prog 42 #[.pointer (some ⟨A, 0, none⟩), .int .u64 a] w fun e w' => e = .returned (.tuple #[.pointer (some ⟨g, idx a * 2, none⟩), .int .i64 (plc a), .int .i64 0]) ∧ w = w') := by
  obtain ⟨hb, e, he, hlen, hz, hp⟩ := mfind_zero hv hc
  have hmem : e ∈ st.ents := List.mem_of_getElem? he
  obtain ⟨g, cap, rfl⟩ := h.posE he
  obtain ⟨u, v, hu⟩ := h.get he
  obtain ⟨hcu, hcv⟩ := h.entCell hu
  obtain ⟨ho1, _⟩ := h.sizes _ _ _ he hu
  obtain ⟨ho2, _⟩ := h.slots _ _ _ he hu
  obtain ⟨gs, cs, rfl, _⟩ := own_pos ho1 (by omega)
  obtain ⟨gt, ct, rfl, _⟩ := own_pos ho2 (by omega)
  have hzb := ((hv.sizes e hmem).2 _ (List.mem_of_getElem? hz))
  obtain ⟨s, hsl⟩ : ∃ s, e.slots[plc a]? = some s := ⟨_, List.getElem?_eq_getElem hp⟩
  have h2 := flat2_get (fun s : Int × Bool => Value.int .i64 s.1) (fun s => Value.bool s.2) e.slots (plc a)
  rw [hsl] at h2
  refine ⟨g, cap, e, gs, cs, gt, ct, s, rfl, he, hu, hcu, hcv, hp, hsl, ?_, ?_, ho2.frozenAt _, ho2.frozenAt _, by omega, hs.sizes e hmem, by omega, find_okay h hv hs a h0 h1 hc⟩
  · exact (ho2.cellAt _ (by omega)).trans h2.1
  · exact (ho2.cellAt _ (by omega)).trans h2.2

theorem load_any (h : Rep w A st fp) (hv : Inv st) (hs : Small st 1000000000) (a : Int) (h0 : 0 ≤ a) (h1 : a < 18446744073709551616) :
    Calls Try.prog 18 #[.pointer (some ⟨A, 0, none⟩), .int .u64 a] w fun e w' => e = .returned (.tuple #[.int .i64 (mload st a).1, .int .i64 (mload st a).2]) ∧ w = w' := by
  obtain ⟨ve, vf, es, h⟩ := h
  by_cases hc : mfind st a = 0
  · obtain ⟨g, cap, e, gs, cs, gt, ct, s, rfl, he, hu, hcu, hcv, hp, hsl, hv1, hv2, _, _, _, _, _, hf⟩ := h.good hv hs a h0 h1 hc
    have := load_ok A g _ gt _ ct _ a _ _ w hcv hp hv1 hv2 hf
    have e1 : mload st a = (if s.2 then s.1 else 0, if s.2 then 0 else 15) := by
      unfold mload
      rw [if_neg (by simp [hc])]
      simp only [he, hsl]
      cases s.2 <;> simp
    rw [e1]
    exact this
  · have e1 : mload st a = (0, (mfind st a : Int)) := by
      unfold mload
      rw [if_pos hc]
    rw [e1]
    exact load_err A a _ w (by simp [hc]) (find_err h hv hs a h0 h1 hc)

theorem size_any (h : Rep w A st fp) (hv : Inv st) (hs : Small st 1000000000) (a : Int) (h0 : 0 ≤ a) (h1 : a < 18446744073709551616) :
    Calls Try.prog 23 #[.pointer (some ⟨A, 0, none⟩), .int .u64 a] w fun e w' => e = .returned (.tuple #[.int .i64 (msize st a).1, .int .i64 (msize st a).2]) ∧ w = w' := by
  obtain ⟨ve, vf, es, h⟩ := h
  by_cases hc : mfind st a = 0
  · obtain ⟨g, cap, e, gs, cs, gt, ct, s, rfl, he, hu, hcu, hcv, hp, hsl, hv1, hv2, _, _, _, _, _, hf⟩ := h.good hv hs a h0 h1 hc
    have e1 : msize st a = ((e.slots.length : Int), 0) := by
      unfold msize
      rw [if_neg (by simp [hc])]
      simp only [he]
    rw [e1]
    exact size_ok A g _ _ ct _ a _ w hcv hf
  · have e1 : msize st a = (0, (mfind st a : Int)) := by
      unfold msize
      rw [if_pos hc]
    rw [e1]
    exact size_err A a _ w (by simp [hc]) (find_err h hv hs a h0 h1 hc)

theorem off_any (h : Rep w A st fp) (hv : Inv st) (hs : Small st 900000) (a k : Int) (h0 : 0 ≤ a) (h1 : a < 18446744073709551616) :
    Calls Try.prog 20 #[.pointer (some ⟨A, 0, none⟩), .int .u64 a, .int .i64 k] w fun e w' => e = .returned (.tuple #[.int .u64 (moff st a k).1, .int .i64 (moff st a k).2]) ∧ w = w' := by
  obtain ⟨ve, vf, es, h⟩ := h
  have hs' : Small st 1000000000 := ⟨by have := hs.ents; omega, by have := hs.free; omega, fun e he => by have := hs.sizes e he; omega⟩
  by_cases hc : mfind st a = 0
  · obtain ⟨g, cap, e, gs, cs, gt, ct, s, rfl, he, hu, hcu, hcv, hp, hsl, hv1, hv2, _, _, hn1, hn2, hn3, hf⟩ := h.good hv hs' a h0 h1 hc
    have hi : idx a < st.ents.length := (List.getElem?_eq_some_iff.1 he).1
    have hse := hs.ents
    by_cases hk : k < - (plc a : Int) ∨ (e.slots.length : Int) - plc a ≤ k
    · have e1 : moff st a k = (0, 11) := by
        unfold moff
        rw [if_neg (by simp [hc])]
        simp only [he]
        rw [if_pos hk]
      rw [e1]
      exact off_out A g _ _ ct _ _ a k w hcv (by omega) hp hk hf
    · have e1 : moff st a k = (mkAddr (e.sizes.length - 1) (idx a) + (plc a + k), 0) := by
        unfold moff
        rw [if_neg (by simp [hc])]
        simp only [he]
        rw [if_neg hk]
      rw [e1]
      have := off_ok A g _ _ cs _ ct _ _ _ a k w h0 h1 (by rw [← idx_cast a h0]; omega) hcu hn1 hn2 hcv (by omega) hp (by omega) (by omega) hf
      rw [← idx_cast a h0] at this
      have e2 : mkAddr (e.sizes.length - 1) (idx a) = 4611686018427387904 + ((e.sizes.length : Int) - 1) * 4294967296 + (idx a : Int) * 4096 := by
        unfold mkAddr
        rw [Int.ofNat_sub hn1]
        simp
      rw [e2]
      exact this
  · have e1 : moff st a k = (0, (mfind st a : Int)) := by
      unfold moff
      rw [if_pos hc]
    rw [e1]
    exact off_err A a k _ w (by simp [hc]) (find_err h hv hs' a h0 h1 hc)
end
end Go.Proofs.Ytbjofdijhcdmaaa
