/-
  The walk of Fill.
-/
import Derived.Test.YtcaibfalhkhleaaDoorTrim
namespace Go.Proofs.YtcaibfalhkhleaaDoor
set_option linter.unusedVariables false
open Go.RowKit

/-- The first k words are full. -/
def fillP (k : Nat) (p : Nat → Bool) : Nat → Bool := fun n => decide (n < 64 * k) || p n
theorem fill_zero (p : Nat → Bool) : fillP 0 p = p := by funext n; simp [fillP]
theorem wd_full (k : Nat) (p : Nat → Bool) : wd (fillP (k + 1) p) k = 18446744073709551615 := by
  refine (wd_eq (by omega) fun j hj => ?_).symm
  rw [show (18446744073709551615 : Nat) = 2 ^ 64 - 1 from rfl, Nat.testBit_two_pow_sub_one]
  unfold fillP
  have : 64 * k + j < 64 * (k + 1) := by omega
  simp [hj, this]
theorem wd_fill (k j : Nat) (p : Nat → Bool) (h : j ≠ k) : wd (fillP (k + 1) p) j = wd (fillP k p) j := by
  refine wd_congr fun i hi => ?_
  unfold fillP
  have : (64 * j + i < 64 * (k + 1)) ↔ (64 * j + i < 64 * k) := by omega
  simp [this]

/-- All numbers within the bound. -/
def fullP (b : Nat) : Nat → Bool := fun n => decide (n < b)
theorem fill_cut (b : Nat) (p : Nat → Bool) : cutP b (fillP (nw b) p) = fullP b := by
  funext n
  unfold cutP fillP fullP
  by_cases h : n < b
  · have : n < 64 * nw b := by have := nw_le b; omega
    simp [h, this]
  · simp [h]

set_option maxHeartbeats 400000 in
theorem fill_any {w : World} {A g b : Nat} {p : Nat → Bool} (h : SetAt w A g b p) :
    Calls Tryd.prog 30 #[.pointer (some ⟨A, 0, none⟩)] w fun e w' => e = .returned (.tuple #[]) ∧ SetAt w' A g b (fullP b) ∧ Kp (fun k => k = g) w w' := by
  have hw := h.words
  have hnw := h.fits.nwLe
  have hst : Hid (RawAt w A g b (fillP 0 p) ∧ Kp (fun k => k = g) w w) := ⟨by rw [fill_zero]; exact h.raw, Kp.refl _ _⟩
  clear h
  go_enter Tryd.func30, Tryd.ntmps30
  go_wp2
  clear hw
  go_loopw [8] (fun i wr => ∃ k : Nat, k ≤ nw b ∧ i = .int .i64 k ∧ Hid (RawAt wr A g b (fillP k p) ∧ Kp (fun k => k = g) w wr)) (fun i _ => nw b - (intOf i).toNat)
  case atStart => exact ⟨0, Nat.zero_le _, rfl, hst.out⟩
  case round =>
    clear hst
    obtain ⟨k, hk, rfl, hrm⟩ := hrel
    by_cases hlt : k < nw b
    · have hw := hrm.out.1.words
      have hc := hrm.out.1.row.cell hlt
      have hf := hrm.out.1.row.frz k
      have H2 : Hid (RawAt (wr.setCell ⟨g, k, none⟩ (.int .u64 18446744073709551615)) A g b (fillP (k + 1) p) ∧ Kp (fun k => k = g) w (wr.setCell ⟨g, k, none⟩ (.int .u64 18446744073709551615))) := by
        have := hrm.out.1.set (q := fillP (k + 1) p) hlt fun j _ hj => wd_fill k j p hj
        rw [wd_full] at this
        exact ⟨this, hrm.out.2.setG _ _⟩
      clear hrm
      go_wp2
      go_roundw
      case rel => exact ⟨k + 1, by omega, by go_num, H2⟩
      case measure => simp [intOf]; omega
    · have he : k = nw b := by omega
      subst he
      have htr := hidIt (trim_any hrm.out.1)
      have HK := hidIt hrm.out.2
      rw [fill_cut] at htr
      clear hrm
      go_wp2_with (go_at_call 46; refine htr.out.mono ?_; rintro e w2 ⟨rfl, hs2, hk2⟩)
      go_end0
      exact ⟨rfl, hs2, HK.out.trans' hk2⟩
end Go.Proofs.YtcaibfalhkhleaaDoor
