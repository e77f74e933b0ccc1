/-
  The walks of Len and of slices.Equal.
-/
import Derived.Test.YtcaibfalhkhleaaDoorCnt
namespace Go.Proofs.YtcaibfalhkhleaaDoor
set_option linter.unusedVariables false
open Go.RowKit

theorem count_le (p : Nat → Bool) (k : Nat) : ((List.range k).map (fun i => ones 64 (wd p i))).sum ≤ 64 * k := by
  induction k with
  | zero => simp
  | succ k ih =>
    rw [List.range_succ, List.map_append, List.sum_append]
    have := ones_le 64 (wd p k)
    simp
    omega
theorem count_succ (p : Nat → Bool) (k : Nat) : ((List.range (k + 1)).map (fun i => ones 64 (wd p i))).sum = ((List.range k).map (fun i => ones 64 (wd p i))).sum + ones 64 (wd p k) := by
  rw [List.range_succ, List.map_append, List.sum_append]
  simp

set_option maxHeartbeats 400000 in
theorem len_any {w : World} {A g b : Nat} {p : Nat → Bool} (h : SetAt w A g b p) :
    Calls Tryd.prog 16 #[.pointer (some ⟨A, 0, none⟩)] w fun e w' => e = .returned (.int .i64 (nums b p).length) ∧ w = w' := by
  have hw := h.words
  have hnw := h.fits.nwLe
  have HR := hidIt h.row
  have HS : Hid (((List.range (nw b)).map (fun i => ones 64 (wd p i))).sum = (nums b p).length) := by
    show _ = _
    rw [words_count, nums_more h.fits.2 (nw_le b)]
  clear h
  go_enter Tryd.func16, Tryd.ntmps16
  go_wp2
  go_loopw [3, 11] (fun c i wr => ∃ k : Nat, k ≤ nw b ∧ i = .int .i64 k ∧ wr = w ∧ c = .int .i64 (((List.range k).map (fun i => ones 64 (wd p i))).sum : Nat)) (fun c i _ => nw b - (intOf i).toNat)
  case atStart => exact ⟨0, Nat.zero_le _, rfl, rfl, rfl⟩
  case round =>
    obtain ⟨k, hk, rfl, rfl, rfl⟩ := hrel
    have hcl := count_le p k
    have hcs := count_succ p k
    have hol := ones_le 64 (wd p k)
    by_cases hlt : k < nw b
    · generalize ((List.range k).map (fun i => ones 64 (wd p i))).sum = C at *
      have hc := HR.out.cell hlt
      have hcnt := onesCount_any (wd p k) (wd_lt p k)
      generalize wd p k = X at *
      generalize ones 64 X = Y at *
      go_wp2_with (go_at_call 33; refine (hcnt _).mono ?_; rintro e w' ⟨rfl, rfl⟩)
      go_roundw
      case rel => exact ⟨k + 1, by omega, by go_num, by trivial, by rw [hcs]; go_num⟩
      case measure => simp [intOf]; omega
    · have he : k = nw b := by omega
      subst he
      rw [HS.out]
      clear hcl hcs hol HS
      go_wp2
      go_ret
      exact ⟨rfl, rfl⟩

set_option maxHeartbeats 400000 in
theorem equal_any (g1 g2 m : Nat) (p q : Nat → Bool) (w : World) (h1 : RowAt w g1 m p) (h2 : RowAt w g2 m q) (hm : m ≤ 2000) :
    Calls Tryd.prog 47 #[.slice (some ⟨g1, 0, none⟩) m m, .slice (some ⟨g2, 0, none⟩) m m] w fun e w' => e = .returned (.bool (decide (∀ i, i < m → wd p i = wd q i))) ∧ ∃ k, w' = w.drewN k := by
  have H1 := hidIt h1
  have H2 := hidIt h2
  clear h1 h2
  go_enter Tryd.func47, Tryd.ntmps47
  go_wp2
  go_loopw [13] (fun i wr => ∃ k d : Nat, k ≤ m ∧ i = .int .i64 k ∧ wr = w.drewN d ∧ Hid (∀ i, i < k → wd p i = wd q i)) (fun i _ => m - (intOf i).toNat)
  case atStart => exact ⟨0, 0, Nat.zero_le _, rfl, rfl, fun i hi => by omega⟩
  case round =>
    obtain ⟨k, d, hk, rfl, rfl, hs⟩ := hrel
    by_cases hlt : k < m
    · have hc1 := H1.out.cell hlt
      have hc2 := H2.out.cell hlt
      have hlt2 : (k : Int) < (m : Int) := by omega
      by_cases he : wd p k = wd q k
      · have HN : Hid (∀ i, i < k + 1 → wd p i = wd q i) := fun i hi => by
          by_cases hik : i < k
          · exact hs.out i hik
          · have : i = k := by omega
            subst this
            exact he
        rw [he] at hc1
        generalize wd q k = X at hc1 hc2
        clear hs he
        go_wp2_with fail
        go_quiet (fail)
        go_wp2
        go_roundw
        case rel => exact ⟨k + 1, _, by omega, by go_num, rfl, HN⟩
        case measure => simp [intOf]; omega
      · have HD : Hid (decide (∀ i, i < m → wd p i = wd q i) = false) := by
          show _ = _
          simp
          exact ⟨k, hlt, he⟩
        have hne : (((wd p k : Nat) : Int) != ((wd q k : Nat) : Int)) = true := by
          simp
          omega
        generalize wd p k = X at hc1 hne
        generalize wd q k = Y at hc2 hne
        clear hs he
        go_wp2_with fail
        go_quiet (fail)
        go_wp2
        go_ret
        exact ⟨by rw [HD.out]; rfl, d + nq, by simp⟩
    · have HD : Hid (decide (∀ i, i < m → wd p i = wd q i) = true) := by
        show _ = _
        simp
        exact fun i hi => hs.out i (by omega)
      clear hs
      go_wp2
      go_ret
      exact ⟨by rw [HD.out]; rfl, _, rfl⟩
end Go.Proofs.YtcaibfalhkhleaaDoor
