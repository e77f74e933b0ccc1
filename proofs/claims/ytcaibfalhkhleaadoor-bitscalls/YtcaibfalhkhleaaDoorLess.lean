/-
  The walk of Less.
-/
import Derived.Test.YtcaibfalhkhleaaDoorMix
namespace Go.Proofs.YtcaibfalhkhleaaDoor
set_option linter.unusedVariables false
open Go.RowKit

set_option maxHeartbeats 4000000 in
theorem merge42 {w : World} {A g b A2 g2 b2 : Nat} {p q : Nat → Bool} (h : SetAt w A g b p) (h2 : SetAt w A2 g2 b2 q) :
    Calls Tryd.prog 40 #[.pointer (some ⟨A, 0, none⟩), .pointer (some ⟨A2, 0, none⟩), .func (.func 42) #[] #[]] w fun e w' => e = .returned (.bool (chg b p (opP (fun x y => x && !y) b p q))) ∧ SetAt w' A g b (opP (fun x y => x && !y) b p q) ∧ Kp (fun k => k = g) w w' := by
  have hw := h.words
  have hnw := h.fits.nwLe
  have hA := h.ltA
  have hg := h.ltg
  have hl1 := hidIt (laid_any h (nw b) (by omega))
  have Hs := hidIt h
  have H2 := hidIt h2
  clear h h2
  go_enter Tryd.func40, Tryd.ntmps40
  go_wp2_with fail
  refine hl1.out.mono ?_
  rintro e w1 ⟨rfl, hr1, hk1⟩
  have Hs1 := hidIt (Hs.out.kept hk1 (fun h => h) (fun h => h))
  have hw1 := Hs1.out.words
  have hl2 := hidIt (laid_any (H2.out.kept hk1 (fun h => h) (fun h => h)) (nw b) (by omega))
  have Hr1 := hidIt hr1
  have Hk1 := hidIt hk1
  have hz1 : w.heap.size ≤ w1.heap.size := hk1.size
  have hz1' : w.heap.size < w1.heap.size := hr1.lt
  clear hr1 hk1 hl1 Hs H2 hw
  go_wp2_with fail
  refine hl2.out.mono ?_
  rintro e w2 ⟨rfl, hr2, hk2⟩
  have hst : Hid (RawAt w2 A g b (mixP (fun x y => x && !y) p q 0) ∧ Kp (fun k => k = g) w2 w2) := ⟨by rw [mix_zero]; exact (Hs1.out.kept hk2 (fun h => h) (fun h => h)).raw, Kp.refl _ _⟩
  have Hr2 := hidIt hr2
  have HR1 := hidIt (Hr1.out.kept hk2 (fun h => h))
  have HK2 : Hid (Kp (fun k => k = g) w w2) := (Hk1.out.mono fun _ h => h.elim).trans' (hk2.mono fun _ h => h.elim)
  clear hr2 hk2 hl2 Hs1 Hr1 Hk1 hw1
  go_wp2
  go_loopw [25] (fun i wr => ∃ k : Nat, k ≤ nw b ∧ i = .int .i64 k ∧ Hid (RawAt wr A g b (mixP (fun x y => x && !y) p q k) ∧ Kp (fun k => k = g) w2 wr)) (fun i _ => nw b - (intOf i).toNat)
  case atStart => exact ⟨0, Nat.zero_le _, rfl, hst.out⟩
  case round =>
    clear hst
    obtain ⟨k, hk, rfl, hrm⟩ := hrel
    by_cases hlt : k < nw b
    · have hw := hrm.out.1.words
      have hc := hrm.out.1.row.cell hlt
      rw [mix_here] at hc
      have hf := hrm.out.1.row.frz k
      have hc2 := (Hr2.out.kept hrm.out.2 (fun h => by omega)).cell hlt
      have hcall := fun W => less1 p q k W
      have HN : Hid (∀ m, RawAt ((wr.drewN m).setCell ⟨g, k, none⟩ (.int .u64 (wd (fun n => (fun x y => x && !y) (p n) (q n)) k : Nat))) A g b (mixP (fun x y => x && !y) p q (k + 1)) ∧ Kp (fun k => k = g) w2 ((wr.drewN m).setCell ⟨g, k, none⟩ (.int .u64 (wd (fun n => (fun x y => x && !y) (p n) (q n)) k : Nat)))) := by
        intro m
        have := (hrm.out.1.drewN m).set (q := mixP (fun x y => x && !y) p q (k + 1)) hlt fun j _ hj => mix_other _ p q k j hj
        rw [mix_next] at this
        exact ⟨this, (hrm.out.2.drewN m).setG _ _⟩
      simp only at HN
      have hlt2 : (k : Int) < (nw b : Int) := by omega
      clear hrm
      generalize wd p k = X at hc hcall
      generalize wd q k = Y at hc2 hcall
      generalize wd (fun n => p n && !q n) k = Z at hcall HN
      go_wp2_with fail
      go_region_with (go_at_call 42; refine (hcall _).mono ?_; rintro e w' ⟨rfl, rfl⟩)
      all_goals
        go_wp2
        go_roundw
        case rel => exact ⟨k + 1, by omega, by go_num, HN.out 1⟩
        case measure => simp [intOf]; omega
    · have he : k = nw b := by omega
      subst he
      have htr := hidIt (trim_any hrm.out.1)
      rw [mix_all] at htr
      have HR3 := hidIt (HR1.out.kept hrm.out.2 (fun h => by omega))
      have HK3 := hidIt (HK2.out.trans' hrm.out.2)
      clear hrm HR1 HK2 Hr2
      go_wp2_with fail
      refine htr.out.mono ?_
      rintro e w3 ⟨rfl, hs3, hk3⟩
      have hw3 := hs3.words
      have heq := hidIt (equal_any w.heap.size g (nw b) p (opP (fun x y => x && !y) b p q) w3 (HR3.out.kept hk3 (fun h => by omega)) hs3.row (by omega))
      have HF : Hid (SetAt w3 A g b (opP (fun x y => x && !y) b p q) ∧ Kp (fun k => k = g) w w3) := ⟨hs3, HK3.out.trans' hk3⟩
      have HB : Hid (chg b p (opP (fun x y => x && !y) b p q) = !decide (∀ i, i < nw b → wd p i = wd (opP (fun x y => x && !y) b p q) i)) := rfl
      generalize decide (∀ i, i < nw b → wd p i = wd (opP (fun x y => x && !y) b p q) i) = D at heq HB
      clear hs3 hk3 htr HR3 HK3
      go_wp2_with fail
      refine heq.out.mono ?_
      rintro e w4 ⟨rfl, d, rfl⟩
      clear heq
      go_wp2
      go_ret
      exact ⟨by rw [HB.out]; rfl, HF.out.1.drewN d, HF.out.2.drewN d⟩

set_option maxHeartbeats 400000 in
theorem less_any {w : World} {A g b A2 g2 b2 : Nat} {p q : Nat → Bool} (h : SetAt w A g b p) (h2 : SetAt w A2 g2 b2 q) :
    Calls Tryd.prog 25 #[.pointer (some ⟨A, 0, none⟩), .pointer (some ⟨A2, 0, none⟩)] w fun e w' => e = .returned (.bool (chg b p (opP (fun x y => x && !y) b p q))) ∧ SetAt w' A g b (opP (fun x y => x && !y) b p q) ∧ Kp (fun k => k = g) w w' := by
  have hm := hidIt (merge42 h h2)
  clear h h2
  generalize chg b p (opP (fun x y => x && !y) b p q) = D at hm ⊢
  go_enter Tryd.func25, Tryd.ntmps25
  go_wp2_with (go_at_call 40; refine hm.out.mono ?_; rintro e w' ⟨rfl, hs, hk⟩)
  go_ret
  exact ⟨rfl, hs, hk⟩
end Go.Proofs.YtcaibfalhkhleaaDoor
