/-
  The walk of the document's Do.
-/
import Derived.Test.YtcaibfalhkhleaaDoorRef2
namespace Go.Proofs.YtcaibfalhkhleaaDoor
set_option linter.unusedVariables false
open Go.RowKit

def mixR (op : Bool → Bool → Bool) (p q : Nat → Bool) (k : Nat) : Nat → Bool := fun n => if n < k then op (p n) (q n) else p n
def chR (op : Bool → Bool → Bool) (p q : Nat → Bool) (k : Nat) : Bool := !decide (∀ n, n < k → p n = op (p n) (q n))
theorem mixR_zero (op : Bool → Bool → Bool) (p q : Nat → Bool) : mixR op p q 0 = p := by funext n; simp [mixR]
theorem mixR_here (op : Bool → Bool → Bool) (p q : Nat → Bool) (k : Nat) : mixR op p q k k = p k := by simp [mixR]
theorem mixR_succ (op : Bool → Bool → Bool) (p q : Nat → Bool) (k : Nat) : mixR op p q (k + 1) = upd (mixR op p q k) k (op (p k) (q k)) := by
  funext n
  unfold mixR upd
  by_cases h : n = k
  · subst h
    simp
  · rw [if_neg h]
    have : (n < k + 1) ↔ (n < k) := by omega
    simp [this]
theorem chR_succ (op : Bool → Bool → Bool) (p q : Nat → Bool) (k : Nat) : chR op p q (k + 1) = (!(p k == op (p k) (q k)) || chR op p q k) := by
  unfold chR
  by_cases h : ∀ n, n < k → p n = op (p n) (q n)
  · rw [decide_eq_true h]
    by_cases h2 : p k = op (p k) (q k)
    · have : ∀ n, n < k + 1 → p n = op (p n) (q n) := fun n hn => by
        by_cases e : n = k
        · rw [e]; exact h2
        · exact h n (by omega)
      rw [decide_eq_true this]
      simp [← h2]
    · have : ¬ ∀ n, n < k + 1 → p n = op (p n) (q n) := fun e => h2 (e k (by omega))
      rw [decide_eq_false this]
      simp [h2]
  · have : ¬ ∀ n, n < k + 1 → p n = op (p n) (q n) := fun e => h fun n hn => e n (by omega)
    rw [decide_eq_false h, decide_eq_false this]
    simp
theorem chR_all {op : Bool → Bool → Bool} {b : Nat} {p q : Nat → Bool} (hp : Fits b p) : chg b p (opP op b p q) = chR op p q b := by
  rw [chg_eq hp (opP_fits hp.1 p q)]
  unfold chR
  congr 1
  rw [decide_eq_decide]
  exact ⟨fun h n hn => by have := h n hn; rwa [opP_at hn] at this, fun h n hn => by rw [opP_at hn]; exact h n hn⟩
theorem mixR_all {op : Bool → Bool → Bool} {b : Nat} {p q : Nat → Bool} (hp : Fits b p) : mixR op p q b = opP op b p q := by
  funext n
  unfold mixR
  by_cases h : n < b
  · rw [if_pos h, opP_at h]
  · rw [if_neg h, hp.out (by omega)]
    simp [opP, cutP, h]

set_option maxHeartbeats 2000000 in
theorem rdo0 {w : World} {R h b c R2 h2 b2 c2 : Nat} {p q : Nat → Bool} (H : RefAt w R h b c p) (H2 : RefAt w R2 h2 b2 c2 q) :
    Calls Tryd.prog 32 #[.pointer (some ⟨R, 0, none⟩), .int .i64 0, .pointer (some ⟨R2, 0, none⟩)] w fun e w' => e = .returned (.bool (chg b p (opP (fun x y => x || y) b p q))) ∧ RefAt w' R h b c (opP (fun x y => x || y) b p q) ∧ Kp (fun k => k = h) w w' := by
  have hb := H.fits.1
  have hcp := hidIt (rcopy_any H2)
  have HH := hidIt H
  have HE : Hid (chg b p (opP (fun x y => x || y) b p q) = chR (fun x y => x || y) p q b ∧ mixR (fun x y => x || y) p q b = opP (fun x y => x || y) b p q) := ⟨chR_all H.fits, mixR_all H.fits⟩
  clear H H2
  go_enter Tryd.func32, Tryd.ntmps32
  go_wp2_with fail
  refine hcp.out.mono ?_
  rintro e w1 ⟨R3, h3, c3, rfl, hR3, hh3, hr3, hk1⟩
  have hlt : h < w.heap.size := HH.out.row.lt
  have hst : Hid (RefAt w1 R h b c (mixR (fun x y => x || y) p q 0) ∧ Kp (fun k => k = h) w1 w1) := ⟨by rw [mixR_zero]; exact HH.out.kept hk1 (fun h => h) (fun h => h), Kp.refl _ _⟩
  have Hr3 := hidIt hr3
  have Hk1 := hidIt hk1
  have hRne : R3 ≠ h := by omega
  have hhne : h3 ≠ h := by omega
  clear hr3 hk1 hcp hR3 hh3
  go_wp2
  go_loopw [7, 9] (fun vc i wr => ∃ k : Nat, k ≤ b ∧ i = .int .i64 k ∧ vc = .bool (chR (fun x y => x || y) p q k) ∧ Hid (RefAt wr R h b c (mixR (fun x y => x || y) p q k) ∧ Kp (fun k => k = h) w1 wr)) (fun _ i _ => b - (intOf i).toNat)
  case atStart => exact ⟨0, Nat.zero_le _, rfl, by simp [chR], hst.out⟩
  case round =>
    clear hst
    obtain ⟨k, hk, rfl, rfl, hrm⟩ := hrel
    have hs := hrm.out.1.slice
    by_cases hltk : k < b
    · have hc := hrm.out.1.row.cell hltk
      rw [mixR_here] at hc
      have hhas := hidIt (rhas_any (Hr3.out.kept hrm.out.2 hRne hhne) k)
      rw [show hasP q k = q k from by simp [hasP]] at hhas
      have hput := hidIt (rput_any hrm.out.1 k ((fun x y => x || y) (p k) (q k)))
      have e1 : putP b (mixR (fun x y => x || y) p q k) k ((fun x y => x || y) (p k) (q k)) = mixR (fun x y => x || y) p q (k + 1) := by
        rw [mixR_succ]
        simp [putP, hltk]
      have e2 : putB b (mixR (fun x y => x || y) p q k) k ((fun x y => x || y) (p k) (q k)) = !(p k == (fun x y => x || y) (p k) (q k)) := by
        simp [putB, hltk, mixR]
      rw [e1, e2] at hput
      have e3 := chR_succ (fun x y => x || y) p q k
      have HE3 := hidIt e3
      have Hrm2 := hidIt hrm.out.2
      clear e1 e2 e3 hrm
      simp only at hput HE3
      generalize chR (fun x y => x || y) p q k = u at *
      generalize p k = x at *
      generalize q k = y at *
      cases u <;> cases x <;> cases y
      all_goals
        go_wp2_with (first
          | (go_at_call 20; refine hhas.out.mono ?_; rintro e w' ⟨rfl, rfl⟩)
          | (go_at_call 31; refine hput.out.mono ?_; rintro e w5 ⟨rfl, hs5, hk5⟩))
        go_roundw
        case rel => exact ⟨k + 1, by omega, by go_num, by rw [HE3.out]; rfl, hs5, Hrm2.out.trans' hk5⟩
        case measure => simp [intOf]; omega
    · have he : k = b := by omega
      subst he
      have HF : Hid (RefAt wr R h k c (opP (fun x y => x || y) k p q) ∧ Kp (fun j => j = h) w wr) := ⟨by rw [← HE.out.2]; exact hrm.out.1, (Hk1.out.mono fun _ h => h.elim).trans' hrm.out.2⟩
      clear hrm
      go_wp2
      go_ret
      exact ⟨by rw [HE.out.1]; rfl, HF.out⟩

set_option maxHeartbeats 2000000 in
theorem rdo1 {w : World} {R h b c R2 h2 b2 c2 : Nat} {p q : Nat → Bool} (H : RefAt w R h b c p) (H2 : RefAt w R2 h2 b2 c2 q) :
    Calls Tryd.prog 32 #[.pointer (some ⟨R, 0, none⟩), .int .i64 1, .pointer (some ⟨R2, 0, none⟩)] w fun e w' => e = .returned (.bool (chg b p (opP (fun x y => x && y) b p q))) ∧ RefAt w' R h b c (opP (fun x y => x && y) b p q) ∧ Kp (fun k => k = h) w w' := by
  have hb := H.fits.1
  have hcp := hidIt (rcopy_any H2)
  have HH := hidIt H
  have HE : Hid (chg b p (opP (fun x y => x && y) b p q) = chR (fun x y => x && y) p q b ∧ mixR (fun x y => x && y) p q b = opP (fun x y => x && y) b p q) := ⟨chR_all H.fits, mixR_all H.fits⟩
  clear H H2
  go_enter Tryd.func32, Tryd.ntmps32
  go_wp2_with fail
  refine hcp.out.mono ?_
  rintro e w1 ⟨R3, h3, c3, rfl, hR3, hh3, hr3, hk1⟩
  have hlt : h < w.heap.size := HH.out.row.lt
  have hst : Hid (RefAt w1 R h b c (mixR (fun x y => x && y) p q 0) ∧ Kp (fun k => k = h) w1 w1) := ⟨by rw [mixR_zero]; exact HH.out.kept hk1 (fun h => h) (fun h => h), Kp.refl _ _⟩
  have Hr3 := hidIt hr3
  have Hk1 := hidIt hk1
  have hRne : R3 ≠ h := by omega
  have hhne : h3 ≠ h := by omega
  clear hr3 hk1 hcp hR3 hh3
  go_wp2
  go_loopw [7, 9] (fun vc i wr => ∃ k : Nat, k ≤ b ∧ i = .int .i64 k ∧ vc = .bool (chR (fun x y => x && y) p q k) ∧ Hid (RefAt wr R h b c (mixR (fun x y => x && y) p q k) ∧ Kp (fun k => k = h) w1 wr)) (fun _ i _ => b - (intOf i).toNat)
  case atStart => exact ⟨0, Nat.zero_le _, rfl, by simp [chR], hst.out⟩
  case round =>
    clear hst
    obtain ⟨k, hk, rfl, rfl, hrm⟩ := hrel
    have hs := hrm.out.1.slice
    by_cases hltk : k < b
    · have hc := hrm.out.1.row.cell hltk
      rw [mixR_here] at hc
      have hhas := hidIt (rhas_any (Hr3.out.kept hrm.out.2 hRne hhne) k)
      rw [show hasP q k = q k from by simp [hasP]] at hhas
      have hput := hidIt (rput_any hrm.out.1 k ((fun x y => x && y) (p k) (q k)))
      have e1 : putP b (mixR (fun x y => x && y) p q k) k ((fun x y => x && y) (p k) (q k)) = mixR (fun x y => x && y) p q (k + 1) := by
        rw [mixR_succ]
        simp [putP, hltk]
      have e2 : putB b (mixR (fun x y => x && y) p q k) k ((fun x y => x && y) (p k) (q k)) = !(p k == (fun x y => x && y) (p k) (q k)) := by
        simp [putB, hltk, mixR]
      rw [e1, e2] at hput
      have e3 := chR_succ (fun x y => x && y) p q k
      have HE3 := hidIt e3
      have Hrm2 := hidIt hrm.out.2
      clear e1 e2 e3 hrm
      simp only at hput HE3
      generalize chR (fun x y => x && y) p q k = u at *
      generalize p k = x at *
      generalize q k = y at *
      cases u <;> cases x <;> cases y
      all_goals
        go_wp2_with (first
          | (go_at_call 20; refine hhas.out.mono ?_; rintro e w' ⟨rfl, rfl⟩)
          | (go_at_call 31; refine hput.out.mono ?_; rintro e w5 ⟨rfl, hs5, hk5⟩))
        go_roundw
        case rel => exact ⟨k + 1, by omega, by go_num, by rw [HE3.out]; rfl, hs5, Hrm2.out.trans' hk5⟩
        case measure => simp [intOf]; omega
    · have he : k = b := by omega
      subst he
      have HF : Hid (RefAt wr R h k c (opP (fun x y => x && y) k p q) ∧ Kp (fun j => j = h) w wr) := ⟨by rw [← HE.out.2]; exact hrm.out.1, (Hk1.out.mono fun _ h => h.elim).trans' hrm.out.2⟩
      clear hrm
      go_wp2
      go_ret
      exact ⟨by rw [HE.out.1]; rfl, HF.out⟩

set_option maxHeartbeats 2000000 in
theorem rdo2 {w : World} {R h b c R2 h2 b2 c2 : Nat} {p q : Nat → Bool} (H : RefAt w R h b c p) (H2 : RefAt w R2 h2 b2 c2 q) :
    Calls Tryd.prog 32 #[.pointer (some ⟨R, 0, none⟩), .int .i64 2, .pointer (some ⟨R2, 0, none⟩)] w fun e w' => e = .returned (.bool (chg b p (opP (fun x y => x && !y) b p q))) ∧ RefAt w' R h b c (opP (fun x y => x && !y) b p q) ∧ Kp (fun k => k = h) w w' := by
  have hb := H.fits.1
  have hcp := hidIt (rcopy_any H2)
  have HH := hidIt H
  have HE : Hid (chg b p (opP (fun x y => x && !y) b p q) = chR (fun x y => x && !y) p q b ∧ mixR (fun x y => x && !y) p q b = opP (fun x y => x && !y) b p q) := ⟨chR_all H.fits, mixR_all H.fits⟩
  clear H H2
  go_enter Tryd.func32, Tryd.ntmps32
  go_wp2_with fail
  refine hcp.out.mono ?_
  rintro e w1 ⟨R3, h3, c3, rfl, hR3, hh3, hr3, hk1⟩
  have hlt : h < w.heap.size := HH.out.row.lt
  have hst : Hid (RefAt w1 R h b c (mixR (fun x y => x && !y) p q 0) ∧ Kp (fun k => k = h) w1 w1) := ⟨by rw [mixR_zero]; exact HH.out.kept hk1 (fun h => h) (fun h => h), Kp.refl _ _⟩
  have Hr3 := hidIt hr3
  have Hk1 := hidIt hk1
  have hRne : R3 ≠ h := by omega
  have hhne : h3 ≠ h := by omega
  clear hr3 hk1 hcp hR3 hh3
  go_wp2
  go_loopw [7, 9] (fun vc i wr => ∃ k : Nat, k ≤ b ∧ i = .int .i64 k ∧ vc = .bool (chR (fun x y => x && !y) p q k) ∧ Hid (RefAt wr R h b c (mixR (fun x y => x && !y) p q k) ∧ Kp (fun k => k = h) w1 wr)) (fun _ i _ => b - (intOf i).toNat)
  case atStart => exact ⟨0, Nat.zero_le _, rfl, by simp [chR], hst.out⟩
  case round =>
    clear hst
    obtain ⟨k, hk, rfl, rfl, hrm⟩ := hrel
    have hs := hrm.out.1.slice
    by_cases hltk : k < b
    · have hc := hrm.out.1.row.cell hltk
      rw [mixR_here] at hc
      have hhas := hidIt (rhas_any (Hr3.out.kept hrm.out.2 hRne hhne) k)
      rw [show hasP q k = q k from by simp [hasP]] at hhas
      have hput := hidIt (rput_any hrm.out.1 k ((fun x y => x && !y) (p k) (q k)))
      have e1 : putP b (mixR (fun x y => x && !y) p q k) k ((fun x y => x && !y) (p k) (q k)) = mixR (fun x y => x && !y) p q (k + 1) := by
        rw [mixR_succ]
        simp [putP, hltk]
      have e2 : putB b (mixR (fun x y => x && !y) p q k) k ((fun x y => x && !y) (p k) (q k)) = !(p k == (fun x y => x && !y) (p k) (q k)) := by
        simp [putB, hltk, mixR]
      rw [e1, e2] at hput
      have e3 := chR_succ (fun x y => x && !y) p q k
      have HE3 := hidIt e3
      have Hrm2 := hidIt hrm.out.2
      clear e1 e2 e3 hrm
      simp only at hput HE3
      generalize chR (fun x y => x && !y) p q k = u at *
      generalize p k = x at *
      generalize q k = y at *
      cases u <;> cases x <;> cases y
      all_goals
        go_wp2_with (first
          | (go_at_call 20; refine hhas.out.mono ?_; rintro e w' ⟨rfl, rfl⟩)
          | (go_at_call 31; refine hput.out.mono ?_; rintro e w5 ⟨rfl, hs5, hk5⟩))
        go_roundw
        case rel => exact ⟨k + 1, by omega, by go_num, by rw [HE3.out]; rfl, hs5, Hrm2.out.trans' hk5⟩
        case measure => simp [intOf]; omega
    · have he : k = b := by omega
      subst he
      have HF : Hid (RefAt wr R h k c (opP (fun x y => x && !y) k p q) ∧ Kp (fun j => j = h) w wr) := ⟨by rw [← HE.out.2]; exact hrm.out.1, (Hk1.out.mono fun _ h => h.elim).trans' hrm.out.2⟩
      clear hrm
      go_wp2
      go_ret
      exact ⟨by rw [HE.out.1]; rfl, HF.out⟩

end Go.Proofs.YtcaibfalhkhleaaDoor
