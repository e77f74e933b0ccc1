/-
  BitsLaws answers true, whatever it is given.
-/
import Derived.Test.YtcaibfalhkhleaaDoorMany
namespace Go.Proofs.YtcaibfalhkhleaaDoor
set_option linter.unusedVariables false
open Go.RowKit

section
variable {b : Nat} {p q : Nat → Bool}
def bothP (b : Nat) (p q : Nat → Bool) := opP (fun x y => x && y) b p q
def oneP (b : Nat) (p q : Nat → Bool) := opP (fun x y => x && !y) b p q
def allP (b : Nat) (p q : Nat → Bool) := opP (fun x y => x || y) b p q
theorem both_fits (h : b ≤ 65536) : Fits b (bothP b p q) := opP_fits h p q
theorem one_fits (h : b ≤ 65536) : Fits b (oneP b p q) := opP_fits h p q
theorem all_fits (h : b ≤ 65536) : Fits b (allP b p q) := opP_fits h p q
theorem both_cnt : cnt b (bothP b p q) = cnt b (fun n => p n && q n) := cnt_congr fun n hn => opP_at hn p q
theorem one_cnt : cnt b (oneP b p q) = cnt b (fun n => p n && !q n) := cnt_congr fun n hn => opP_at hn p q
theorem all_cnt : cnt b (allP b p q) = cnt b (fun n => p n || q n) := cnt_congr fun n hn => opP_at hn p q
theorem lens (b : Nat) (p q : Nat → Bool) : cnt b p = cnt b (bothP b p q) + cnt b (oneP b p q) ∧ cnt b (allP b p q) + cnt b (bothP b p q) = cnt b p + cnt b q := by
  rw [both_cnt, one_cnt, all_cnt]
  exact ⟨cnt_split b p q, cnt_or b p q⟩
theorem both_chg (hp : Fits b p) : chg b p (bothP b p q) = decide ((cnt b (bothP b p q) : Int) < (cnt b p : Int)) := by
  rw [chg_eq hp (both_fits hp.1)]
  obtain ⟨h1, h2⟩ := cnt_sub (b := b) (p := bothP b p q) (q := p) fun n hn h => by
    rw [bothP, opP_at hn] at h
    simp at h
    exact h.1
  by_cases h : ∀ n, n < b → p n = bothP b p q n
  · have := h2.2 fun n hn => (h n hn).symm
    rw [decide_eq_true h, decide_eq_false (by omega)]
    rfl
  · have : cnt b (bothP b p q) ≠ cnt b p := fun e => h fun n hn => (h2.1 e n hn).symm
    rw [decide_eq_false h, decide_eq_true (by omega)]
    rfl
theorem one_chg (hp : Fits b p) : chg b p (oneP b p q) = decide ((cnt b (oneP b p q) : Int) < (cnt b p : Int)) := by
  rw [chg_eq hp (one_fits hp.1)]
  obtain ⟨h1, h2⟩ := cnt_sub (b := b) (p := oneP b p q) (q := p) fun n hn h => by
    rw [oneP, opP_at hn] at h
    simp at h
    exact h.1
  by_cases h : ∀ n, n < b → p n = oneP b p q n
  · have := h2.2 fun n hn => (h n hn).symm
    rw [decide_eq_true h, decide_eq_false (by omega)]
    rfl
  · have : cnt b (oneP b p q) ≠ cnt b p := fun e => h fun n hn => (h2.1 e n hn).symm
    rw [decide_eq_false h, decide_eq_true (by omega)]
    rfl
theorem all_chg (hp : Fits b p) : chg b p (allP b p q) = decide ((cnt b p : Int) < (cnt b (allP b p q) : Int)) := by
  rw [chg_eq hp (all_fits hp.1)]
  obtain ⟨h1, h2⟩ := cnt_sub (b := b) (p := p) (q := allP b p q) fun n hn h => by
    rw [allP, opP_at hn]
    simp [h]
  by_cases h : ∀ n, n < b → p n = allP b p q n
  · have := h2.2 h
    rw [decide_eq_true h, decide_eq_false (by omega)]
    rfl
  · have : cnt b p ≠ cnt b (allP b p q) := fun e => h (h2.1 e)
    rw [decide_eq_false h, decide_eq_true (by omega)]
    rfl
theorem back_same (hp : Fits b p) : sameAll b b (allP b (oneP b p q) (bothP b p q)) p = true := by
  rw [sameAll_eq (all_fits hp.1) hp]
  simp
  intro n hn
  rw [allP, opP_at hn, oneP, opP_at hn, bothP, opP_at hn]
  cases p n <;> cases q n <;> rfl
theorem one_both (hp : Fits b p) : apartAll b b (oneP b p q) (bothP b p q) = true := by
  rw [apartAll_eq (one_fits hp.1) (both_fits hp.1)]
  simp
  intro n hn
  rw [oneP, opP_at hn, bothP, opP_at hn]
  cases p n <;> cases q n <;> simp
theorem one_other (hp : Fits b p) (hq : Fits b q) : apartAll b b (oneP b p q) q = true := by
  rw [apartAll_eq (one_fits hp.1) hq]
  simp
  intro n hn
  rw [oneP, opP_at hn]
  cases p n <;> cases q n <;> simp
end

theorem len_cnt {w : World} {A g b : Nat} {p : Nat → Bool} (h : SetAt w A g b p) : Calls Tryd.prog 16 #[.pointer (some ⟨A, 0, none⟩)] w fun e w' => e = .returned (.int .i64 (cnt b p)) ∧ w = w' := len_any h

set_option maxRecDepth 100000 in
set_option maxHeartbeats 400000 in
theorem laws_early (b0 : Int) (ao1 ao2 : Option Addr) (n1 c1 n2 c2 : Nat) (w : World) (hT : Tab w) (hn1 : n1 ≤ 9223372036854775807) (hn2 : n2 ≤ 9223372036854775807) (h : 1000 < b0 ∨ 60 < n1 ∨ 60 < n2) :
    Calls Tryd.prog 5 #[.int .i64 b0, .slice ao1 n1 c1, .slice ao2 n2 c2] w fun e w' => e = .returned (.bool true) ∧ Below w.heap.size w w' := by
  have ha := hidIt (alive_any w hT)
  clear hT
  by_cases h1 : 1000 < b0
  · clear h
    go_enter Tryd.func5, Tryd.ntmps5
    go_wp2_with fail
    refine ha.out.mono ?_
    rintro e w1 ⟨rfl, hB⟩
    have HB := hidIt hB
    clear ha hB
    go_wp2
    go_ret
    exact ⟨rfl, HB.out⟩
  · by_cases h2 : 60 < n1
    · clear h
      go_enter Tryd.func5, Tryd.ntmps5
      go_wp2_with fail
      refine ha.out.mono ?_
      rintro e w1 ⟨rfl, hB⟩
      have HB := hidIt hB
      clear ha hB
      go_wp2
      go_ret
      exact ⟨rfl, HB.out⟩
    · have h3 : 60 < n2 := by omega
      clear h
      go_enter Tryd.func5, Tryd.ntmps5
      go_wp2_with fail
      refine ha.out.mono ?_
      rintro e w1 ⟨rfl, hB⟩
      have HB := hidIt hB
      clear ha hB
      go_wp2
      go_ret
      exact ⟨rfl, HB.out⟩

set_option maxRecDepth 100000 in
set_option maxHeartbeats 2000000 in
theorem laws_main (b0 : Int) (ao1 ao2 : Option Addr) (z1 z2 : List Int) (c1 c2 : Nat) (w : World) (hT : Tab w) (h1 : LAt w ao1 z1) (h2 : LAt w ao2 z2) (hb : b0 ≤ 1000) (hn1 : z1.length ≤ 60) (hn2 : z2.length ≤ 60) :
    Calls Tryd.prog 5 #[.int .i64 b0, .slice ao1 z1.length c1, .slice ao2 z2.length c2] w fun e w' => e = .returned (.bool true) ∧ Below w.heap.size w w' := by
  have ha := hidIt (alive_any w hT)
  have H1 := hidIt h1
  have H2 := hidIt h2
  obtain ⟨b, hbe⟩ : ∃ b, b = clampB b0 := ⟨_, rfl⟩
  have hbl : b ≤ 1000 := by rw [hbe]; unfold clampB; omega
  have hfs : Fits b (ofL b z1) := ofL_fits (by omega) _
  have hft : Fits b (ofL b z2) := ofL_fits (by omega) _
  obtain ⟨S, hS⟩ : ∃ S, S = ofL b z1 := ⟨_, rfl⟩
  obtain ⟨T, hTT⟩ : ∃ T, T = ofL b z2 := ⟨_, rfl⟩
  rw [← hS] at hfs
  rw [← hTT] at hft
  obtain ⟨e1, e2⟩ := lens b S T
  have q1 := both_chg (q := T) hfs
  have q2 := one_chg (q := T) hfs
  have q3 := all_chg (q := T) hfs
  have q4 := back_same (q := T) hfs
  have q5 := one_both (q := T) hfs
  have q6 := one_other hfs hft
  have l1 := cnt_le b (bothP b S T)
  have l2 := cnt_le b (oneP b S T)
  have l4 := cnt_le b T
  obtain ⟨L1, hL1⟩ : ∃ L, cnt b (bothP b S T) = L := ⟨_, rfl⟩
  obtain ⟨L2, hL2⟩ : ∃ L, cnt b (oneP b S T) = L := ⟨_, rfl⟩
  obtain ⟨L4, hL4⟩ : ∃ L, cnt b T = L := ⟨_, rfl⟩
  have hL3 : cnt b S = L1 + L2 := by rw [e1, hL1, hL2]
  have hL5 : cnt b (allP b S T) = L2 + L4 := by omega
  rw [hL1] at l1 q1
  rw [hL2] at l2 q2
  rw [hL4] at l4
  rw [hL3] at q1 q2 q3
  rw [hL5] at q3
  rw [show ((L1 + L2 : Nat) : Int) = (L1 : Int) + L2 from by omega, show ((L2 + L4 : Nat) : Int) = (L1 : Int) + L2 + L4 - L1 from by omega] at q3
  have HL := hidIt (And.intro hL1 (And.intro hL2 (And.intro hL3 (And.intro hL4 hL5))))
  have HQ := hidIt (And.intro q1 (And.intro q2 (And.intro q3 (And.intro q4 (And.intro q5 q6)))))
  have HbS := hidIt (And.intro hbe (And.intro hS hTT))
  clear hT h1 h2 q1 q2 q3 q4 q5 q6 e1 e2 hbe hS hTT hfs hft hL1 hL2 hL3 hL4 hL5
  go_enter Tryd.func5, Tryd.ntmps5
  go_wp2_with fail
  refine ha.out.mono ?_
  rintro e w1 ⟨rfl, hB⟩
  have HB := hidIt hB
  clear ha hB
  go_wp2_with fail
  have hc := new_any b0 ao1 z1 c1 w1 (H1.out.below HB.out) (by omega)
  rw [← HbS.out.1, ← HbS.out.2.1] at hc
  refine hc.mono ?_
  rintro e w2 ⟨As, gs, rfl, hA, hg, hs, hk⟩
  have M1 : Hid (MS w [⟨As, gs, b, S⟩] w2) := (MS.start HB.out).push hs hk hA hg
  clear hc hs hk hA hg HB
  go_wp2_with fail
  have hc := new_any b0 ao2 z2 c2 w2 (H2.out.below M1.out.bel) (by omega)
  rw [← HbS.out.1, ← HbS.out.2.2] at hc
  refine hc.mono ?_
  rintro e w3 ⟨At, gt, rfl, hA, hg, hs, hk⟩
  have M2 : Hid (MS w [⟨As, gs, b, S⟩, ⟨At, gt, b, T⟩] w3) := M1.out.push hs hk hA hg
  clear hc hs hk hA hg M1
  go_wp2_with fail
  refine (clone_any (M2.out.at (i := 0) rfl)).mono ?_
  rintro e w4 ⟨A3, g3, rfl, hA, hg, hs, hk⟩
  have M1 : Hid (MS w [⟨As, gs, b, S⟩, ⟨At, gt, b, T⟩, ⟨A3, g3, b, S⟩] w4) := M2.out.push hs hk hA hg
  clear hs hk hA hg M2
  go_wp2_with fail
  refine (clone_any (M1.out.at (i := 0) rfl)).mono ?_
  rintro e w5 ⟨A4, g4, rfl, hA, hg, hs, hk⟩
  have M2 : Hid (MS w [⟨As, gs, b, S⟩, ⟨At, gt, b, T⟩, ⟨A3, g3, b, S⟩, ⟨A4, g4, b, S⟩] w5) := M1.out.push hs hk hA hg
  clear hs hk hA hg M1
  go_wp2_with fail
  refine (clone_any (M2.out.at (i := 0) rfl)).mono ?_
  rintro e w6 ⟨A5, g5, rfl, hA, hg, hs, hk⟩
  have M1 : Hid (MS w [⟨As, gs, b, S⟩, ⟨At, gt, b, T⟩, ⟨A3, g3, b, S⟩, ⟨A4, g4, b, S⟩, ⟨A5, g5, b, S⟩] w6) := M2.out.push hs hk hA hg
  clear hs hk hA hg M2
  go_wp2_with fail
  have hc := meet_any (M1.out.at (i := 2) rfl) (M1.out.at (i := 1) rfl)
  rw [show chg b S (opP (fun x y => x && y) b S T) = _ from HQ.out.1] at hc
  refine hc.mono ?_
  rintro e w7 ⟨rfl, hs, hk⟩
  have M2 : Hid (MS w [⟨As, gs, b, S⟩, ⟨At, gt, b, T⟩, ⟨A3, g3, b, bothP b S T⟩, ⟨A4, g4, b, S⟩, ⟨A5, g5, b, S⟩] w7) := M1.out.on (i := 2) rfl hs hk
  clear hc hs hk M1
  go_wp2_with fail
  have hc := less_any (M2.out.at (i := 3) rfl) (M2.out.at (i := 1) rfl)
  rw [show chg b S (opP (fun x y => x && !y) b S T) = _ from HQ.out.2.1] at hc
  refine hc.mono ?_
  rintro e w8 ⟨rfl, hs, hk⟩
  have M1 : Hid (MS w [⟨As, gs, b, S⟩, ⟨At, gt, b, T⟩, ⟨A3, g3, b, bothP b S T⟩, ⟨A4, g4, b, oneP b S T⟩, ⟨A5, g5, b, S⟩] w8) := M2.out.on (i := 3) rfl hs hk
  clear hc hs hk M2
  go_wp2_with fail
  have hc := join_any (M1.out.at (i := 4) rfl) (M1.out.at (i := 1) rfl)
  rw [show chg b S (opP (fun x y => x || y) b S T) = _ from HQ.out.2.2.1] at hc
  refine hc.mono ?_
  rintro e w9 ⟨rfl, hs, hk⟩
  have M2 : Hid (MS w [⟨As, gs, b, S⟩, ⟨At, gt, b, T⟩, ⟨A3, g3, b, bothP b S T⟩, ⟨A4, g4, b, oneP b S T⟩, ⟨A5, g5, b, allP b S T⟩] w9) := M1.out.on (i := 4) rfl hs hk
  clear hc hs hk M1
  go_wp2_with fail
  refine (clone_any (M2.out.at (i := 3) rfl)).mono ?_
  rintro e w10 ⟨A6, g6, rfl, hA, hg, hs, hk⟩
  have M1 : Hid (MS w [⟨As, gs, b, S⟩, ⟨At, gt, b, T⟩, ⟨A3, g3, b, bothP b S T⟩, ⟨A4, g4, b, oneP b S T⟩, ⟨A5, g5, b, allP b S T⟩, ⟨A6, g6, b, oneP b S T⟩] w10) := M2.out.push hs hk hA hg
  clear hs hk hA hg M2
  go_wp2_with fail
  refine (join_any (M1.out.at (i := 5) rfl) (M1.out.at (i := 2) rfl)).mono ?_
  rintro e w11 ⟨rfl, hs, hk⟩
  have M2 : Hid (MS w [⟨As, gs, b, S⟩, ⟨At, gt, b, T⟩, ⟨A3, g3, b, bothP b S T⟩, ⟨A4, g4, b, oneP b S T⟩, ⟨A5, g5, b, allP b S T⟩, ⟨A6, g6, b, allP b (oneP b S T) (bothP b S T)⟩] w11) := M1.out.on (i := 5) rfl hs hk
  clear hs hk M1
  generalize hx0 : chg b (oneP b S T) (opP (fun x y => x || y) b (oneP b S T) (bothP b S T)) = x0
  clear hx0
  have k3 : ∀ W, MS w [⟨As, gs, b, S⟩, ⟨At, gt, b, T⟩, ⟨A3, g3, b, bothP b S T⟩, ⟨A4, g4, b, oneP b S T⟩, ⟨A5, g5, b, allP b S T⟩, ⟨A6, g6, b, allP b (oneP b S T) (bothP b S T)⟩] W →
      Calls Tryd.prog 16 #[.pointer (some ⟨A3, 0, none⟩)] W (fun e w' => e = .returned (.int .i64 (L1 : Nat)) ∧ W = w') ∧
      Calls Tryd.prog 16 #[.pointer (some ⟨A4, 0, none⟩)] W (fun e w' => e = .returned (.int .i64 (L2 : Nat)) ∧ W = w') ∧
      Calls Tryd.prog 16 #[.pointer (some ⟨As, 0, none⟩)] W (fun e w' => e = .returned (.int .i64 ((L1 : Int) + L2)) ∧ W = w') ∧
      Calls Tryd.prog 16 #[.pointer (some ⟨At, 0, none⟩)] W (fun e w' => e = .returned (.int .i64 (L4 : Nat)) ∧ W = w') ∧
      Calls Tryd.prog 16 #[.pointer (some ⟨A5, 0, none⟩)] W (fun e w' => e = .returned (.int .i64 ((L1 : Int) + L2 + L4 - L1)) ∧ W = w') := by
    intro W M
    have r1 := len_cnt (M.at (i := 2) rfl)
    have r2 := len_cnt (M.at (i := 3) rfl)
    have r3 := len_cnt (M.at (i := 0) rfl)
    have r4 := len_cnt (M.at (i := 1) rfl)
    have r5 := len_cnt (M.at (i := 4) rfl)
    rw [HL.out.1] at r1
    rw [HL.out.2.1] at r2
    rw [HL.out.2.2.1] at r3
    rw [HL.out.2.2.2.1] at r4
    rw [HL.out.2.2.2.2] at r5
    simp only [Int.natCast_add] at r3
    rw [show ((L2 + L4 : Nat) : Int) = (L1 : Int) + L2 + L4 - L1 from by omega] at r5
    exact ⟨r1, r2, r3, r4, r5⟩
  have K3 := hidIt k3
  clear k3 HL
  go_wp2_with fail
  refine (K3.out _ M2.out).1.mono ?_
  rintro e w' ⟨rfl, rfl⟩
  go_wp2_with fail
  refine (K3.out _ M2.out).2.1.mono ?_
  rintro e w' ⟨rfl, rfl⟩
  go_wp2_with fail
  refine (K3.out _ M2.out).2.2.1.mono ?_
  rintro e w' ⟨rfl, rfl⟩
  go_wp2_with fail
  have hc := same_any (M2.out.at (i := 5) rfl) (M2.out.at (i := 0) rfl)
  rw [HQ.out.2.2.2.1] at hc
  refine hc.mono ?_
  rintro e w12 ⟨rfl, hk⟩
  have M1 := hidIt (M2.out.grow hk)
  clear hc hk M2
  go_wp2_with fail
  have hc := apart_any (M1.out.at (i := 3) rfl) (M1.out.at (i := 2) rfl)
  rw [HQ.out.2.2.2.2.1] at hc
  refine hc.mono ?_
  rintro e w13 ⟨rfl, hk⟩
  have M2 := hidIt (M1.out.grow hk)
  clear hc hk M1
  go_wp2_with fail
  have hc := apart_any (M2.out.at (i := 3) rfl) (M2.out.at (i := 1) rfl)
  rw [HQ.out.2.2.2.2.2] at hc
  refine hc.mono ?_
  rintro e w14 ⟨rfl, hk⟩
  have M1 := hidIt (M2.out.grow hk)
  clear hc hk M2 HQ
  go_wp2_with fail
  refine (K3.out _ M1.out).2.2.2.2.mono ?_
  rintro e w' ⟨rfl, rfl⟩
  go_wp2_with fail
  refine (K3.out _ M1.out).2.2.1.mono ?_
  rintro e w' ⟨rfl, rfl⟩
  go_wp2_with fail
  refine (K3.out _ M1.out).2.2.2.1.mono ?_
  rintro e w' ⟨rfl, rfl⟩
  go_wp2_with fail
  refine (K3.out _ M1.out).1.mono ?_
  rintro e w' ⟨rfl, rfl⟩
  go_wp2_with fail
  refine (K3.out _ M1.out).1.mono ?_
  rintro e w' ⟨rfl, rfl⟩
  go_wp2_with fail
  refine (K3.out _ M1.out).2.2.1.mono ?_
  rintro e w' ⟨rfl, rfl⟩
  go_wp2_with fail
  refine (K3.out _ M1.out).2.1.mono ?_
  rintro e w' ⟨rfl, rfl⟩
  go_wp2_with fail
  refine (K3.out _ M1.out).2.2.1.mono ?_
  rintro e w' ⟨rfl, rfl⟩
  go_wp2_with fail
  refine (K3.out _ M1.out).2.2.2.2.mono ?_
  rintro e w' ⟨rfl, rfl⟩
  go_wp2_with fail
  refine (K3.out _ M1.out).2.2.1.mono ?_
  rintro e w' ⟨rfl, rfl⟩
  go_wp2
  go_ret
  exact ⟨by simp, M1.out.bel⟩
end Go.Proofs.YtcaibfalhkhleaaDoor
