/-
  BitsTwo answers true, whatever it is given.
-/
import Derived.Test.YtcaibfalhkhleaaDoorLaws
namespace Go.Proofs.YtcaibfalhkhleaaDoor
set_option linter.unusedVariables false
open Go.RowKit

/-- Have two the same numbers below k? have they none in common there? -/
def sameTo (S T : Nat → Bool) (k : Nat) : Bool := decide (∀ n, n < k → S n = T n)
def apartTo (S T : Nat → Bool) (k : Nat) : Bool := decide (∀ n, n < k → ¬ (S n = true ∧ T n = true))
theorem sameTo_succ (S T : Nat → Bool) (k : Nat) : sameTo S T (k + 1) = (sameTo S T k && (S k == T k)) := by
  unfold sameTo
  by_cases h : ∀ n, n < k → S n = T n
  · by_cases h2 : S k = T k
    · have : ∀ n, n < k + 1 → S n = T n := fun n hn => by
        by_cases hk : n = k
        · rw [hk]; exact h2
        · exact h n (by omega)
      rw [decide_eq_true h, decide_eq_true this, h2]
      simp
    · have : ¬ ∀ n, n < k + 1 → S n = T n := fun e => h2 (e k (by omega))
      rw [decide_eq_false this]
      simp [h2]
  · have : ¬ ∀ n, n < k + 1 → S n = T n := fun e => h fun n hn => e n (by omega)
    rw [decide_eq_false h, decide_eq_false this]
    rfl
theorem apartTo_succ (S T : Nat → Bool) (k : Nat) : apartTo S T (k + 1) = (apartTo S T k && !(S k && T k)) := by
  unfold apartTo
  by_cases h : ∀ n, n < k → ¬ (S n = true ∧ T n = true)
  · by_cases h2 : S k = true ∧ T k = true
    · have : ¬ ∀ n, n < k + 1 → ¬ (S n = true ∧ T n = true) := fun e => e k (by omega) h2
      rw [decide_eq_false this, h2.1, h2.2]
      simp
    · have : ∀ n, n < k + 1 → ¬ (S n = true ∧ T n = true) := fun n hn => by
        by_cases hk : n = k
        · rw [hk]; exact h2
        · exact h n (by omega)
      rw [decide_eq_true h, decide_eq_true this]
      cases hs : S k <;> cases ht : T k <;> simp_all
  · have : ¬ ∀ n, n < k + 1 → ¬ (S n = true ∧ T n = true) := fun e => h fun n hn => e n (by omega)
    rw [decide_eq_false h, decide_eq_false this]
    rfl
section
variable {b c : Nat} {S T : Nat → Bool}
theorem same_to (hs : Fits b S) (ht : Fits c T) (hb : b ≤ 1000) (hc : c ≤ 1000) : sameAll b c S T = sameTo S T 1001 ∧ sameAll c b T S = sameTo S T 1001 := by
  rw [sameAll_eq hs ht, sameAll_eq ht hs]
  unfold sameTo
  constructor
  · rw [decide_eq_decide]
    exact ⟨fun h n hn => by
      by_cases hm : n < max b c
      · exact h n hm
      · rw [hs.out (by omega), ht.out (by omega)], fun h n hn => h n (by omega)⟩
  · rw [decide_eq_decide]
    exact ⟨fun h n hn => by
      by_cases hm : n < max c b
      · exact (h n hm).symm
      · rw [hs.out (by omega), ht.out (by omega)], fun h n hn => (h n (by omega)).symm⟩
theorem apart_to (hs : Fits b S) (ht : Fits c T) (hb : b ≤ 1000) (hc : c ≤ 1000) : apartAll b c S T = apartTo S T 1001 ∧ apartAll c b T S = apartTo S T 1001 := by
  rw [apartAll_eq hs ht, apartAll_eq ht hs]
  unfold apartTo
  constructor
  · rw [decide_eq_decide]
    exact ⟨fun h n hn => by
      by_cases hm : n < max b c
      · exact h n hm
      · rw [hs.out (by omega)]; simp, fun h n hn => h n (by omega)⟩
  · rw [decide_eq_decide]
    exact ⟨fun h n hn => by
      by_cases hm : n < max c b
      · exact fun e => h n hm ⟨e.2, e.1⟩
      · rw [hs.out (by omega)]; simp, fun h n hn e => h n (by omega) ⟨e.2, e.1⟩⟩
theorem same_self (hs : Fits b S) : sameAll b b S S = true := by
  rw [sameAll_eq hs hs]
  simp
theorem apart_self (hs : Fits b S) : apartAll b b S S = ((cnt b S : Int) == 0) := by
  rw [apartAll_eq hs hs]
  by_cases h : ∀ n, n < max b b → ¬ (S n = true ∧ S n = true)
  · have hc : cnt b S = 0 := by
      unfold cnt
      rw [List.length_eq_zero_iff, nums, List.filter_eq_nil_iff]
      intro n hn e
      exact h n (by have := List.mem_range.1 hn; omega) ⟨e, e⟩
    rw [decide_eq_true h, hc]
    rfl
  · have hc : cnt b S ≠ 0 := fun e => h fun n hn hS => by
      unfold cnt at e
      rw [List.length_eq_zero_iff, nums, List.filter_eq_nil_iff] at e
      exact e n (List.mem_range.2 (by omega)) hS.1
    rw [decide_eq_false h]
    simp
    exact hc
end

set_option maxRecDepth 100000 in
set_option maxHeartbeats 400000 in
theorem two_early (b0 c0 : Int) (ao1 ao2 : Option Addr) (n1 c1 n2 c2 : Nat) (w : World) (hT : Tab w) (hn1 : n1 ≤ 9223372036854775807) (hn2 : n2 ≤ 9223372036854775807) (h : 1000 < b0 ∨ 1000 < c0 ∨ 60 < n1 ∨ 60 < n2) :
    Calls Tryd.prog 4 #[.int .i64 b0, .int .i64 c0, .slice ao1 n1 c1, .slice ao2 n2 c2] w fun e w' => e = .returned (.bool true) ∧ Below w.heap.size w w' := by
  have ha := hidIt (alive_any w hT)
  clear hT
  by_cases h1 : 1000 < b0
  · clear h
    go_enter Tryd.func4, Tryd.ntmps4
    go_wp2_with fail
    refine ha.out.mono ?_
    rintro e w1 ⟨rfl, hB⟩
    have HB := hidIt hB
    clear ha hB
    go_wp2
    go_ret
    exact ⟨rfl, HB.out⟩
  · by_cases h4 : 1000 < c0
    · clear h
      go_enter Tryd.func4, Tryd.ntmps4
      go_wp2_with fail
      refine ha.out.mono ?_
      rintro e w1 ⟨rfl, hB⟩
      have HB := hidIt hB
      clear ha hB
      go_wp2
      go_ret
      exact ⟨rfl, HB.out⟩
    · by_cases h2 : 60 < n1
      · clear h
        go_enter Tryd.func4, Tryd.ntmps4
        go_wp2_with fail
        refine ha.out.mono ?_
        rintro e w1 ⟨rfl, hB⟩
        have HB := hidIt hB
        clear ha hB
        go_wp2
        go_ret
        exact ⟨rfl, HB.out⟩
      · have h3 : 60 < n2 := by omega
        clear h
        go_enter Tryd.func4, Tryd.ntmps4
        go_wp2_with fail
        refine ha.out.mono ?_
        rintro e w1 ⟨rfl, hB⟩
        have HB := hidIt hB
        clear ha hB
        go_wp2
        go_ret
        exact ⟨rfl, HB.out⟩

theorem MS.drewN {w W : World} {l : List SD} (h : MS w l W) (m : Nat) : MS w l (W.drewN m) := h.grow ((Kp.refl _ W).drewN m)

set_option maxRecDepth 100000 in
set_option maxHeartbeats 4000000 in
theorem two_main (b0 c0 : Int) (ao1 ao2 : Option Addr) (z1 z2 : List Int) (c1 c2 : Nat) (w : World) (hT : Tab w) (h1 : LAt w ao1 z1) (h2 : LAt w ao2 z2) (hb : b0 ≤ 1000) (hcb : c0 ≤ 1000) (hn1 : z1.length ≤ 60) (hn2 : z2.length ≤ 60) :
    Calls Tryd.prog 4 #[.int .i64 b0, .int .i64 c0, .slice ao1 z1.length c1, .slice ao2 z2.length c2] w fun e w' => e = .returned (.bool true) ∧ Below w.heap.size w w' := by
  have ha := hidIt (alive_any w hT)
  have H1 := hidIt h1
  have H2 := hidIt h2
  obtain ⟨b, hbe⟩ : ∃ b, b = clampB b0 := ⟨_, rfl⟩
  obtain ⟨c, hce⟩ : ∃ c, c = clampB c0 := ⟨_, rfl⟩
  have hbl : b ≤ 1000 := by rw [hbe]; unfold clampB; omega
  have hcl : c ≤ 1000 := by rw [hce]; unfold clampB; omega
  have hfs : Fits b (ofL b z1) := ofL_fits (by omega) _
  have hft : Fits c (ofL c z2) := ofL_fits (by omega) _
  obtain ⟨S, hS⟩ : ∃ S, S = ofL b z1 := ⟨_, rfl⟩
  obtain ⟨T, hTT⟩ : ∃ T, T = ofL c z2 := ⟨_, rfl⟩
  rw [← hS] at hfs
  rw [← hTT] at hft
  have HQ := hidIt (And.intro (same_to hfs hft hbl hcl) (And.intro (apart_to hfs hft hbl hcl) (And.intro (same_self hfs) (apart_self hfs))))
  have l1 := cnt_le b S
  have HbS := hidIt (And.intro hbe (And.intro hS (And.intro hce hTT)))
  clear hT h1 h2 hbe hce hS hTT hfs hft
  go_enter Tryd.func4, Tryd.ntmps4
  go_wp2_with fail
  refine ha.out.mono ?_
  rintro e w1 ⟨rfl, hB⟩
  have HB := hidIt hB
  clear ha hB
  go_wp2_with fail
  have hc := new_any b0 ao1 z1 c1 w1 (H1.out.below HB.out) (by omega)
  rw [← HbS.out.1, ← HbS.out.2.1] at hc
  refine hc.mono ?_
  rintro e w2 ⟨As, gs, rfl, hA, hg, hs, hk⟩
  have M1 : Hid (MS w [⟨As, gs, b, S⟩] w2) := (MS.start HB.out).push hs hk hA hg
  clear hc hs hk hA hg HB
  go_wp2_with fail
  have hc := new_any c0 ao2 z2 c2 w2 (H2.out.below M1.out.bel) (by omega)
  rw [← HbS.out.2.2.1, ← HbS.out.2.2.2] at hc
  refine hc.mono ?_
  rintro e w3 ⟨At, gt, rfl, hA, hg, hs, hk⟩
  have M2 : Hid (MS w [⟨As, gs, b, S⟩, ⟨At, gt, c, T⟩] w3) := M1.out.push hs hk hA hg
  clear hc hs hk hA hg M1 HbS
  go_wp2
  go_loopw [11, 12, 13] (fun vs va i wr => ∃ k : Nat, k ≤ 1001 ∧ i = .int .i64 k ∧ vs = .bool (sameTo S T k) ∧ va = .bool (apartTo S T k) ∧ Hid (MS w [⟨As, gs, b, S⟩, ⟨At, gt, c, T⟩] wr)) (fun _ _ i _ => 1001 - (intOf i).toNat)
  case atStart => exact ⟨0, by omega, rfl, by simp [sameTo], by simp [apartTo], M2⟩
  case round =>
    clear M2
    obtain ⟨k, hk, rfl, rfl, rfl, hM⟩ := hrel
    by_cases hlt : k ≤ 1000
    · have e1 := sameTo_succ S T k
      have e2 := apartTo_succ S T k
      have hx : hasP S k = S k := by simp [hasP]
      have hy : hasP T k = T k := by simp [hasP]
      have cS0 := hidIt (has_any (hM.out.at (i := 0) rfl) k)
      have cT0 := hidIt (has_any (hM.out.at (i := 1) rfl) k)
      have cS : Hid (∀ m, Calls Tryd.prog 19 #[.pointer (some ⟨As, 0, none⟩), .int .i64 k] (wr.drewN m) fun e w' => e = .returned (.bool (hasP S k)) ∧ ∃ m', w' = (wr.drewN m).drewN m') := fun m => has_any ((hM.out.drewN m).at (i := 0) rfl) k
      have cT : Hid (∀ m, Calls Tryd.prog 19 #[.pointer (some ⟨At, 0, none⟩), .int .i64 k] (wr.drewN m) fun e w' => e = .returned (.bool (hasP T k)) ∧ ∃ m', w' = (wr.drewN m).drewN m') := fun m => has_any ((hM.out.drewN m).at (i := 1) rfl) k
      rw [hx] at cS0 cS
      rw [hy] at cT0 cT
      have HE := hidIt (And.intro e1 e2)
      have hM2 : Hid (∀ m, MS w [⟨As, gs, b, S⟩, ⟨At, gt, c, T⟩] (wr.drewN m)) := fun m => hM.out.drewN m
      clear e1 e2 hx hy hM
      generalize sameTo S T k = u at *
      generalize apartTo S T k = v at *
      generalize S k = x at *
      generalize T k = y at *
      have HE1 : Hid (sameTo S T (k + 1) = (u && (x == y))) := HE.out.1
      have HE2 : Hid (apartTo S T (k + 1) = (v && !(x && y))) := HE.out.2
      clear HE
      cases u <;> cases v <;> cases x <;> cases y
      all_goals
        go_wp2_with (first
          | (go_at_call_of 19 (Value.pointer (some ⟨As, 0, none⟩)); refine cS0.out.mono ?_; rintro e w' ⟨rfl, m, rfl⟩)
          | (go_at_call_of 19 (Value.pointer (some ⟨At, 0, none⟩)); refine cT0.out.mono ?_; rintro e w' ⟨rfl, m, rfl⟩)
          | (go_at_call_of 19 (Value.pointer (some ⟨As, 0, none⟩)); refine (cS.out _).mono ?_; rintro e w' ⟨rfl, m, rfl⟩)
          | (go_at_call_of 19 (Value.pointer (some ⟨At, 0, none⟩)); refine (cT.out _).mono ?_; rintro e w' ⟨rfl, m, rfl⟩))
        go_roundw
        case rel => first | exact ⟨k + 1, by omega, by go_num, by rw [HE1.out]; rfl, by rw [HE2.out]; rfl, hM2.out _⟩ | exact ⟨k + 1, by omega, by go_num, by rw [HE1.out]; rfl, by rw [HE2.out]; rfl, hM2.out 0⟩
        case measure => simp [intOf]; omega
    · have he : k = 1001 := by omega
      subst he
      have hM2 := hM
      generalize sameTo S T 1001 = U at *
      generalize apartTo S T 1001 = V at *
      go_wp2_with fail
      have hc := same_any (hM.out.at (i := 0) rfl) (hM.out.at (i := 1) rfl)
      rw [HQ.out.1.1] at hc
      refine hc.mono ?_
      rintro e w4 ⟨rfl, hk4⟩
      have M4 := hidIt (hM.out.grow hk4)
      clear hc hk4 hM hM2
      go_wp2_with fail
      have hc := same_any (M4.out.at (i := 1) rfl) (M4.out.at (i := 0) rfl)
      rw [HQ.out.1.2] at hc
      refine hc.mono ?_
      rintro e w5 ⟨rfl, hk5⟩
      have M5 := hidIt (M4.out.grow hk5)
      clear hc hk5 M4
      go_wp2_with fail
      have hc := apart_any (M5.out.at (i := 0) rfl) (M5.out.at (i := 1) rfl)
      rw [HQ.out.2.1.1] at hc
      refine hc.mono ?_
      rintro e w6 ⟨rfl, hk6⟩
      have M6 := hidIt (M5.out.grow hk6)
      clear hc hk6 M5
      go_wp2_with fail
      have hc := apart_any (M6.out.at (i := 1) rfl) (M6.out.at (i := 0) rfl)
      rw [HQ.out.2.1.2] at hc
      refine hc.mono ?_
      rintro e w7 ⟨rfl, hk7⟩
      have M7 := hidIt (M6.out.grow hk7)
      clear hc hk7 M6
      go_wp2_with fail
      have hc := same_any (M7.out.at (i := 0) rfl) (M7.out.at (i := 0) rfl)
      rw [HQ.out.2.2.1] at hc
      refine hc.mono ?_
      rintro e w8 ⟨rfl, hk8⟩
      have M8 := hidIt (M7.out.grow hk8)
      clear hc hk8 M7
      go_wp2_with fail
      have hc := apart_any (M8.out.at (i := 0) rfl) (M8.out.at (i := 0) rfl)
      rw [HQ.out.2.2.2] at hc
      refine hc.mono ?_
      rintro e w9 ⟨rfl, hk9⟩
      have M9 := hidIt (M8.out.grow hk9)
      have hln := hidIt (len_cnt (M9.out.at (i := 0) rfl))
      clear hc hk9 M8 HQ
      generalize cnt b S = L at *
      go_wp2_with fail
      refine hln.out.mono ?_
      rintro e w' ⟨rfl, rfl⟩
      clear hln
      go_wp2
      go_ret
      exact ⟨by simp, M9.out.bel⟩
end Go.Proofs.YtcaibfalhkhleaaDoor
