/-
  The walk of Apart.
-/
import Derived.Test.YtcaibfalhkhleaaDoorMix
namespace Go.Proofs.YtcaibfalhkhleaaDoor
set_option linter.unusedVariables false
open Go.RowKit

def apartB (p q : Nat → Bool) (i : Nat) : Bool := ((wd (fun n => p n && q n) i : Nat) : Int) == 0
set_option maxHeartbeats 400000 in
theorem apart1 (p q : Nat → Bool) (k : Nat) (w : World) : Calls Tryd.prog 39 #[.int .u64 (wd p k : Nat), .int .u64 (wd q k : Nat)] w fun e w' => e = .returned (.bool (apartB p q k)) ∧ w = w' := by
  have key := mixAnd p q k
  go_enter Tryd.func39, Tryd.ntmps39
  go_wp2
  go_ret
  exact ⟨rfl, rfl⟩

set_option maxHeartbeats 4000000 in
theorem every39 {w : World} {A g b A2 g2 b2 : Nat} {p q : Nat → Bool} (h : SetAt w A g b p) (h2 : SetAt w A2 g2 b2 q) :
    Calls Tryd.prog 37 #[.pointer (some ⟨A, 0, none⟩), .pointer (some ⟨A2, 0, none⟩), .func (.func 39) #[] #[]] w fun e w' => e = .returned (.bool (decide (∀ i, i < max (nw b) (nw b2) → apartB p q i = true))) ∧ Kp (fun _ => False) w w' := by
  have hw := h.words
  have hw2 := h2.words
  have hnw := h.fits.nwLe
  have hnw2 := h2.fits.nwLe
  obtain ⟨M, hM⟩ : ∃ M, M = max (nw b) (nw b2) := ⟨_, rfl⟩
  have hMl : M ≤ 1024 := by omega
  rw [← hM]
  have Hs := hidIt h
  have H2 := hidIt h2
  have HM : Hid ((if nw b < nw b2 then ((nw b2 : Nat) : Int) else ((nw b : Nat) : Int)) = (M : Int)) := by
    show _ = _
    split <;> omega
  clear h h2
  go_enter Tryd.func37, Tryd.ntmps37
  go_wp2_with fail
  go_region
  rw [HM.out]
  clear HM hM hw hw2
  have hl1 := hidIt (laid_any H2.out.drew M (by omega))
  go_wp2_with fail
  refine hl1.out.mono ?_
  rintro e w1 ⟨rfl, hr1, hk1⟩
  have hl2 := hidIt (laid_any (Hs.out.drew.kept hk1 (fun h => h) (fun h => h)) M (by omega))
  have Hr1 := hidIt hr1
  have Hk1 := hidIt hk1
  clear hr1 hk1 hl1 Hs H2
  go_wp2_with fail
  refine hl2.out.mono ?_
  rintro e w2 ⟨rfl, hr2, hk2⟩
  have Hr2 := hidIt hr2
  have HR1 := hidIt (Hr1.out.kept hk2 (fun h => h))
  have HK : Hid (Kp (fun _ => False) w w2) := by
    have h1 := Hk1.out
    exact ⟨hk2.os.trans h1.os, hk2.tape.trans h1.tape, hk2.output.trans h1.output, Nat.le_trans h1.size hk2.size, fun k hk hn => (hk2.block k (Nat.lt_of_lt_of_le hk h1.size) hn).trans (h1.block k hk hn)⟩
  clear hr2 hk2 hl2 Hr1 Hk1
  go_wp2
  go_loopw [29] (fun i wr => ∃ k : Nat, k ≤ M ∧ i = .int .i64 k ∧ wr = w2 ∧ Hid (∀ i, i < k → apartB p q i = true)) (fun i _ => M - (intOf i).toNat)
  case atStart => exact ⟨0, Nat.zero_le _, rfl, rfl, fun i hi => by omega⟩
  case round =>
    obtain ⟨k, hk, rfl, hw2, hs⟩ := hrel
    subst hw2
    by_cases hlt : k < M
    · have hc1 : wr.cell? ⟨w.heap.size, k, none⟩ = some (.int .u64 (wd q k : Nat)) := HR1.out.cell hlt
      have hc2 := Hr2.out.cell hlt
      have hcall := apart1 p q k wr
      cases he : apartB p q k with
      | true =>
        have HN : Hid (∀ i, i < k + 1 → apartB p q i = true) := fun i hi => by
          by_cases hik : i < k
          · exact hs.out i hik
          · have : i = k := by omega
            subst this
            exact he
        rw [he] at hcall
        generalize wd p k = X at hc2 hcall
        generalize wd q k = Y at hc1 hcall
        clear hs he
        go_wp2_with (go_at_call 39; refine hcall.mono ?_; rintro e w' ⟨rfl, rfl⟩)
        go_roundw
        case rel => exact ⟨k + 1, by omega, by go_num, by trivial, HN⟩
        case measure => simp [intOf]; omega
      | false =>
        have HD : Hid (decide (∀ i, i < M → apartB p q i = true) = false) := by
          show _ = _
          simp
          exact ⟨k, hlt, he⟩
        rw [he] at hcall
        generalize wd p k = X at hc2 hcall
        generalize wd q k = Y at hc1 hcall
        clear hs he
        go_wp2_with (go_at_call 39; refine hcall.mono ?_; rintro e w' ⟨rfl, rfl⟩)
        go_ret
        exact ⟨by rw [HD.out]; rfl, HK.out⟩
    · have HD : Hid (decide (∀ i, i < M → apartB p q i = true) = true) := by
        show _ = _
        simp
        exact fun i hi => hs.out i (by omega)
      clear hs
      go_wp2
      go_ret
      exact ⟨by rw [HD.out]; rfl, HK.out⟩

/-- What Apart answers. -/
def apartAll (b b2 : Nat) (p q : Nat → Bool) : Bool := decide (∀ i, i < max (nw b) (nw b2) → apartB p q i = true)
set_option maxHeartbeats 400000 in
theorem apart_any {w : World} {A g b A2 g2 b2 : Nat} {p q : Nat → Bool} (h : SetAt w A g b p) (h2 : SetAt w A2 g2 b2 q) :
    Calls Tryd.prog 23 #[.pointer (some ⟨A, 0, none⟩), .pointer (some ⟨A2, 0, none⟩)] w fun e w' => e = .returned (.bool (apartAll b b2 p q)) ∧ Kp (fun _ => False) w w' := by
  have hm := hidIt (every39 h h2)
  clear h h2
  unfold apartAll
  generalize decide (∀ i, i < max (nw b) (nw b2) → apartB p q i = true) = D at hm ⊢
  go_enter Tryd.func23, Tryd.ntmps23
  go_wp2_with (go_at_call 37; refine hm.out.mono ?_; rintro e w' ⟨rfl, hk⟩)
  go_ret
  exact ⟨rfl, hk⟩
theorem apartAll_eq {b b2 : Nat} {p q : Nat → Bool} (h : Fits b p) (h2 : Fits b2 q) : apartAll b b2 p q = decide (∀ n, n < max b b2 → ¬ (p n = true ∧ q n = true)) := by
  unfold apartAll
  rw [decide_eq_decide]
  constructor
  · intro hs n hn hpq
    have h3 : n / 64 < max (nw b) (nw b2) := by unfold nw; omega
    have := hs _ h3
    simp only [apartB, beq_iff_eq, Int.natCast_eq_zero] at this
    have hb := wd_at (fun n => p n && q n) n
    rw [this] at hb
    simp [hpq.1, hpq.2] at hb
  · intro hs i hi
    simp only [apartB, beq_iff_eq, Int.natCast_eq_zero]
    refine (wd_eq (by omega) fun j hj => ?_).symm
    have : ¬ (p (64 * i + j) = true ∧ q (64 * i + j) = true) := by
      by_cases hn : 64 * i + j < max b b2
      · exact hs _ hn
      · rw [h.out (by omega)]
        simp
    simp only [Nat.zero_testBit]
    cases hp : p (64 * i + j) <;> cases hq : q (64 * i + j) <;> simp_all
end Go.Proofs.YtcaibfalhkhleaaDoor
