/-
  SlabHolds answers true.
-/
import Derived.Test.YtbjofdijhcdmaaaHolds
namespace Go.Proofs.Ytbjofdijhcdmaaa
set_option linter.unusedVariables false
open Go.RowKit Go.Maps

set_option maxRecDepth 100000 in
set_option maxHeartbeats 2000000 in
theorem holds_early (a0 a2 : Int) (a1 : Option Addr) (len1 cap1 : Nat) (w : World) (hl : len1 ≤ 9223372036854775807) (h : a0 < 1 ∨ 100 < a0 ∨ 100 < len1) :
    Calls Try.prog 5 #[.int .i64 a0, .slice a1 len1 cap1, .int .i64 a2] w fun e w' => e = .returned (.bool true) ∧ Below w.heap.size w w' := by
  have hcases : a0 < 1 ∨ (1 ≤ a0 ∧ 100 < a0) ∨ (1 ≤ a0 ∧ a0 ≤ 100 ∧ 100 < len1) := by omega
  clear h
  rcases hcases with h1 | ⟨h1, h2⟩ | ⟨h1, h2, h3⟩
  all_goals
    go_enter Try.func5, Try.ntmps5
    go_wp2_with fail
    refine (alive_any _).mono ?_
    rintro e w1 ⟨rfl, hB1⟩
    have HB1 := hidIt hB1
    clear hB1
    go_wp2
    go_ret
    exact ⟨rfl, HB1.out⟩

theorem zeroE2 (w : World) : (zeroValue 2).run Try.prog w = .ok (.int .i64 0) w := by kernel_rfl

set_option maxRecDepth 100000 in
set_option maxHeartbeats 2000000 in
theorem holds_main (n : Nat) (ao1 : Option Addr) (len1 cap1 : Nat) (zs : List Int) (a2 : Int) (w : World) (hn1 : 1 ≤ n) (hn : n ≤ 100) (hl : len1 ≤ 100)
    (hrows : Hid (∀ j, j < len1 → ∃ b o, ao1 = some ⟨b, o, none⟩ ∧ b < w.heap.size ∧ ∃ z : Int, 0 ≤ z ∧ z ≤ 65535 ∧ w.cell? ⟨b, o + j, none⟩ = some (.int .u16 z))) :
    Calls Try.prog 5 #[.int .i64 n, .slice ao1 len1 cap1, .int .i64 a2] w fun e w' => e = .returned (.bool true) ∧ Below w.heap.size w w' := by
  have hmm := @run_makeMap Try.prog
  go_enter Try.func5, Try.ntmps5
  go_wp2_with fail
  refine (alive_any _).mono ?_
  rintro e w1 ⟨rfl, hB1⟩
  have HB1 := hidIt hB1
  clear hB1
  go_wp2_with fail
  refine (new_any (n + 5) _ (by omega)).mono ?_
  rintro e w2 ⟨rfl, hR, hk⟩
  have hS := (Stage.new (w0 := w) (Ex := fun _ => False) HB1.out (fun _ h => h.elim) hR hk).1
  have HS2 := hidIt hS
  clear hS hR hk HB1
  have i0 := newSl_inv (n + 5) (by omega)
  have s0 := newSl_small (n + 5)
  rw [← bSt_nil] at i0 s0
  obtain ⟨i1, s1⟩ := bSt_keep (n := 5) (by omega) (by omega) (by simp) i0 s0
  obtain ⟨i2, s2⟩ := bSt_keep (n := n) (by omega) (by omega) (by simp; omega) i1 s1
  have HI := hidIt (And.intro i0 (And.intro s0 (And.intro i1 (And.intro s1 (And.intro i2 s2)))))
  clear i0 s0 i1 s1 i2 s2
  have hg5 := HS2.out.did (fun fp hR => get_any hR HI.out.1 (HI.out.2.1.mono (by simp)) ((5 : Nat) : Int))
  rw [← bSt_nil, bSt_get (by omega) (by omega) (by simp)] at hg5
  have Hg5 := hidIt hg5
  clear hg5
  go_wp2_with fail
  refine Hg5.out.mono ?_
  rintro e w3 ⟨rfl, hS3, _⟩
  have hgn := hS3.did (fun fp hR => get_any hR HI.out.2.2.1 (HI.out.2.2.2.1.mono (by simp)) (n : Int))
  rw [bSt_get (by omega) (by omega) (by simp; omega)] at hgn
  have Hgn := hidIt hgn
  clear hgn hS3 Hg5 HS2
  go_wp2_with fail
  refine Hgn.out.mono ?_
  rintro e w4 ⟨rfl, hS4, _⟩
  have hI2 := HI.out.2.2.2.2.1
  have hs2 := HI.out.2.2.2.2.2
  simp only [List.nil_append, List.cons_append] at hS4 hI2 hs2
  rw [hSt_start] at hS4 hI2 hs2
  have HH0 : Hid (HoldsAt w w1.heap.size n w4.heap.size 0 (w4.alloc (.map #[] 0))) := ⟨_, _, _,
    { stage := hS4.box (.map #[] 0), exB := .inr rfl, geB := hS4.below.size, map := World.ownsMap_made _ _ _ _, inv := hI2, small := by simpa using hs2, len := by simp, agree := Agree.start n }⟩
  clear hS4 Hgn hI2 hs2 HI
  go_wp2
  clear hmm
  go_loopw [14] (fun i wr => ∃ m : Nat, m ≤ len1 ∧ i = .int .i64 m ∧ Hid (HoldsAt w w1.heap.size n w4.heap.size m wr)) (fun i _ => len1 - (intOf i).toNat)
  case atStart => exact ⟨0, by omega, rfl, HH0⟩
  case round =>
    clear HH0
    obtain ⟨m, hm, rfl, hH⟩ := hrel
    by_cases hlt : m < len1
    · obtain ⟨b, o, rfl, hb, z, hz0, hz1, cz0⟩ := hrows.out m hlt
      obtain ⟨sl, D, Ex, hI⟩ := hH.out
      have HI := hidIt hI
      have cz : wr.cell? ⟨b, o + m, none⟩ = some (.int .u16 z) := (hI.stage.below.cell (p := ⟨b, o + m, none⟩) hb).trans cz0
      clear hI cz0 hrows
      have hk0 : 0 ≤ z / 2 % (n : Int) := Int.emod_nonneg _ (by omega)
      have hk1 : z / 2 % (n : Int) < n := Int.emod_lt_of_pos _ (by omega)
      obtain ⟨k, hk⟩ : ∃ k : Nat, z / 2 % (n : Int) = k := ⟨(z / 2 % (n : Int)).toNat, by omega⟩
      have hkn : k < n := by omega
      have hoff := hidIt (HI.out.off hn1 hn hkn)
      by_cases hev : z % 2 = 0
      · have hevb : (z % 2 == 0) = true := by rw [beq_iff_eq]; exact hev
        have hst := hidIt (HI.out.store hn hkn (wrap64 (a2 + m)))
        clear hev HI hH
        go_wp2_with fail
        refine hoff.out.mono ?_
        rintro e w' ⟨rfl, rfl⟩
        go_wp2_with fail
        refine hst.out.mono ?_
        rintro e w5 ⟨rfl, hB5⟩
        have HB5 := hidIt hB5
        clear hB5 hst hoff cz
        go_wp2_with (at_mapUpdate; go_must (refine wpList_mapUpdate_own _ rfl _ _ _ 55 rfl 3 2 lawK Try.underlying55 _ w4.heap.size m _ rfl HB5.out.map (by unfold maxLen; omega) _ _ _ rfl rfl (keyOf_int_mk Try.underlying3 (WalkArith.wf_i64 (by omega))) _ [] (plainElem_int Try.underlying2 (wrap64_wf _)) ?_))
        intro w6 hm6 hg6
        have Hn := hidIt (HB5.out.put hkn hm6 hg6)
        clear hm6 hg6 HB5
        go_wp2
        go_roundw
        case rel => exact ⟨m + 1, by omega, by go_num, Hn⟩
        case measure => simp [intOf]; omega
      · have hevb : (z % 2 == 0) = false := by rw [beq_eq_false_iff_ne]; exact hev
        have hst := hidIt (HI.out.blank hn hkn)
        clear hev HI hH
        go_wp2_with fail
        refine hoff.out.mono ?_
        rintro e w' ⟨rfl, rfl⟩
        go_wp2_with fail
        refine hst.out.mono ?_
        rintro e w5 ⟨rfl, hB5⟩
        have HB5 := hidIt hB5
        clear hB5 hst hoff cz
        go_wp2_with (at_delete; go_must (refine wpList_delete_own _ rfl _ _ 55 3 rfl 2 lawK Try.underlying55 _ w4.heap.size m _ rfl HB5.out.map _ _ rfl (keyOf_int_mk Try.underlying3 (WalkArith.wf_i64 (by omega))) ?_))
        intro w6 hm6 ht6
        have Hn := hidIt (HB5.out.del hkn hm6 ht6.grown)
        clear hm6 ht6 HB5
        go_wp2
        go_roundw
        case rel => exact ⟨m + 1, by omega, by go_num, Hn⟩
        case measure => simp [intOf]; omega
    · obtain rfl : m = len1 := by omega
      clear hrows
      obtain ⟨sl, D, Ex, hI⟩ := hH.out
      have HI := hidIt hI
      clear hI hH
      go_wp2
      go_loop [18] (fun i => ∃ k : Nat, k ≤ n ∧ i = .int .i64 k) (fun i => n - (intOf i).toNat)
      case atStart => exact ⟨0, by omega, rfl⟩
      case round =>
        obtain ⟨k, hkn, rfl⟩ := hrel
        by_cases hlt2 : k < n
        · obtain ⟨s, hs⟩ : ∃ s, sl[k]? = some s := ⟨_, List.getElem?_eq_getElem (by rw [HI.out.len]; exact hlt2)⟩
          have hoff := hidIt (HI.out.off hn1 hn hlt2)
          have hload := HI.out.load hn hs
          obtain ⟨hag1, hag2⟩ := HI.out.agree k s hlt2 hs
          cases hb : s.2
          · rw [hb] at hload hag1
            simp only [Bool.false_eq_true, if_false] at hload
            have Hload := hidIt hload
            have Hmap := hidIt HI.out.map
            clear hload hag2 hs hb
            go_wp2_with fail
            refine hoff.out.mono ?_
            rintro e w' ⟨rfl, rfl⟩
            go_wp2_with fail
            refine Hload.out.mono ?_
            rintro e w' ⟨rfl, rfl⟩
            go_wp2_with (at_lookup; go_must (refine wpList_lookup_own_ok_int _ rfl _ _ 55 rfl 3 2 .i64 lawK Try.underlying55 Try.underlying2 (zeroE2 _) w4.heap.size m _ rfl Hmap.out _ _ rfl (keyOf_int_mk Try.underlying3 (WalkArith.wf_i64 (by omega))) ?_))
            intro c hat hwc
            clear hat hwc hoff Hload Hmap
            clear hag1
            go_wp2
            go_round
            case rel => exact ⟨k + 1, by omega, by go_num⟩
            case measure => simp [intOf]; omega
          · rw [hb] at hload hag1
            simp only [if_true] at hload
            have hag2' := hag2 hb
            have Hload := hidIt hload
            have Hmap := hidIt HI.out.map
            have Hag := hidIt hag2'
            clear hload hag2 hs hb hag2'
            go_wp2_with fail
            refine hoff.out.mono ?_
            rintro e w' ⟨rfl, rfl⟩
            go_wp2_with fail
            refine Hload.out.mono ?_
            rintro e w' ⟨rfl, rfl⟩
            go_wp2_with (at_lookup; go_must (refine wpList_lookup_own_ok_int _ rfl _ _ 55 rfl 3 2 .i64 lawK Try.underlying55 Try.underlying2 (zeroE2 _) w4.heap.size m _ rfl Hmap.out _ _ rfl (keyOf_int_mk Try.underlying3 (WalkArith.wf_i64 (by omega))) ?_))
            intro c hat hwc
            have hc : s.1 = c := by
              have := Hag.out.symm.trans hat
              simpa using this
            rw [← hc]
            clear hat hwc hoff Hload Hmap Hag hag1 hc
            go_wp2
            go_round
            case rel => exact ⟨k + 1, by omega, by go_num⟩
            case measure => simp [intOf]; omega
        · have Hoth := hidIt (HI.out.other hn)
          have HBf := hidIt HI.out.stage.below
          clear HI
          go_wp2_with (go_at_call 18; refine Hoth.out.mono ?_; rintro e w' ⟨rfl, rfl⟩)
          go_ret
          exact ⟨rfl, HBf.out⟩
end Go.Proofs.Ytbjofdijhcdmaaa
