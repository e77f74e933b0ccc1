/-
  SlabOffs answers true where its bounds hold.
-/
import Derived.Test.YtbjofdijhcdmaaaOffs
namespace Go.Proofs.Ytbjofdijhcdmaaa
set_option linter.unusedVariables false
open Go.RowKit

/-- What Off answers: the address, or nothing. -/
def offV (X p q n : Int) : Int := if q < - p ∨ n - p ≤ q then 0 else X + (p + q)
def offE (p q n : Int) : Int := if q < - p ∨ n - p ≤ q then 11 else 0

set_option maxRecDepth 100000 in
set_option maxHeartbeats 2000000 in
theorem offs_main (b0 o0 len0 cap0 : Nat) (zs : List Int) (a1 a2 a3 : Int) (w : World) (hb0 : b0 < w.heap.size) (hcells : Hid (∀ j, j < len0 → w.cell? ⟨b0, o0 + j, none⟩ = some (.int .u8 (zs.getD j 0)))) (hz : Hid (∀ n ∈ zs, (Lit.int .u8 n).wf = true))
    (h1 : 1 ≤ len0) (h2 : len0 ≤ 40) (h3 : 0 ≤ a2) (h4 : a2 ≤ 300) (h5 : -600 ≤ a3) (h6 : a3 ≤ 600) (h7 : 0 ≤ a1) (h8 : a1 ≤ 255) :
    Calls Try.prog 7 #[.slice (some ⟨b0, o0, none⟩) len0 cap0, .int .u8 a1, .int .i64 a2, .int .i64 a3] w fun e w' => e = .returned (.bool true) ∧ Below w.heap.size w w' := by
  go_enter Try.func7, Try.ntmps7
  go_wp2_with fail
  refine (alive_any _).mono ?_
  rintro e w1 ⟨rfl, hB1⟩
  have HB1 := hidIt hB1
  clear hB1
  go_wp2_with fail
  refine (new_any 16384 _ (by omega)).mono ?_
  rintro e w2 ⟨rfl, hR, hk⟩
  have hst : OffsAt w w1.heap.size zs 0 (.slice (some ⟨w2.heap.size, 0, none⟩) 0 0) (w2.alloc (.cells #[] 45)) :=
    ⟨ListSt.start HB1.out hR hk, newSl_inv 16384 (by omega), newSl_small 16384⟩
  have Hst := hidIt hst
  clear hst hR hk HB1
  go_wp2
  go_loopw [11, 12] (fun lv i wr => ∃ (m : Nat) (ao : Option Addr) (cap : Nat), lv = .slice ao m cap ∧ i = .int .i64 m ∧ m ≤ len0 ∧ Hid (OffsAt w w1.heap.size zs m (.slice ao m cap) wr)) (fun _ i _ => len0 - (intOf i).toNat)
  case atStart => exact ⟨0, _, _, rfl, rfl, by omega, Hst.out⟩
  case round =>
    clear Hst
    obtain ⟨m, ao, cap, rfl, rfl, hm, hrm⟩ := hrel
    by_cases hlt : m < len0
    · have hzb := wf_getD hz.out m
      have hB := hrm.out.1.below
      have cz : wr.cell? ⟨b0, o0 + m, none⟩ = some (.int .u8 (zs.getD m 0)) := (hB.cell (p := ⟨b0, o0 + m, none⟩) hb0).trans (hcells.out m hlt)
      have hget := hrm.out.got (by omega) hz.out
      obtain ⟨z, hzz⟩ : ∃ z, zs.getD m 0 = z := ⟨_, rfl⟩
      rw [hzz] at hzb cz hget
      have Hget := hidIt hget
      clear hget hzz hB
      go_wp2_with fail
      refine Hget.out.mono ?_
      rintro e w3 ⟨rfl, hL⟩
      have HL := hidIt hL
      have hrow := hidIt hL.row
      clear hL Hget cz
      obtain ⟨i0, hi, hz0, hz1, hz2⟩ := info_parts Try.info45
      go_wp2_with (at_builtin; go_must (refine wpList_append_lies _ rfl _ _ 44 rfl w.heap.size 45 i0 _ 1 8 Try.underlying44 hi hz0 hz1 hz2 rfl (by decide) _ _ _ rfl (by have := hrow.out; rw [firsts_length] at this; exact this.alloc _) ⟨w3.heap.size, 0, none⟩ 1 1 [.int .u64 (mkAddr 0 m)] rfl rfl (cell_one_new _ _ _) (by simp [Value.oneCell']) (by decide) (by unfold maxLen; omega) (by omega) (by have := HL.out.below.size; simp; omega) (w3.heap.size + 1) (by simp) ?_))
      clear hi hz0 hz1 hz2
      intro g c w4 ho hg hfr hgl
      have hx := firsts_length m
      have hp := HL.out.push (g := g) (cap := c) (x := mkAddr 0 m) (by rw [hx]; exact ho) hg hfr hgl
      rw [hx, ← firsts_succ] at hp
      have Hn := hidIt (hrm.out.next (by omega) hz.out hp)
      clear ho hg hfr hgl hx hp HL hrow hrm
      go_wp2
      go_roundw
      case rel => exact ⟨m + 1, _, _, rfl, by go_num, by omega, Hn⟩
      case measure => simp [intOf]; omega
    · obtain rfl : m = len0 := by omega
      have hkk0 : 0 ≤ a1 % (m : Int) := Int.emod_nonneg _ (by omega)
      have hkk1 : a1 % (m : Int) < m := Int.emod_lt_of_pos _ (by omega)
      obtain ⟨k, hk⟩ : ∃ k : Nat, a1 % (m : Int) = k := ⟨(a1 % (m : Int)).toNat, by omega⟩
      have hkm : k < m := by omega
      have hrow := hrm.out.1.row
      rw [firsts_length] at hrow
      obtain ⟨g, c, hv, _⟩ := own_pos hrow (by omega)
      simp only [Value.slice.injEq] at hv
      obtain ⟨rfl, hbad, rfl⟩ := hv
      clear hbad hrow
      have hcell := hrm.out.1.cell (firsts_get hkm)
      have hB := hrm.out.1.below
      have hzb := wf_getD hz.out k
      have cz : wr.cell? ⟨b0, o0 + k, none⟩ = some (.int .u8 (zs.getD k 0)) := (hB.cell (p := ⟨b0, o0 + k, none⟩) hb0).trans (hcells.out k hkm)
      have hoff : ∀ (p : Nat) (q : Int), (p : Int) < zs.getD k 0 + 1 → Calls Try.prog 20 #[.pointer (some ⟨w1.heap.size, 0, none⟩), .int .u64 (mkAddr 0 k + p), .int .i64 q] wr fun e w' => e = .returned (.tuple #[.int .u64 (offV (mkAddr 0 k) p q (zs.getD k 0 + 1)), .int .i64 (offE p q (zs.getD k 0 + 1))]) ∧ wr = w' := fun p q hp => hrm.out.off (by omega) hz.out hkm hp
      have hsize : ∀ (p : Nat), (p : Int) < zs.getD k 0 + 1 → Calls Try.prog 23 #[.pointer (some ⟨w1.heap.size, 0, none⟩), .int .u64 (mkAddr 0 k + p)] wr fun e w' => e = .returned (.tuple #[.int .i64 (zs.getD k 0 + 1), .int .i64 0]) ∧ wr = w' := fun p hp => hrm.out.size (by omega) hz.out hkm hp
      have hX0 : 4611686018427387904 ≤ mkAddr 0 k := by unfold mkAddr; omega
      have hX1 : mkAddr 0 k ≤ 4611686018430000000 := by unfold mkAddr; omega
      obtain ⟨z, hzz⟩ : ∃ z, zs.getD k 0 = z := ⟨_, rfl⟩
      rw [hzz] at hzb cz hoff hsize
      generalize mkAddr 0 k = X at hcell hoff hsize hX0 hX1
      have Hoff := hidIt hoff
      have Hsize := hidIt hsize
      have HBf := hidIt hB
      clear hoff hsize hB hzz hrm hcells hz
      obtain ⟨f, rfl⟩ : ∃ f : Nat, a2 = f := ⟨a2.toNat, by omega⟩
      have hA := Hoff.out 0 f (by omega)
      simp only [Int.natCast_zero, Int.add_zero] at hA
      by_cases hfz : z + 1 ≤ (f : Int)
      · rw [show offV X 0 f (z + 1) = 0 from by unfold offV; rw [if_pos (by omega)], show offE 0 f (z + 1) = 11 from by unfold offE; rw [if_pos (by omega)]] at hA
        have HA := hidIt hA
        clear hA Hoff Hsize
        go_wp2_with fail
        refine HA.out.mono ?_
        rintro e w' ⟨rfl, rfl⟩
        go_wp2
        go_ret
        exact ⟨rfl, HBf.out⟩
      · rw [show offV X 0 f (z + 1) = X + f from by unfold offV; rw [if_neg (by omega)]; simp, show offE 0 f (z + 1) = 0 from by unfold offE; rw [if_neg (by omega)]] at hA
        have HA := hidIt hA
        have hBc := Hoff.out f a3 (by omega)
        clear hA
        by_cases hout : a3 < - (f : Int) ∨ z + 1 - f ≤ a3
        · rw [show offV X f a3 (z + 1) = 0 from by unfold offV; rw [if_pos hout], show offE f a3 (z + 1) = 11 from by unfold offE; rw [if_pos hout]] at hBc
          have HBc := hidIt hBc
          clear hBc Hoff Hsize
          by_cases hneg : (f : Int) + a3 < 0
          · clear hout
            go_wp2_with fail
            refine HA.out.mono ?_
            rintro e w' ⟨rfl, rfl⟩
            go_wp2_with fail
            refine HBc.out.mono ?_
            rintro e w' ⟨rfl, rfl⟩
            go_wp2
            go_ret
            exact ⟨rfl, HBf.out⟩
          · have hbig : z + 1 ≤ (f : Int) + a3 := by omega
            clear hout
            go_wp2_with fail
            refine HA.out.mono ?_
            rintro e w' ⟨rfl, rfl⟩
            go_wp2_with fail
            refine HBc.out.mono ?_
            rintro e w' ⟨rfl, rfl⟩
            go_wp2
            go_ret
            exact ⟨rfl, HBf.out⟩
        · rw [show offV X f a3 (z + 1) = X + (f + a3) from by unfold offV; rw [if_neg hout], show offE f a3 (z + 1) = 0 from by unfold offE; rw [if_neg hout]] at hBc
          have hlo : 0 ≤ (f : Int) + a3 := by omega
          have hhi : (f : Int) + a3 < z + 1 := by omega
          have hC := Hoff.out ((f : Int) + a3).toNat (-a3) (by omega)
          have hD := Hsize.out ((f : Int) + a3).toNat (by omega)
          rw [show ((((f : Int) + a3).toNat : Nat) : Int) = (f : Int) + a3 from by omega] at hC hD
          rw [show offV X ((f : Int) + a3) (-a3) (z + 1) = X + f from by unfold offV; rw [if_neg (by omega)]; omega, show offE ((f : Int) + a3) (-a3) (z + 1) = 0 from by unfold offE; rw [if_neg (by omega)]] at hC
          have HBc := hidIt hBc
          have HC := hidIt hC
          have HD := hidIt hD
          clear hBc hC hD Hoff Hsize hout
          go_wp2_with fail
          refine HA.out.mono ?_
          rintro e w' ⟨rfl, rfl⟩
          go_wp2_with fail
          refine HBc.out.mono ?_
          rintro e w' ⟨rfl, rfl⟩
          go_wp2_with fail
          refine HC.out.mono ?_
          rintro e w' ⟨rfl, rfl⟩
          go_wp2_with fail
          refine HD.out.mono ?_
          rintro e w' ⟨rfl, rfl⟩
          go_wp2
          go_ret
          exact ⟨by simp, HBf.out⟩
end Go.Proofs.Ytbjofdijhcdmaaa
