/-
  The walks of the document's New, Copy, All, Do; of SameInts.
-/
import Derived.Test.YtcaibfalhkhleaaDoorRef
namespace Go.Proofs.YtcaibfalhkhleaaDoor
set_option linter.unusedVariables false
open Go.RowKit

theorem Tryd.info4 : (Tryd.prog.info? 4).map (fun i => (i.zero, i.size, i.bytes)) = some (some (.bool false), 1, 1) := by kernel_rfl
theorem make38 (m : Nat) (hm : m ≤ 1000000) (wx : World) : Sem.run Tryd.prog (Instr.makeSlice 38 (.int .i64 (m : Int)) (.int .i64 (m : Int))) wx = .ok (.slice (some ⟨wx.heap.size, 0, none⟩) m m) (wx.alloc (.cells (madeCells #[.bool false] m) 4)) := by
  obtain ⟨i, hi, hz0, hz1, hz2⟩ := info_parts Tryd.info4
  have hr := run_make (P := Tryd.prog) wx 38 4 i _ (by kernel_rfl) hi hz0 .i64 .i64 m m (by omega) (Int.le_refl _) (by rw [hz2]; omega) (by omega)
  rw [hz1] at hr
  simp only [Int.toNat_natCast, Nat.mul_one] at hr
  exact hr

set_option maxHeartbeats 400000 in
theorem rnew_mid (b : Nat) (hb : b ≤ 65536) (hb1 : 0 < b) (ao : Option Addr) (zs : List Int) (cap : Nat) (w : World) (hl : LAt w ao zs) (hn : zs.length ≤ 1000000) :
    Calls Tryd.prog 11 #[.int .i64 b, .slice ao zs.length cap] w fun e w' => ∃ R h, e = .returned (.pointer (some ⟨R, 0, none⟩)) ∧ w.heap.size ≤ R ∧ w.heap.size ≤ h ∧ RefAt w' R h b b (ofL b zs) ∧ Kp (fun _ => False) w w' := by
  have hmk : ∀ wx : World, Sem.run Tryd.prog (Instr.makeSlice 38 (.int .i64 b) (.int .i64 b)) wx = .ok (.slice (some ⟨wx.heap.size, 0, none⟩) b b) (wx.alloc (.cells (madeCells #[.bool false] b) 4)) := by
    intro wx
    exact make38 b (by omega) wx
  have Hl := hidIt hl
  clear hl
  go_enter Tryd.func11, Tryd.ntmps11
  go_wp2
  have hst : Hid (RefAt ((w.alloc (.cells (madeCells #[.bool false] b) 4)).alloc (.cells #[.slice (some ⟨w.heap.size, 0, none⟩) b b] 40)) (w.heap.size + 1) w.heap.size b b (ofL b (zs.take 0)) ∧ Kp (fun _ => False) w ((w.alloc (.cells (madeCells #[.bool false] b) 4)).alloc (.cells #[.slice (some ⟨w.heap.size, 0, none⟩) b b] 40))) := by
    refine ⟨⟨?_, ?_, ofL_fits (by omega) _⟩, ((Kp.refl _ w).alloc _).alloc _⟩
    · have := heap_new (w.alloc (.cells (madeCells #[.bool false] b) 4)) (.cells #[.slice (some ⟨w.heap.size, 0, none⟩) b b] 40)
      rwa [World.size_alloc] at this
    · rw [List.take_zero, ofL_nil]
      refine ⟨_, (Below.heap_alloc _ _ _ (by simp)).trans (heap_new w _), size_madeCells _ _, Nat.le_refl _, by unfold maxLen; omega, fun i hi => ?_⟩
      simp [madeCells, hi, Nat.mod_one]
  clear hmk
  go_loopw [6] (fun i wr => ∃ k : Nat, k ≤ zs.length ∧ i = .int .i64 k ∧ Hid (RefAt wr (w.heap.size + 1) w.heap.size b b (ofL b (zs.take k)) ∧ Kp (fun _ => False) w wr)) (fun i _ => zs.length - (intOf i).toNat)
  case atStart => exact ⟨0, Nat.zero_le _, rfl, hst.out⟩
  case round =>
    clear hst
    obtain ⟨k, hk, rfl, hrm⟩ := hrel
    by_cases hlt : k < zs.length
    · obtain ⟨z, hz⟩ : ∃ z, zs[k]? = some z := ⟨_, List.getElem?_eq_getElem hlt⟩
      obtain ⟨lb, off, rfl, hc⟩ := Hl.out k z hz
      have hc2 := hrm.out.2.cell hc (fun h => h)
      have hadd := hidIt (rput_any hrm.out.1 z true)
      have Hnext : Hid (putP b (ofL b (zs.take k)) z true = ofL b (zs.take (k + 1))) := by
        show _ = _
        rw [put_add.2, addP_ofL, List.take_add_one, hz]
        rfl
      clear hc hz
      go_wp2_with fail
      refine hadd.out.mono ?_
      rintro e w2 ⟨rfl, hs2, hk2⟩
      rw [Hnext.out] at hs2
      have H2 : Hid (RefAt w2 (w.heap.size + 1) w.heap.size b b (ofL b (zs.take (k + 1))) ∧ Kp (fun _ => False) w w2) := ⟨hs2, hrm.out.2.trans (hk2.mono fun i hi => .inr (by omega))⟩
      clear hs2 hk2 hadd hrm hc2 Hnext
      go_wp2
      go_roundw
      case rel => exact ⟨k + 1, by omega, by go_num, H2⟩
      case measure => simp [intOf]; omega
    · have he : k = zs.length := by omega
      subst he
      have HF := hidIt hrm.out
      rw [List.take_length] at HF
      clear hrm
      go_wp2
      go_ret
      exact ⟨_, _, rfl, by omega, by omega, HF.out⟩

set_option maxHeartbeats 400000 in
theorem rnew_zero (ao : Option Addr) (zs : List Int) (cap : Nat) (w : World) (hl : LAt w ao zs) (hn : zs.length ≤ 1000000) :
    Calls Tryd.prog 11 #[.int .i64 0, .slice ao zs.length cap] w fun e w' => ∃ R h, e = .returned (.pointer (some ⟨R, 0, none⟩)) ∧ w.heap.size ≤ R ∧ w.heap.size ≤ h ∧ RefAt w' R h 0 0 (ofL 0 zs) ∧ Kp (fun _ => False) w w' := by
  have hmk : ∀ wx : World, Sem.run Tryd.prog (Instr.makeSlice 38 (.int .i64 0) (.int .i64 0)) wx = .ok (.slice (some ⟨wx.heap.size, 0, none⟩) 0 0) (wx.alloc (.cells (madeCells #[.bool false] 0) 4)) := by
    intro wx
    exact make38 0 (by omega) wx
  have Hl := hidIt hl
  clear hl
  go_enter Tryd.func11, Tryd.ntmps11
  go_wp2
  have hst : Hid (RefAt ((w.alloc (.cells (madeCells #[.bool false] 0) 4)).alloc (.cells #[.slice (some ⟨w.heap.size, 0, none⟩) 0 0] 40)) (w.heap.size + 1) w.heap.size 0 0 (ofL 0 (zs.take 0)) ∧ Kp (fun _ => False) w ((w.alloc (.cells (madeCells #[.bool false] 0) 4)).alloc (.cells #[.slice (some ⟨w.heap.size, 0, none⟩) 0 0] 40))) := by
    refine ⟨⟨?_, ?_, ofL_fits (by omega) _⟩, ((Kp.refl _ w).alloc _).alloc _⟩
    · have := heap_new (w.alloc (.cells (madeCells #[.bool false] 0) 4)) (.cells #[.slice (some ⟨w.heap.size, 0, none⟩) 0 0] 40)
      rwa [World.size_alloc] at this
    · rw [List.take_zero, ofL_nil]
      refine ⟨_, (Below.heap_alloc _ _ _ (by simp)).trans (heap_new w _), size_madeCells _ _, Nat.le_refl _, by unfold maxLen; omega, fun i hi => ?_⟩
      simp [madeCells, hi, Nat.mod_one]
  clear hmk
  go_loopw [6] (fun i wr => ∃ k : Nat, k ≤ zs.length ∧ i = .int .i64 k ∧ Hid (RefAt wr (w.heap.size + 1) w.heap.size 0 0 (ofL 0 (zs.take k)) ∧ Kp (fun _ => False) w wr)) (fun i _ => zs.length - (intOf i).toNat)
  case atStart => exact ⟨0, Nat.zero_le _, rfl, hst.out⟩
  case round =>
    clear hst
    obtain ⟨k, hk, rfl, hrm⟩ := hrel
    by_cases hlt : k < zs.length
    · obtain ⟨z, hz⟩ : ∃ z, zs[k]? = some z := ⟨_, List.getElem?_eq_getElem hlt⟩
      obtain ⟨lb, off, rfl, hc⟩ := Hl.out k z hz
      have hc2 := hrm.out.2.cell hc (fun h => h)
      have hadd := hidIt (rput_any hrm.out.1 z true)
      have Hnext : Hid (putP 0 (ofL 0 (zs.take k)) z true = ofL 0 (zs.take (k + 1))) := by
        show _ = _
        rw [put_add.2, addP_ofL, List.take_add_one, hz]
        rfl
      clear hc hz
      go_wp2_with fail
      refine hadd.out.mono ?_
      rintro e w2 ⟨rfl, hs2, hk2⟩
      rw [Hnext.out] at hs2
      have H2 : Hid (RefAt w2 (w.heap.size + 1) w.heap.size 0 0 (ofL 0 (zs.take (k + 1))) ∧ Kp (fun _ => False) w w2) := ⟨hs2, hrm.out.2.trans (hk2.mono fun i hi => .inr (by omega))⟩
      clear hs2 hk2 hadd hrm hc2 Hnext
      go_wp2
      go_roundw
      case rel => exact ⟨k + 1, by omega, by go_num, H2⟩
      case measure => simp [intOf]; omega
    · have he : k = zs.length := by omega
      subst he
      have HF := hidIt hrm.out
      rw [List.take_length] at HF
      clear hrm
      go_wp2
      go_ret
      exact ⟨_, _, rfl, by omega, by omega, HF.out⟩

set_option maxHeartbeats 400000 in
theorem rnew_low (b0 : Int) (hb0 : b0 < 0) (ao : Option Addr) (zs : List Int) (cap : Nat) (w : World) (hl : LAt w ao zs) (hn : zs.length ≤ 1000000) :
    Calls Tryd.prog 11 #[.int .i64 b0, .slice ao zs.length cap] w fun e w' => ∃ R h, e = .returned (.pointer (some ⟨R, 0, none⟩)) ∧ w.heap.size ≤ R ∧ w.heap.size ≤ h ∧ RefAt w' R h 0 0 (ofL 0 zs) ∧ Kp (fun _ => False) w w' := by
  have hmk : ∀ wx : World, Sem.run Tryd.prog (Instr.makeSlice 38 (.int .i64 0) (.int .i64 0)) wx = .ok (.slice (some ⟨wx.heap.size, 0, none⟩) 0 0) (wx.alloc (.cells (madeCells #[.bool false] 0) 4)) := by
    intro wx
    exact make38 0 (by omega) wx
  have Hl := hidIt hl
  clear hl
  go_enter Tryd.func11, Tryd.ntmps11
  go_wp2
  have hst : Hid (RefAt ((w.alloc (.cells (madeCells #[.bool false] 0) 4)).alloc (.cells #[.slice (some ⟨w.heap.size, 0, none⟩) 0 0] 40)) (w.heap.size + 1) w.heap.size 0 0 (ofL 0 (zs.take 0)) ∧ Kp (fun _ => False) w ((w.alloc (.cells (madeCells #[.bool false] 0) 4)).alloc (.cells #[.slice (some ⟨w.heap.size, 0, none⟩) 0 0] 40))) := by
    refine ⟨⟨?_, ?_, ofL_fits (by omega) _⟩, ((Kp.refl _ w).alloc _).alloc _⟩
    · have := heap_new (w.alloc (.cells (madeCells #[.bool false] 0) 4)) (.cells #[.slice (some ⟨w.heap.size, 0, none⟩) 0 0] 40)
      rwa [World.size_alloc] at this
    · rw [List.take_zero, ofL_nil]
      refine ⟨_, (Below.heap_alloc _ _ _ (by simp)).trans (heap_new w _), size_madeCells _ _, Nat.le_refl _, by unfold maxLen; omega, fun i hi => ?_⟩
      simp [madeCells, hi, Nat.mod_one]
  clear hmk
  go_loopw [6] (fun i wr => ∃ k : Nat, k ≤ zs.length ∧ i = .int .i64 k ∧ Hid (RefAt wr (w.heap.size + 1) w.heap.size 0 0 (ofL 0 (zs.take k)) ∧ Kp (fun _ => False) w wr)) (fun i _ => zs.length - (intOf i).toNat)
  case atStart => exact ⟨0, Nat.zero_le _, rfl, hst.out⟩
  case round =>
    clear hst
    obtain ⟨k, hk, rfl, hrm⟩ := hrel
    by_cases hlt : k < zs.length
    · obtain ⟨z, hz⟩ : ∃ z, zs[k]? = some z := ⟨_, List.getElem?_eq_getElem hlt⟩
      obtain ⟨lb, off, rfl, hc⟩ := Hl.out k z hz
      have hc2 := hrm.out.2.cell hc (fun h => h)
      have hadd := hidIt (rput_any hrm.out.1 z true)
      have Hnext : Hid (putP 0 (ofL 0 (zs.take k)) z true = ofL 0 (zs.take (k + 1))) := by
        show _ = _
        rw [put_add.2, addP_ofL, List.take_add_one, hz]
        rfl
      clear hc hz
      go_wp2_with fail
      refine hadd.out.mono ?_
      rintro e w2 ⟨rfl, hs2, hk2⟩
      rw [Hnext.out] at hs2
      have H2 : Hid (RefAt w2 (w.heap.size + 1) w.heap.size 0 0 (ofL 0 (zs.take (k + 1))) ∧ Kp (fun _ => False) w w2) := ⟨hs2, hrm.out.2.trans (hk2.mono fun i hi => .inr (by omega))⟩
      clear hs2 hk2 hadd hrm hc2 Hnext
      go_wp2
      go_roundw
      case rel => exact ⟨k + 1, by omega, by go_num, H2⟩
      case measure => simp [intOf]; omega
    · have he : k = zs.length := by omega
      subst he
      have HF := hidIt hrm.out
      rw [List.take_length] at HF
      clear hrm
      go_wp2
      go_ret
      exact ⟨_, _, rfl, by omega, by omega, HF.out⟩

set_option maxHeartbeats 400000 in
theorem rnew_high (b0 : Int) (hb0 : 65536 < b0) (ao : Option Addr) (zs : List Int) (cap : Nat) (w : World) (hl : LAt w ao zs) (hn : zs.length ≤ 1000000) :
    Calls Tryd.prog 11 #[.int .i64 b0, .slice ao zs.length cap] w fun e w' => ∃ R h, e = .returned (.pointer (some ⟨R, 0, none⟩)) ∧ w.heap.size ≤ R ∧ w.heap.size ≤ h ∧ RefAt w' R h 65536 65536 (ofL 65536 zs) ∧ Kp (fun _ => False) w w' := by
  have hmk : ∀ wx : World, Sem.run Tryd.prog (Instr.makeSlice 38 (.int .i64 65536) (.int .i64 65536)) wx = .ok (.slice (some ⟨wx.heap.size, 0, none⟩) 65536 65536) (wx.alloc (.cells (madeCells #[.bool false] 65536) 4)) := by
    intro wx
    exact make38 65536 (by omega) wx
  have Hl := hidIt hl
  clear hl
  go_enter Tryd.func11, Tryd.ntmps11
  go_wp2
  have hst : Hid (RefAt ((w.alloc (.cells (madeCells #[.bool false] 65536) 4)).alloc (.cells #[.slice (some ⟨w.heap.size, 0, none⟩) 65536 65536] 40)) (w.heap.size + 1) w.heap.size 65536 65536 (ofL 65536 (zs.take 0)) ∧ Kp (fun _ => False) w ((w.alloc (.cells (madeCells #[.bool false] 65536) 4)).alloc (.cells #[.slice (some ⟨w.heap.size, 0, none⟩) 65536 65536] 40))) := by
    refine ⟨⟨?_, ?_, ofL_fits (by omega) _⟩, ((Kp.refl _ w).alloc _).alloc _⟩
    · have := heap_new (w.alloc (.cells (madeCells #[.bool false] 65536) 4)) (.cells #[.slice (some ⟨w.heap.size, 0, none⟩) 65536 65536] 40)
      rwa [World.size_alloc] at this
    · rw [List.take_zero, ofL_nil]
      refine ⟨_, (Below.heap_alloc _ _ _ (by simp)).trans (heap_new w _), size_madeCells _ _, Nat.le_refl _, by unfold maxLen; omega, fun i hi => ?_⟩
      simp [madeCells, hi, Nat.mod_one]
  clear hmk
  go_loopw [6] (fun i wr => ∃ k : Nat, k ≤ zs.length ∧ i = .int .i64 k ∧ Hid (RefAt wr (w.heap.size + 1) w.heap.size 65536 65536 (ofL 65536 (zs.take k)) ∧ Kp (fun _ => False) w wr)) (fun i _ => zs.length - (intOf i).toNat)
  case atStart => exact ⟨0, Nat.zero_le _, rfl, hst.out⟩
  case round =>
    clear hst
    obtain ⟨k, hk, rfl, hrm⟩ := hrel
    by_cases hlt : k < zs.length
    · obtain ⟨z, hz⟩ : ∃ z, zs[k]? = some z := ⟨_, List.getElem?_eq_getElem hlt⟩
      obtain ⟨lb, off, rfl, hc⟩ := Hl.out k z hz
      have hc2 := hrm.out.2.cell hc (fun h => h)
      have hadd := hidIt (rput_any hrm.out.1 z true)
      have Hnext : Hid (putP 65536 (ofL 65536 (zs.take k)) z true = ofL 65536 (zs.take (k + 1))) := by
        show _ = _
        rw [put_add.2, addP_ofL, List.take_add_one, hz]
        rfl
      clear hc hz
      go_wp2_with fail
      refine hadd.out.mono ?_
      rintro e w2 ⟨rfl, hs2, hk2⟩
      rw [Hnext.out] at hs2
      have H2 : Hid (RefAt w2 (w.heap.size + 1) w.heap.size 65536 65536 (ofL 65536 (zs.take (k + 1))) ∧ Kp (fun _ => False) w w2) := ⟨hs2, hrm.out.2.trans (hk2.mono fun i hi => .inr (by omega))⟩
      clear hs2 hk2 hadd hrm hc2 Hnext
      go_wp2
      go_roundw
      case rel => exact ⟨k + 1, by omega, by go_num, H2⟩
      case measure => simp [intOf]; omega
    · have he : k = zs.length := by omega
      subst he
      have HF := hidIt hrm.out
      rw [List.take_length] at HF
      clear hrm
      go_wp2
      go_ret
      exact ⟨_, _, rfl, by omega, by omega, HF.out⟩

theorem rnew_any (b0 : Int) (ao : Option Addr) (zs : List Int) (cap : Nat) (w : World) (hl : LAt w ao zs) (hn : zs.length ≤ 1000000) :
    Calls Tryd.prog 11 #[.int .i64 b0, .slice ao zs.length cap] w fun e w' => ∃ R h, e = .returned (.pointer (some ⟨R, 0, none⟩)) ∧ w.heap.size ≤ R ∧ w.heap.size ≤ h ∧ RefAt w' R h (clampB b0) (clampB b0) (ofL (clampB b0) zs) ∧ Kp (fun _ => False) w w' := by
  by_cases h0 : b0 < 0
  · rw [show clampB b0 = 0 from by unfold clampB; omega]
    exact rnew_low b0 h0 ao zs cap w hl hn
  · by_cases h1 : 65536 < b0
    · rw [show clampB b0 = 65536 from by unfold clampB; omega]
      exact rnew_high b0 h1 ao zs cap w hl hn
    · obtain ⟨b, rfl⟩ : ∃ b : Nat, b0 = b := ⟨b0.toNat, by omega⟩
      rw [show clampB b = b from by unfold clampB; omega]
      by_cases hz : b = 0
      · subst hz
        exact rnew_zero ao zs cap w hl hn
      · exact rnew_mid b (by omega) (by omega) ao zs cap w hl hn

theorem bools_of_row {W : World} {h b c : Nat} {p : Nat → Bool} (H : RowB W h b c p) : ∀ j u, ((List.range b).map fun i => Value.bool (p i))[j]? = some u → W.cell? ((⟨h, 0, none⟩ : Addr).add j) = some u := by
  intro j u hj
  have hl : j < b := by have := (List.getElem?_eq_some_iff.1 hj).1; simpa using this
  have := H.cell hl
  simp [hl] at hj
  subst hj
  simp only [Addr.add, Nat.zero_add]
  split
  · rename_i h0
    rw [h0] at this ⊢
    exact this
  · exact this

set_option maxHeartbeats 1000000 in
theorem rcopy_any {w : World} {R h b c : Nat} {p : Nat → Bool} (H : RefAt w R h b c p) :
    Calls Tryd.prog 21 #[.pointer (some ⟨R, 0, none⟩)] w fun e w' => ∃ R2 h2 c2, e = .returned (.pointer (some ⟨R2, 0, none⟩)) ∧ w.heap.size ≤ R2 ∧ w.heap.size ≤ h2 ∧ RefAt w' R2 h2 b c2 p ∧ Kp (fun _ => False) w w' := by
  have hs := H.slice
  have hR := H.ltR
  have hb := H.fits.1
  have Hf := hidIt H.fits
  have hk0 : Kp (fun _ => False) w (w.alloc (.cells #[] 4)) := (Kp.refl _ w).alloc _
  have hrow := hidIt (bools_of_row (H.row.kept hk0 (fun h => h)))
  have h0 : Hid ((w.alloc (.cells #[] 4)).ownsRow w.heap.size 4 1 (.slice (some ⟨w.heap.size, 0, none⟩) 0 0) 0 []) := by
    have := World.ownsRow_made (base := w.heap.size) (e := 4) (size := 1) w #[] 0 (Nat.le_refl _) (by simp [maxLen]) (by simp)
    show World.ownsRow _ _ _ _ _ _ _
    simpa using this
  clear H hk0
  obtain ⟨i0, hi, hz0, hz1, hz2⟩ := info_parts Tryd.info4
  go_enter Tryd.func21, Tryd.ntmps21
  go_wp2_with (at_builtin; go_must (refine wpList_append_own _ rfl _ _ 38 rfl w.heap.size 4 i0 _ 1 1 Tryd.underlying38 hi hz0 hz1 hz2 rfl (by decide) _ 0 [] rfl h0.out ⟨h, 0, none⟩ b c _ rfl (by simp) hrow.out (by simp [Value.oneCell']) (by unfold maxLen; omega) (by omega) (by simp) ?_))
  intro v' w' ho hg hnil
  obtain ⟨h2, c2, rfl, hw2, hR2⟩ : ∃ h2 c2, v' = .slice (some ⟨h2, 0, none⟩) b c2 ∧ w.heap.size ≤ h2 ∧ RowB w' h2 b c2 p := by
    rcases ho.2 with ⟨h1, _⟩ | ⟨g, cap, cur, rfl, hb1, hg1, hnc, hm, hsz, ht⟩
    · exact absurd h1 (by simpa using hnil)
    · refine ⟨g, cap, rfl, hb1, cur, hg1, by simpa using hsz, hnc, hm, fun i hi => ?_⟩
      have := congrArg (fun l => l[i]?) ht
      simp only [List.getElem?_take, Nat.mul_one, hi, if_true] at this
      simp [hi] at this
      simpa using this
  have hkp : Kp (fun _ => False) w w' := ⟨hg.os, hg.tape, hg.output, by have := hg.size; simp at this; omega, fun k hk _ => (hg.block k (by simp; omega) (by simp [Value.ownBlock]; omega)).trans (Below.heap_alloc w _ k hk)⟩
  have HF : Hid (w.heap.size ≤ h2 ∧ RowB w' h2 b c2 p ∧ Kp (fun _ => False) w w') := ⟨hw2, hR2, hkp⟩
  have hsz := hkp.size
  clear ho hg hnil hw2 hR2 hkp h0 hrow hi hz0 hz1 hz2
  go_wp2
  go_ret
  exact ⟨w'.heap.size, h2, c2, rfl, hsz, HF.out.1, ⟨heap_new w' _, HF.out.2.1.kept (fp := fun _ => False) ((Kp.refl _ w').alloc _) (fun h => h), Hf.out⟩, HF.out.2.2.alloc _⟩

/-- The document's All. -/
theorem LAt.of_own {w : World} {base : Nat} {v : Value} {L : List Nat} (h : w.ownsRow base 3 1 v L.length (L.map fun (n : Nat) => Value.int .i64 (n : Int))) : ∃ ao cap, v = .slice ao L.length cap ∧ LAt w ao (L.map fun (n : Nat) => (n : Int)) := by
  rcases h.2 with ⟨rfl, h0⟩ | ⟨g, cap, cur, rfl, hb1, hg1, hnc, hm, hsz, ht⟩
  · have : L = [] := List.eq_nil_of_length_eq_zero h0
    subst this
    exact ⟨none, 0, rfl, fun j z hj => by simp at hj⟩
  · refine ⟨_, cap, rfl, fun j z hj => ⟨g, 0, rfl, ?_⟩⟩
    have hl : j < L.length := by have := (List.getElem?_eq_some_iff.1 hj).1; simpa using this
    have := congrArg (fun l => l[j]?) ht
    simp only [List.getElem?_take, Nat.mul_one, hl, if_true] at this
    simp [hl] at this hj
    subst hj
    simp [World.cell?, hg1, this]

set_option maxHeartbeats 2000000 in
theorem rall_any {w : World} {R h b c : Nat} {p : Nat → Bool} (H : RefAt w R h b c p) (hb1 : b ≤ 1000) :
    Calls Tryd.prog 15 #[.pointer (some ⟨R, 0, none⟩)] w fun e w' => ∃ ao cap, e = .returned (.slice ao (nums b p).length cap) ∧ LAt w' ao ((nums b p).map fun (n : Nat) => (n : Int)) ∧ Kp (fun _ => False) w w' := by
  have hR := H.ltR
  have HH := hidIt H
  have h0 : Hid ((w.alloc (.cells #[] 3)).ownsRow w.heap.size 3 1 (.slice (some ⟨w.heap.size, 0, none⟩) 0 0) 0 []) := by
    have := World.ownsRow_made (base := w.heap.size) (e := 3) (size := 1) w #[] 0 (Nat.le_refl _) (by simp [maxLen]) (by simp)
    show World.ownsRow _ _ _ _ _ _ _
    simpa using this
  clear H
  go_enter Tryd.func15, Tryd.ntmps15
  go_wp2
  go_loopw [3, 4] (fun v i wr => ∃ k : Nat, k ≤ b ∧ i = .int .i64 k ∧ Hid (wr.ownsRow w.heap.size 3 1 v (nums k p).length ((nums k p).map fun (n : Nat) => Value.int .i64 (n : Int)) ∧ Kp (fun _ => False) w wr)) (fun _ i _ => b - (intOf i).toNat)
  case atStart => exact ⟨0, Nat.zero_le _, rfl, h0.out, (Kp.refl _ w).alloc _⟩
  case round =>
    clear h0
    obtain ⟨k, hk, rfl, hrm⟩ := hrel
    have hRr := HH.out.kept hrm.out.2 (fun h => h) (fun h => h)
    have hs := hRr.slice
    by_cases hlt : k < b
    · have hc := hRr.row.cell hlt
      have hsucc : nums (k + 1) p = nums k p ++ (if p k then [k] else []) := by
        unfold nums
        rw [List.range_succ, List.filter_append]
        cases hp : p k <;> simp [hp]
      have Hs := hidIt hsucc
      have hlen := nums_le k p
      clear hsucc hRr
      cases hp : p k with
      | false =>
        rw [hp] at hc Hs
        simp only [Bool.false_eq_true, if_false, List.append_nil] at Hs
        go_wp2
        go_roundw
        case rel => exact ⟨k + 1, by omega, by go_num, by rw [Hs.out]; exact hrm.out⟩
        case measure => simp [intOf]; omega
      | true =>
        rw [hp] at hc Hs
        simp only [if_true] at Hs
        have hrow := hidIt hrm.out.1
        obtain ⟨i0, hi, hz0, hz1, hz2⟩ := info_parts Tryd.info3
        go_wp2_with (at_builtin; go_must (refine wpList_append_own _ rfl _ _ 22 rfl w.heap.size 3 i0 _ 1 8 Tryd.underlying22 hi hz0 hz1 hz2 rfl (by decide) _ _ _ rfl (hrow.out.alloc _) ⟨wr.heap.size, 0, none⟩ 1 1 [.int .i64 k] rfl rfl (cell_one_new _ _ _) (by simp [Value.oneCell']) (by unfold maxLen; omega) (by omega) (by have := hrm.out.2.size; simp; omega) ?_))
        intro v' w' ho hg hnil
        have HN : Hid (w'.ownsRow w.heap.size 3 1 v' (nums (k + 1) p).length ((nums (k + 1) p).map fun (n : Nat) => Value.int .i64 (n : Int)) ∧ Kp (fun _ => False) w w') := by
          refine ⟨?_, ?_⟩
          · rw [Hs.out]
            simpa using ho
          · have hk1 : Kp (fun i => w.heap.size ≤ i) (wr.alloc (.cells #[.int .i64 k] 3)) w' := ⟨hg.os, hg.tape, hg.output, hg.size, fun j hj hn => hg.block j hj (fun e => by
              rcases hrow.out.2 with ⟨h1, _⟩ | ⟨g, cap, cur, h1, hb1', _⟩
              · rw [h1] at e
                simp [Value.ownBlock] at e
              · rw [h1] at e
                simp [Value.ownBlock] at e
                omega)⟩
            exact (hrm.out.2.alloc _).trans (hk1.mono fun i hi => .inr hi)
        clear ho hg hnil hrow hi hz0 hz1 hz2 hrm hc hs
        go_wp2
        go_roundw
        case rel => exact ⟨k + 1, by omega, by go_num, HN⟩
        case measure => simp [intOf]; omega
    · have he : k = b := by omega
      subst he
      obtain ⟨ao, cap, he2, hL⟩ := LAt.of_own hrm.out.1
      subst he2
      have HL := hidIt (And.intro hL hrm.out.2)
      clear hL hrm hRr
      go_wp2
      go_ret
      exact ⟨ao, cap, rfl, HL.out⟩

set_option maxHeartbeats 400000 in
theorem sameInts_any (ao1 ao2 : Option Addr) (zs : List Int) (c1 c2 : Nat) (w : World) (h1 : LAt w ao1 zs) (h2 : LAt w ao2 zs) (hn : zs.length ≤ 100000) :
    Calls Tryd.prog 13 #[.slice ao1 zs.length c1, .slice ao2 zs.length c2] w fun e w' => e = .returned (.bool true) ∧ ∃ m, w' = w.drewN m := by
  have H1 := hidIt h1
  have H2 := hidIt h2
  clear h1 h2
  go_enter Tryd.func13, Tryd.ntmps13
  go_wp2
  go_loopw [5] (fun i wr => ∃ k d : Nat, k ≤ zs.length ∧ i = .int .i64 k ∧ wr = w.drewN d) (fun i _ => zs.length - (intOf i).toNat)
  case atStart => exact ⟨0, 0, Nat.zero_le _, rfl, rfl⟩
  case round =>
    obtain ⟨k, d, hk, rfl, rfl⟩ := hrel
    by_cases hlt : k < zs.length
    · obtain ⟨z, hz⟩ : ∃ z, zs[k]? = some z := ⟨_, List.getElem?_eq_getElem hlt⟩
      obtain ⟨b1, o1, rfl, hc1⟩ := H1.out k z hz
      obtain ⟨b2, o2, rfl, hc2⟩ := H2.out k z hz
      have hlt2 : (k : Int) < (zs.length : Int) := by omega
      clear hz
      go_wp2_with fail
      go_quiet (fail)
      go_wp2
      go_roundw
      case rel => exact ⟨k + 1, _, by omega, by go_num, rfl⟩
      case measure => simp [intOf]; omega
    · go_wp2
      go_ret
      exact ⟨rfl, d, rfl⟩
end Go.Proofs.YtcaibfalhkhleaaDoor
