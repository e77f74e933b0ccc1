/-
  The walk of New.
-/
import Derived.Test.YtcaibfalhkhleaaDoorPut
import Derived.LoopTactic
import Derived.Laws.MakeOwn
namespace Go.Proofs.YtcaibfalhkhleaaDoor
set_option linter.unusedVariables false
open Go.RowKit

theorem Tryd.info58 : (Tryd.prog.info? 58).map (fun i => (i.zero, i.size, i.bytes)) = some (some (.int .u64 0), 1, 8) := by kernel_rfl
theorem Tryd.info3 : (Tryd.prog.info? 3).map (fun i => (i.zero, i.size, i.bytes)) = some (some (.int .i64 0), 1, 8) := by kernel_rfl
theorem make53 (m : Nat) (hm : m ≤ 1000000) (wx : World) : Sem.run Tryd.prog (Instr.makeSlice 53 (.int .i64 (m : Int)) (.int .i64 (m : Int))) wx = .ok (.slice (some ⟨wx.heap.size, 0, none⟩) m m) (wx.alloc (.cells (madeCells #[.int .u64 0] m) 58)) := by
  obtain ⟨i, hi, hz0, hz1, hz2⟩ := info_parts Tryd.info58
  have hr := run_make (P := Tryd.prog) wx 53 58 i _ (by kernel_rfl) hi hz0 .i64 .i64 m m (by omega) (Int.le_refl _) (by rw [hz2]; omega) (by omega)
  rw [hz1] at hr
  simp only [Int.toNat_natCast, Nat.mul_one] at hr
  exact hr
theorem wd_none (i : Nat) : wd (fun _ => false) i = 0 := by
  refine (wd_eq (by omega) fun j hj => ?_).symm
  simp
theorem made_cells (m : Nat) : madeCells #[.int .u64 0] m = wcells m (fun _ => false) := by
  refine Array.ext_getElem? fun j => ?_
  by_cases hj : j < m
  · rw [wcells_get m _ hj, wd_none]
    simp [madeCells, hj, Nat.mod_one]
  · rw [Array.getElem?_eq_none (by rw [size_madeCells]; omega), Array.getElem?_eq_none (by rw [wcells_size]; omega)]

theorem heap_new (w : World) (o : Obj) : (w.alloc o).heap[w.heap.size]? = some o := by
  show (w.heap.push o)[w.heap.size]? = some o
  simp

/-- A list that can be read: its numbers. -/
def LAt (w : World) (ao : Option Addr) (zs : List Int) : Prop := ∀ j z, zs[j]? = some z → ∃ b off, ao = some ⟨b, off, none⟩ ∧ w.cell? ⟨b, off + j, none⟩ = some (.int .i64 z)

def clampB (b : Int) : Nat := (min (max b 0) 65536).toNat

set_option maxHeartbeats 400000 in
theorem new_mid (b : Nat) (hb : b ≤ 65536) (ao : Option Addr) (zs : List Int) (cap : Nat) (w : World) (hl : LAt w ao zs) (hn : zs.length ≤ 1000000) :
    Calls Tryd.prog 10 #[.int .i64 b, .slice ao zs.length cap] w fun e w' => ∃ A g, e = .returned (.pointer (some ⟨A, 0, none⟩)) ∧ w.heap.size ≤ A ∧ w.heap.size ≤ g ∧ SetAt w' A g b (ofL b zs) ∧ Kp (fun _ => False) w w' := by
  have hnw : nw b ≤ 1024 := by unfold nw; omega
  have hq : ((b : Int) + 64 - 1) / 64 = ((nw b : Nat) : Int) := by unfold nw; omega
  have hmk := make53 (nw b) (by omega)
  rw [made_cells, ← hq] at hmk
  have Hl := hidIt hl
  have Hq := hidIt hq
  clear hl hq
  go_enter Tryd.func10, Tryd.ntmps10
  go_wp2
  have hst : Hid (SetAt ((w.alloc (.cells (wcells (nw b) fun _ => false) 58)).alloc (.cells #[.int .i64 b, .slice (some ⟨w.heap.size, 0, none⟩) (nw b) (nw b)] 55)) (w.heap.size + 1) w.heap.size b (ofL b (zs.take 0)) ∧ Kp (fun _ => False) w ((w.alloc (.cells (wcells (nw b) fun _ => false) 58)).alloc (.cells #[.int .i64 b, .slice (some ⟨w.heap.size, 0, none⟩) (nw b) (nw b)] 55))) := by
    refine ⟨⟨?_, ?_, ofL_fits hb _⟩, ((Kp.refl _ w).alloc _).alloc _⟩
    · have := heap_new (w.alloc (.cells (wcells (nw b) fun _ => false) 58)) (.cells #[.int .i64 b, .slice (some ⟨w.heap.size, 0, none⟩) (nw b) (nw b)] 55)
      rwa [World.size_alloc] at this
    · rw [List.take_zero, ofL_nil]
      exact (Below.heap_alloc _ _ _ (by simp)).trans (heap_new w _)
  clear hmk
  go_loopw [21] (fun i wr => ∃ k : Nat, k ≤ zs.length ∧ i = .int .i64 k ∧ Hid (SetAt wr (w.heap.size + 1) w.heap.size b (ofL b (zs.take k)) ∧ Kp (fun _ => False) w wr)) (fun i _ => zs.length - (intOf i).toNat)
  case atStart => exact ⟨0, Nat.zero_le _, rfl, hst.out⟩
  case round =>
    clear hst
    obtain ⟨k, hk, rfl, hrm⟩ := hrel
    by_cases hlt : k < zs.length
    · obtain ⟨z, hz⟩ : ∃ z, zs[k]? = some z := ⟨_, List.getElem?_eq_getElem hlt⟩
      obtain ⟨lb, off, rfl, hc⟩ := Hl.out k z hz
      have hc2 := hrm.out.2.cell hc (fun h => h)
      have hadd := hidIt (add_any hrm.out.1 z)
      have Hnext : Hid (addP b (ofL b (zs.take k)) z = ofL b (zs.take (k + 1))) := by
        show _ = _
        rw [addP_ofL, List.take_add_one, hz]
        rfl
      clear hc hz
      go_wp2_with fail
      refine hadd.out.mono ?_
      rintro e w2 ⟨rfl, hs2, hk2⟩
      rw [Hnext.out] at hs2
      have H2 : Hid (SetAt w2 (w.heap.size + 1) w.heap.size b (ofL b (zs.take (k + 1))) ∧ Kp (fun _ => False) w w2) := ⟨hs2, hrm.out.2.trans (hk2.mono fun i hi => .inr (by omega))⟩
      clear hs2 hk2 hadd hrm hc2 Hnext
      go_wp2
      go_roundw
      case rel => exact ⟨k + 1, by omega, by go_num, H2⟩
      case measure => simp [intOf]; omega
    · have he : k = zs.length := by omega
      subst he
      have HF := hidIt hrm.out
      rw [List.take_length] at HF
      clear hrm
      go_wp2
      go_ret
      exact ⟨_, _, rfl, by omega, by omega, HF.out⟩
set_option maxHeartbeats 400000 in
theorem new_low (b0 : Int) (hb0 : b0 < 0) (ao : Option Addr) (zs : List Int) (cap : Nat) (w : World) (hl : LAt w ao zs) (hn : zs.length ≤ 1000000) :
    Calls Tryd.prog 10 #[.int .i64 b0, .slice ao zs.length cap] w fun e w' => ∃ A g, e = .returned (.pointer (some ⟨A, 0, none⟩)) ∧ w.heap.size ≤ A ∧ w.heap.size ≤ g ∧ SetAt w' A g 0 (ofL 0 zs) ∧ Kp (fun _ => False) w w' := by
  have hmk : ∀ wx : World, Sem.run Tryd.prog (Instr.makeSlice 53 (.int .i64 0) (.int .i64 0)) wx = .ok (.slice (some ⟨wx.heap.size, 0, none⟩) 0 0) (wx.alloc (.cells (wcells 0 fun _ => false) 58)) := by
    intro wx
    have := make53 0 (by omega) wx
    rw [made_cells] at this
    exact this
  have Hl := hidIt hl
  clear hl
  go_enter Tryd.func10, Tryd.ntmps10
  go_wp2
  have hst : Hid (SetAt ((w.alloc (.cells (wcells 0 fun _ => false) 58)).alloc (.cells #[.int .i64 0, .slice (some ⟨w.heap.size, 0, none⟩) 0 0] 55)) (w.heap.size + 1) w.heap.size 0 (ofL 0 (zs.take 0)) ∧ Kp (fun _ => False) w ((w.alloc (.cells (wcells 0 fun _ => false) 58)).alloc (.cells #[.int .i64 0, .slice (some ⟨w.heap.size, 0, none⟩) 0 0] 55))) := by
    refine ⟨⟨?_, ?_, ofL_fits (by omega) _⟩, ((Kp.refl _ w).alloc _).alloc _⟩
    · have := heap_new (w.alloc (.cells (wcells 0 fun _ => false) 58)) (.cells #[.int .i64 0, .slice (some ⟨w.heap.size, 0, none⟩) 0 0] 55)
      rwa [World.size_alloc] at this
    · rw [List.take_zero, ofL_nil]
      exact (Below.heap_alloc _ _ _ (by simp)).trans (heap_new w _)
  clear hmk
  go_loopw [21] (fun i wr => ∃ k : Nat, k ≤ zs.length ∧ i = .int .i64 k ∧ Hid (SetAt wr (w.heap.size + 1) w.heap.size 0 (ofL 0 (zs.take k)) ∧ Kp (fun _ => False) w wr)) (fun i _ => zs.length - (intOf i).toNat)
  case atStart => exact ⟨0, Nat.zero_le _, rfl, hst.out⟩
  case round =>
    clear hst
    obtain ⟨k, hk, rfl, hrm⟩ := hrel
    by_cases hlt : k < zs.length
    · obtain ⟨z, hz⟩ : ∃ z, zs[k]? = some z := ⟨_, List.getElem?_eq_getElem hlt⟩
      obtain ⟨lb, off, rfl, hc⟩ := Hl.out k z hz
      have hc2 := hrm.out.2.cell hc (fun h => h)
      have hadd := hidIt (add_any hrm.out.1 z)
      have Hnext : Hid (addP 0 (ofL 0 (zs.take k)) z = ofL 0 (zs.take (k + 1))) := by
        show _ = _
        rw [addP_ofL, List.take_add_one, hz]
        rfl
      clear hc hz
      go_wp2_with fail
      refine hadd.out.mono ?_
      rintro e w2 ⟨rfl, hs2, hk2⟩
      rw [Hnext.out] at hs2
      have H2 : Hid (SetAt w2 (w.heap.size + 1) w.heap.size 0 (ofL 0 (zs.take (k + 1))) ∧ Kp (fun _ => False) w w2) := ⟨hs2, hrm.out.2.trans (hk2.mono fun i hi => .inr (by omega))⟩
      clear hs2 hk2 hadd hrm hc2 Hnext
      go_wp2
      go_roundw
      case rel => exact ⟨k + 1, by omega, by go_num, H2⟩
      case measure => simp [intOf]; omega
    · have he : k = zs.length := by omega
      subst he
      have HF := hidIt hrm.out
      rw [List.take_length] at HF
      clear hrm
      go_wp2
      go_ret
      exact ⟨_, _, rfl, by omega, by omega, HF.out⟩

set_option maxHeartbeats 400000 in
theorem new_high (b0 : Int) (hb0 : 65536 < b0) (ao : Option Addr) (zs : List Int) (cap : Nat) (w : World) (hl : LAt w ao zs) (hn : zs.length ≤ 1000000) :
    Calls Tryd.prog 10 #[.int .i64 b0, .slice ao zs.length cap] w fun e w' => ∃ A g, e = .returned (.pointer (some ⟨A, 0, none⟩)) ∧ w.heap.size ≤ A ∧ w.heap.size ≤ g ∧ SetAt w' A g 65536 (ofL 65536 zs) ∧ Kp (fun _ => False) w w' := by
  have hmk : ∀ wx : World, Sem.run Tryd.prog (Instr.makeSlice 53 (.int .i64 1024) (.int .i64 1024)) wx = .ok (.slice (some ⟨wx.heap.size, 0, none⟩) 1024 1024) (wx.alloc (.cells (wcells 1024 fun _ => false) 58)) := by
    intro wx
    have := make53 1024 (by omega) wx
    rw [made_cells] at this
    exact this
  have Hl := hidIt hl
  clear hl
  go_enter Tryd.func10, Tryd.ntmps10
  go_wp2
  have hst : Hid (SetAt ((w.alloc (.cells (wcells 1024 fun _ => false) 58)).alloc (.cells #[.int .i64 65536, .slice (some ⟨w.heap.size, 0, none⟩) 1024 1024] 55)) (w.heap.size + 1) w.heap.size 65536 (ofL 65536 (zs.take 0)) ∧ Kp (fun _ => False) w ((w.alloc (.cells (wcells 1024 fun _ => false) 58)).alloc (.cells #[.int .i64 65536, .slice (some ⟨w.heap.size, 0, none⟩) 1024 1024] 55))) := by
    refine ⟨⟨?_, ?_, ofL_fits (by omega) _⟩, ((Kp.refl _ w).alloc _).alloc _⟩
    · have := heap_new (w.alloc (.cells (wcells 1024 fun _ => false) 58)) (.cells #[.int .i64 65536, .slice (some ⟨w.heap.size, 0, none⟩) 1024 1024] 55)
      rwa [World.size_alloc] at this
    · rw [List.take_zero, ofL_nil]
      exact (Below.heap_alloc _ _ _ (by simp)).trans (heap_new w _)
  clear hmk
  go_loopw [21] (fun i wr => ∃ k : Nat, k ≤ zs.length ∧ i = .int .i64 k ∧ Hid (SetAt wr (w.heap.size + 1) w.heap.size 65536 (ofL 65536 (zs.take k)) ∧ Kp (fun _ => False) w wr)) (fun i _ => zs.length - (intOf i).toNat)
  case atStart => exact ⟨0, Nat.zero_le _, rfl, hst.out⟩
  case round =>
    clear hst
    obtain ⟨k, hk, rfl, hrm⟩ := hrel
    by_cases hlt : k < zs.length
    · obtain ⟨z, hz⟩ : ∃ z, zs[k]? = some z := ⟨_, List.getElem?_eq_getElem hlt⟩
      obtain ⟨lb, off, rfl, hc⟩ := Hl.out k z hz
      have hc2 := hrm.out.2.cell hc (fun h => h)
      have hadd := hidIt (add_any hrm.out.1 z)
      have Hnext : Hid (addP 65536 (ofL 65536 (zs.take k)) z = ofL 65536 (zs.take (k + 1))) := by
        show _ = _
        rw [addP_ofL, List.take_add_one, hz]
        rfl
      clear hc hz
      go_wp2_with fail
      refine hadd.out.mono ?_
      rintro e w2 ⟨rfl, hs2, hk2⟩
      rw [Hnext.out] at hs2
      have H2 : Hid (SetAt w2 (w.heap.size + 1) w.heap.size 65536 (ofL 65536 (zs.take (k + 1))) ∧ Kp (fun _ => False) w w2) := ⟨hs2, hrm.out.2.trans (hk2.mono fun i hi => .inr (by omega))⟩
      clear hs2 hk2 hadd hrm hc2 Hnext
      go_wp2
      go_roundw
      case rel => exact ⟨k + 1, by omega, by go_num, H2⟩
      case measure => simp [intOf]; omega
    · have he : k = zs.length := by omega
      subst he
      have HF := hidIt hrm.out
      rw [List.take_length] at HF
      clear hrm
      go_wp2
      go_ret
      exact ⟨_, _, rfl, by omega, by omega, HF.out⟩

theorem new_any (b0 : Int) (ao : Option Addr) (zs : List Int) (cap : Nat) (w : World) (hl : LAt w ao zs) (hn : zs.length ≤ 1000000) :
    Calls Tryd.prog 10 #[.int .i64 b0, .slice ao zs.length cap] w fun e w' => ∃ A g, e = .returned (.pointer (some ⟨A, 0, none⟩)) ∧ w.heap.size ≤ A ∧ w.heap.size ≤ g ∧ SetAt w' A g (clampB b0) (ofL (clampB b0) zs) ∧ Kp (fun _ => False) w w' := by
  by_cases h0 : b0 < 0
  · rw [show clampB b0 = 0 from by unfold clampB; omega]
    exact new_low b0 h0 ao zs cap w hl hn
  · by_cases h1 : 65536 < b0
    · rw [show clampB b0 = 65536 from by unfold clampB; omega]
      exact new_high b0 h1 ao zs cap w hl hn
    · obtain ⟨b, rfl⟩ : ∃ b : Nat, b0 = b := ⟨b0.toNat, by omega⟩
      rw [show clampB b = b from by unfold clampB; omega]
      exact new_mid b (by omega) ao zs cap w hl hn
end Go.Proofs.YtcaibfalhkhleaaDoor
