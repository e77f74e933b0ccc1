/-
  The walk of do: one call, at the set and at the document's set.
-/
import Derived.Test.YtcaibfalhkhleaaDoorList
namespace Go.Proofs.YtcaibfalhkhleaaDoor
set_option linter.unusedVariables false
open Go.RowKit

/-- What do leaves. -/
def DoPost (A g b R h c : Nat) (w : World) (e : Ending) (w' : World) : Prop := e = .returned (.bool true) ∧ ∃ p', SetAt w' A g b p' ∧ RefAt w' R h b c p' ∧ Kp (fun k => k = g ∨ k = h) w w'

/-- The box of the call's struct. -/
def cbox (i k : Int) (l : Value) : Obj := .cells #[.int .i64 i, .int .i64 k, l] 25
theorem kp_box (w : World) (o : Obj) (m : Nat) : Kp (fun _ => False) w ((w.alloc o).drewN m) := by
  have h : Kp (fun _ => False) w (w.alloc o) := (Kp.refl _ _).alloc _
  exact ⟨h.os, h.tape, h.output, h.size, h.block⟩
theorem cell_box (w : World) (i k : Int) (l : Value) (m : Nat) : ((w.alloc (cbox i k l)).drewN m).cell? ⟨w.heap.size, 1, none⟩ = some (.int .i64 k) := by
  have := heap_new w (cbox i k l)
  have h : ((w.alloc (cbox i k l)).drewN m).heap[w.heap.size]? = some (cbox i k l) := this
  simp only [World.cell?]
  rw [h]
  rfl
theorem cell_box0 (w : World) (i k : Int) (l : Value) (m : Nat) : ((w.alloc (cbox i k l)).drewN m).cell? ⟨w.heap.size, 0, none⟩ = some (.int .i64 i) := by
  have := heap_new w (cbox i k l)
  have h : ((w.alloc (cbox i k l)).drewN m).heap[w.heap.size]? = some (cbox i k l) := this
  simp only [World.cell?]
  rw [h]
  rfl
theorem cell_box2 (w : World) (i k : Int) (l : Value) (m : Nat) : ((w.alloc (cbox i k l)).drewN m).cell? ⟨w.heap.size, 2, none⟩ = some l := by
  have := heap_new w (cbox i k l)
  have h : ((w.alloc (cbox i k l)).drewN m).heap[w.heap.size]? = some (cbox i k l) := this
  simp only [World.cell?]
  rw [h]
  rfl
theorem LAt.grown {w w' : World} {ao : Option Addr} {zs : List Int} (h : LAt w ao zs) (k : Kp (fun _ => False) w w') : LAt w' ao zs := fun j z hj => by
  obtain ⟨b1, off, e, hc⟩ := h j z hj
  exact ⟨b1, off, e, k.cell hc (fun h => h)⟩

set_option maxRecDepth 100000 in
set_option maxHeartbeats 4000000 in
theorem do_0 {w : World} {A g b R h c : Nat} {p : Nat → Bool} (hS : SetAt w A g b p) (hR : RefAt w R h b c p) (k : Int) (l : Value) :
    Calls Tryd.prog 12 #[.pointer (some ⟨A, 0, none⟩), .pointer (some ⟨R, 0, none⟩), .agg #[.int .i64 0, .int .i64 k, l]] w (DoPost A g b R h c w) := by
  obtain ⟨hRg, hhg, hAh⟩ := hR.apart hS
  have hadd := fun m => hidIt (add_any (hS.kept (kp_box w (cbox 0 k l) m) (fun h => h) (fun h => h)) k)
  have HR := fun m => hidIt (hR.kept (kp_box w (cbox 0 k l) m) (fun h => h) (fun h => h))
  have HC := fun m => hidIt (cell_box w 0 k l m)
  have HE := hidIt (put_add (b := b) (p := p) (k := k))
  have hgl := hS.row.lt
  have HB := fun m => hidIt (kp_box w (cbox 0 k l) m)
  have HX := hidIt hAh
  clear hS hR
  go_enter Tryd.func12, Tryd.ntmps12
  go_wp2_with fail
  go_region_with (first
    | (go_at_call 28; go_must (refine (hadd 1).out.mono ?_); rintro e w1 ⟨rfl, hs1, hk1⟩; have hput := hidIt (rput_any ((HR 1).out.kept hk1 hRg hhg) k true); have hcl : w1.cell? ⟨w.heap.size, 1, none⟩ = some (.int .i64 k) := hk1.cell (p := ⟨w.heap.size, 1, none⟩) (HC 1).out (fun e => by simp at e; omega); have HK1 := hidIt hk1; have HS1 := hidIt hs1; clear hs1 hk1)
    | (go_at_call 31; go_must (refine hput.out.mono ?_); rintro e w2 ⟨rfl, hr2, hk2⟩; have HR2 := hidIt hr2; have HK2 := hidIt hk2; clear hr2 hk2 hput))
  all_goals rw [HE.out.1]
  all_goals go_wp2
  all_goals go_ret
  all_goals exact ⟨by simp; rfl, addP b p k, HS1.out.kept HK2.out (fun e => HX.out e) (fun e => hhg e.symm), by rw [← HE.out.2]; exact HR2.out, (((HB 1).out.mono fun _ h => h.elim).trans' (HK1.out.mono fun _ h => .inl h)).trans' (HK2.out.mono fun _ h => .inr h)⟩

set_option maxRecDepth 100000 in
set_option maxHeartbeats 4000000 in
theorem do_1 {w : World} {A g b R h c : Nat} {p : Nat → Bool} (hS : SetAt w A g b p) (hR : RefAt w R h b c p) (k : Int) (l : Value) :
    Calls Tryd.prog 12 #[.pointer (some ⟨A, 0, none⟩), .pointer (some ⟨R, 0, none⟩), .agg #[.int .i64 1, .int .i64 k, l]] w (DoPost A g b R h c w) := by
  obtain ⟨hRg, hhg, hAh⟩ := hR.apart hS
  have hadd := fun m => hidIt (cut_any (hS.kept (kp_box w (cbox 1 k l) m) (fun h => h) (fun h => h)) k)
  have HR := fun m => hidIt (hR.kept (kp_box w (cbox 1 k l) m) (fun h => h) (fun h => h))
  have HC := fun m => hidIt (cell_box w 1 k l m)
  have HE := hidIt (put_cut hR.fits (k := k))
  have hgl := hS.row.lt
  have HB := fun m => hidIt (kp_box w (cbox 1 k l) m)
  have HX := hidIt hAh
  clear hS hR
  go_enter Tryd.func12, Tryd.ntmps12
  go_wp2_with fail
  go_region_with (first
    | (go_at_call 29; go_must (refine (hadd 1).out.mono ?_); rintro e w1 ⟨rfl, hs1, hk1⟩; have hput := hidIt (rput_any ((HR 1).out.kept hk1 hRg hhg) k false); have hcl : w1.cell? ⟨w.heap.size, 1, none⟩ = some (.int .i64 k) := hk1.cell (p := ⟨w.heap.size, 1, none⟩) (HC 1).out (fun e => by simp at e; omega); have HK1 := hidIt hk1; have HS1 := hidIt hs1; clear hs1 hk1)
    | (go_at_call 31; go_must (refine hput.out.mono ?_); rintro e w2 ⟨rfl, hr2, hk2⟩; have HR2 := hidIt hr2; have HK2 := hidIt hk2; clear hr2 hk2 hput))
  all_goals rw [HE.out.1]
  all_goals go_wp2
  all_goals go_ret
  all_goals exact ⟨by simp; rfl, cutN p k, HS1.out.kept HK2.out (fun e => HX.out e) (fun e => hhg e.symm), by rw [← HE.out.2]; exact HR2.out, (((HB 1).out.mono fun _ h => h.elim).trans' (HK1.out.mono fun _ h => .inl h)).trans' (HK2.out.mono fun _ h => .inr h)⟩

set_option maxRecDepth 100000 in
set_option maxHeartbeats 4000000 in
theorem do_2 {w : World} {A g b R h c : Nat} {p : Nat → Bool} (hS : SetAt w A g b p) (hR : RefAt w R h b c p) (k : Int) (hk : k ≤ 1000) (ao : Option Addr) (zs : List Int) (cap : Nat) (hl : LAt w ao zs) (hn : zs.length ≤ 60) (hT : ∀ W', Kp (fun k => k = g ∨ k = h) w W' → Tab W') :
    Calls Tryd.prog 12 #[.pointer (some ⟨A, 0, none⟩), .pointer (some ⟨R, 0, none⟩), .agg #[.int .i64 2, .int .i64 k, .slice ao zs.length cap]] w (DoPost A g b R h c w) := by
  obtain ⟨hRg, hhg, hAh⟩ := hR.apart hS
  have hcl : clampB k ≤ 1000 := by unfold clampB; omega
  have HB := hidIt (kp_box w (cbox 2 k (.slice ao zs.length cap)) 0)
  have HBg := HB.out.size
  have hgl := hS.row.lt
  have hAl := hS.ltA
  have hhl := hR.row.lt
  have hRl := hR.ltR
  have hnew := hidIt (new_any k ao zs cap _ (hl.grown HB.out) (by omega))
  have HS := hidIt hS
  have HR := hidIt hR
  have HL := hidIt hl
  have HT := hidIt hT
  have HC1 := hidIt (cell_box w 2 k (.slice ao zs.length cap) 0)
  have HC2 := hidIt (cell_box2 w 2 k (.slice ao zs.length cap) 0)
  clear hS hR hl hT
  go_enter Tryd.func12, Tryd.ntmps12
  go_wp2_with fail
  refine hnew.out.mono ?_
  rintro e w1 ⟨Ao, go, rfl, hAo, hgo, hs1, hk1⟩
  have c1 : w1.cell? ⟨w.heap.size, 1, none⟩ = some (.int .i64 k) := hk1.cell (p := ⟨w.heap.size, 1, none⟩) HC1.out (fun e => e)
  have c2 : w1.cell? ⟨w.heap.size, 2, none⟩ = some (.slice ao zs.length cap) := hk1.cell (p := ⟨w.heap.size, 2, none⟩) HC2.out (fun e => e)
  have C0 : Hid (w1.cell? ⟨w.heap.size, 0, none⟩ = some (.int .i64 2)) := hk1.cell (p := ⟨w.heap.size, 0, none⟩) (cell_box0 w 2 k (.slice ao zs.length cap) 0) (fun e => e)
  have HS1 := hidIt hs1
  have HK1 := hidIt (HB.out.trans' hk1)
  have hrn := hidIt (rnew_any k ao zs cap w1 (HL.out.grown HK1.out) (by omega))
  have hz1 := hk1.size
  clear hs1 hk1 hnew
  go_wp2_with fail
  refine hrn.out.mono ?_
  rintro e w2 ⟨Rp, hp, rfl, hRp, hhp, hr2, hk2⟩
  have c0 : w2.cell? ⟨w.heap.size, 0, none⟩ = some (.int .i64 2) := hk2.cell (p := ⟨w.heap.size, 0, none⟩) C0.out (fun e => e)
  have HK2 := hidIt (HK1.out.trans' hk2)
  have hz0 := HK1.out.size
  have hAo' : w.heap.size ≤ Ao := Nat.le_trans HBg hAo
  have hgo' : w.heap.size ≤ go := Nat.le_trans HBg hgo
  have hRp' : w.heap.size ≤ Rp := Nat.le_trans hz0 hRp
  have hhp' : w.heap.size ≤ hp := Nat.le_trans hz0 hhp
  have HS2 := hidIt (HS.out.kept HK2.out (fun h => h) (fun h => h))
  have HO2 := hidIt (HS1.out.kept hk2 (fun h => h) (fun h => h))
  have HR2 := hidIt (HR.out.kept HK2.out (fun h => h) (fun h => h))
  have HP2 := hidIt hr2
  have hj := hidIt (join_any HS2.out HO2.out)
  have n1 : Rp ≠ g := by omega
  have n2 : hp ≠ g := by omega
  have n3 : Ao ≠ g := by omega
  have n4 : go ≠ g := by omega
  have n5 : Rp ≠ h := by omega
  have n6 : hp ≠ h := by omega
  have n7 : Ao ≠ h := by omega
  have n8 : go ≠ h := by omega
  clear hr2 hk2 hrn HS HR HL HS1 HK1 c1 c2 C0 HC1 HC2 HB HBg hAo hgo hRp hhp hz1
  go_wp2_with fail
  refine hj.out.mono ?_
  rintro e w3 ⟨rfl, hs3, hk3⟩
  have HS3 := hidIt hs3
  have HR3 := hidIt (HR2.out.kept hk3 hRg hhg)
  have HP3 := hidIt (HP2.out.kept hk3 n1 n2)
  have HO3 := hidIt (HO2.out.kept hk3 n3 n4)
  have HK3 := hidIt hk3
  have hdo := hidIt (rdo0 HR3.out HP3.out)
  clear hs3 hk3 hj HS2 HR2 HO2 HP2
  go_wp2_with fail
  refine hdo.out.mono ?_
  rintro e w4 ⟨rfl, hr4, hk4⟩
  have HS4 := hidIt (HS3.out.kept hk4 hAh (fun e => hhg e.symm))
  have HR4 := hidIt hr4
  have HO4 := hidIt (HO3.out.kept hk4 n7 n8)
  have HP4 := hidIt (HP3.out.kept hk4 n5 n6)
  have HK4 : Hid (Kp (fun k => k = g ∨ k = h) w w4) := ((HK2.out.mono fun _ h => h.elim).trans' (HK3.out.mono fun _ h => .inl h)).trans' (hk4.mono fun _ h => .inr h)
  have hli := hidIt (list_any HO4.out (HT.out _ HK4.out) hcl)
  clear hr4 hk4 hdo HS3 HR3 HO3 HP3 HK3 HK2
  go_wp2_with fail
  refine hli.out.mono ?_
  rintro e w5 ⟨ao5, cap5, rfl, hl5, hk5⟩
  have HL5 := hidIt hl5
  have HK5 := hidIt (HK4.out.trans' (hk5.mono fun _ h => h.elim))
  have HS5 := hidIt (HS4.out.grown hk5)
  have HR5 := hidIt (HR4.out.kept hk5 (fun h => h) (fun h => h))
  have hal := hidIt (rall_any (HP4.out.kept hk5 (fun h => h) (fun h => h)) hcl)
  clear hl5 hk5 hli HS4 HR4 HO4 HP4 HK4
  go_wp2_with fail
  refine hal.out.mono ?_
  rintro e w6 ⟨ao6, cap6, rfl, hl6, hk6⟩
  have hsi := hidIt (sameInts_any ao5 ao6 ((nums (clampB k) (ofL (clampB k) zs)).map fun (n : Nat) => (n : Int)) cap5 cap6 w6 (HL5.out.grown hk6) hl6 (by have := nums_le (clampB k) (ofL (clampB k) zs); simp; omega))
  rw [List.length_map] at hsi
  have HK6 := hidIt (HK5.out.trans' (hk6.mono fun _ h => h.elim))
  have HS6 := hidIt (HS5.out.grown hk6)
  have HR6 := hidIt (HR5.out.kept hk6 (fun h => h) (fun h => h))
  clear hl6 hk6 hal HS5 HR5 HK5 HL5
  go_wp2_with fail
  refine hsi.out.mono ?_
  rintro e w7 ⟨rfl, m, rfl⟩
  go_wp2
  go_ret
  exact ⟨by simp, opP (fun x y => x || y) b p (ofL (clampB k) zs), HS6.out.drewN m, HR6.out.drewN m, HK6.out.drewN m⟩

set_option maxRecDepth 100000 in
set_option maxHeartbeats 4000000 in
theorem do_3 {w : World} {A g b R h c : Nat} {p : Nat → Bool} (hS : SetAt w A g b p) (hR : RefAt w R h b c p) (k : Int) (hk : k ≤ 1000) (ao : Option Addr) (zs : List Int) (cap : Nat) (hl : LAt w ao zs) (hn : zs.length ≤ 60) (hT : ∀ W', Kp (fun k => k = g ∨ k = h) w W' → Tab W') :
    Calls Tryd.prog 12 #[.pointer (some ⟨A, 0, none⟩), .pointer (some ⟨R, 0, none⟩), .agg #[.int .i64 3, .int .i64 k, .slice ao zs.length cap]] w (DoPost A g b R h c w) := by
  obtain ⟨hRg, hhg, hAh⟩ := hR.apart hS
  have hcl : clampB k ≤ 1000 := by unfold clampB; omega
  have HB := hidIt (kp_box w (cbox 3 k (.slice ao zs.length cap)) 0)
  have HBg := HB.out.size
  have hgl := hS.row.lt
  have hAl := hS.ltA
  have hhl := hR.row.lt
  have hRl := hR.ltR
  have hnew := hidIt (new_any k ao zs cap _ (hl.grown HB.out) (by omega))
  have HS := hidIt hS
  have HR := hidIt hR
  have HL := hidIt hl
  have HT := hidIt hT
  have HC1 := hidIt (cell_box w 3 k (.slice ao zs.length cap) 0)
  have HC2 := hidIt (cell_box2 w 3 k (.slice ao zs.length cap) 0)
  clear hS hR hl hT
  go_enter Tryd.func12, Tryd.ntmps12
  go_wp2_with fail
  refine hnew.out.mono ?_
  rintro e w1 ⟨Ao, go, rfl, hAo, hgo, hs1, hk1⟩
  have c1 : w1.cell? ⟨w.heap.size, 1, none⟩ = some (.int .i64 k) := hk1.cell (p := ⟨w.heap.size, 1, none⟩) HC1.out (fun e => e)
  have c2 : w1.cell? ⟨w.heap.size, 2, none⟩ = some (.slice ao zs.length cap) := hk1.cell (p := ⟨w.heap.size, 2, none⟩) HC2.out (fun e => e)
  have C0 : Hid (w1.cell? ⟨w.heap.size, 0, none⟩ = some (.int .i64 3)) := hk1.cell (p := ⟨w.heap.size, 0, none⟩) (cell_box0 w 3 k (.slice ao zs.length cap) 0) (fun e => e)
  have HS1 := hidIt hs1
  have HK1 := hidIt (HB.out.trans' hk1)
  have hrn := hidIt (rnew_any k ao zs cap w1 (HL.out.grown HK1.out) (by omega))
  have hz1 := hk1.size
  clear hs1 hk1 hnew
  go_wp2_with fail
  refine hrn.out.mono ?_
  rintro e w2 ⟨Rp, hp, rfl, hRp, hhp, hr2, hk2⟩
  have c0 : w2.cell? ⟨w.heap.size, 0, none⟩ = some (.int .i64 3) := hk2.cell (p := ⟨w.heap.size, 0, none⟩) C0.out (fun e => e)
  have HK2 := hidIt (HK1.out.trans' hk2)
  have hz0 := HK1.out.size
  have hAo' : w.heap.size ≤ Ao := Nat.le_trans HBg hAo
  have hgo' : w.heap.size ≤ go := Nat.le_trans HBg hgo
  have hRp' : w.heap.size ≤ Rp := Nat.le_trans hz0 hRp
  have hhp' : w.heap.size ≤ hp := Nat.le_trans hz0 hhp
  have HS2 := hidIt (HS.out.kept HK2.out (fun h => h) (fun h => h))
  have HO2 := hidIt (HS1.out.kept hk2 (fun h => h) (fun h => h))
  have HR2 := hidIt (HR.out.kept HK2.out (fun h => h) (fun h => h))
  have HP2 := hidIt hr2
  have hj := hidIt (meet_any HS2.out HO2.out)
  have n1 : Rp ≠ g := by omega
  have n2 : hp ≠ g := by omega
  have n3 : Ao ≠ g := by omega
  have n4 : go ≠ g := by omega
  have n5 : Rp ≠ h := by omega
  have n6 : hp ≠ h := by omega
  have n7 : Ao ≠ h := by omega
  have n8 : go ≠ h := by omega
  clear hr2 hk2 hrn HS HR HL HS1 HK1 c1 c2 C0 HC1 HC2 HB HBg hAo hgo hRp hhp hz1
  go_wp2_with fail
  refine hj.out.mono ?_
  rintro e w3 ⟨rfl, hs3, hk3⟩
  have HS3 := hidIt hs3
  have HR3 := hidIt (HR2.out.kept hk3 hRg hhg)
  have HP3 := hidIt (HP2.out.kept hk3 n1 n2)
  have HO3 := hidIt (HO2.out.kept hk3 n3 n4)
  have HK3 := hidIt hk3
  have hdo := hidIt (rdo1 HR3.out HP3.out)
  clear hs3 hk3 hj HS2 HR2 HO2 HP2
  go_wp2_with fail
  refine hdo.out.mono ?_
  rintro e w4 ⟨rfl, hr4, hk4⟩
  have HS4 := hidIt (HS3.out.kept hk4 hAh (fun e => hhg e.symm))
  have HR4 := hidIt hr4
  have HO4 := hidIt (HO3.out.kept hk4 n7 n8)
  have HP4 := hidIt (HP3.out.kept hk4 n5 n6)
  have HK4 : Hid (Kp (fun k => k = g ∨ k = h) w w4) := ((HK2.out.mono fun _ h => h.elim).trans' (HK3.out.mono fun _ h => .inl h)).trans' (hk4.mono fun _ h => .inr h)
  have hli := hidIt (list_any HO4.out (HT.out _ HK4.out) hcl)
  clear hr4 hk4 hdo HS3 HR3 HO3 HP3 HK3 HK2
  go_wp2_with fail
  refine hli.out.mono ?_
  rintro e w5 ⟨ao5, cap5, rfl, hl5, hk5⟩
  have HL5 := hidIt hl5
  have HK5 := hidIt (HK4.out.trans' (hk5.mono fun _ h => h.elim))
  have HS5 := hidIt (HS4.out.grown hk5)
  have HR5 := hidIt (HR4.out.kept hk5 (fun h => h) (fun h => h))
  have hal := hidIt (rall_any (HP4.out.kept hk5 (fun h => h) (fun h => h)) hcl)
  clear hl5 hk5 hli HS4 HR4 HO4 HP4 HK4
  go_wp2_with fail
  refine hal.out.mono ?_
  rintro e w6 ⟨ao6, cap6, rfl, hl6, hk6⟩
  have hsi := hidIt (sameInts_any ao5 ao6 ((nums (clampB k) (ofL (clampB k) zs)).map fun (n : Nat) => (n : Int)) cap5 cap6 w6 (HL5.out.grown hk6) hl6 (by have := nums_le (clampB k) (ofL (clampB k) zs); simp; omega))
  rw [List.length_map] at hsi
  have HK6 := hidIt (HK5.out.trans' (hk6.mono fun _ h => h.elim))
  have HS6 := hidIt (HS5.out.grown hk6)
  have HR6 := hidIt (HR5.out.kept hk6 (fun h => h) (fun h => h))
  clear hl6 hk6 hal HS5 HR5 HK5 HL5
  go_wp2_with fail
  refine hsi.out.mono ?_
  rintro e w7 ⟨rfl, m, rfl⟩
  go_wp2
  go_ret
  exact ⟨by simp, opP (fun x y => x && y) b p (ofL (clampB k) zs), HS6.out.drewN m, HR6.out.drewN m, HK6.out.drewN m⟩

set_option maxRecDepth 100000 in
set_option maxHeartbeats 4000000 in
theorem do_4 {w : World} {A g b R h c : Nat} {p : Nat → Bool} (hS : SetAt w A g b p) (hR : RefAt w R h b c p) (k : Int) (hk : k ≤ 1000) (ao : Option Addr) (zs : List Int) (cap : Nat) (hl : LAt w ao zs) (hn : zs.length ≤ 60) (hT : ∀ W', Kp (fun k => k = g ∨ k = h) w W' → Tab W') :
    Calls Tryd.prog 12 #[.pointer (some ⟨A, 0, none⟩), .pointer (some ⟨R, 0, none⟩), .agg #[.int .i64 4, .int .i64 k, .slice ao zs.length cap]] w (DoPost A g b R h c w) := by
  obtain ⟨hRg, hhg, hAh⟩ := hR.apart hS
  have hcl : clampB k ≤ 1000 := by unfold clampB; omega
  have HB := hidIt (kp_box w (cbox 4 k (.slice ao zs.length cap)) 0)
  have HBg := HB.out.size
  have hgl := hS.row.lt
  have hAl := hS.ltA
  have hhl := hR.row.lt
  have hRl := hR.ltR
  have hnew := hidIt (new_any k ao zs cap _ (hl.grown HB.out) (by omega))
  have HS := hidIt hS
  have HR := hidIt hR
  have HL := hidIt hl
  have HT := hidIt hT
  have HC1 := hidIt (cell_box w 4 k (.slice ao zs.length cap) 0)
  have HC2 := hidIt (cell_box2 w 4 k (.slice ao zs.length cap) 0)
  clear hS hR hl hT
  go_enter Tryd.func12, Tryd.ntmps12
  go_wp2_with fail
  refine hnew.out.mono ?_
  rintro e w1 ⟨Ao, go, rfl, hAo, hgo, hs1, hk1⟩
  have c1 : w1.cell? ⟨w.heap.size, 1, none⟩ = some (.int .i64 k) := hk1.cell (p := ⟨w.heap.size, 1, none⟩) HC1.out (fun e => e)
  have c2 : w1.cell? ⟨w.heap.size, 2, none⟩ = some (.slice ao zs.length cap) := hk1.cell (p := ⟨w.heap.size, 2, none⟩) HC2.out (fun e => e)
  have C0 : Hid (w1.cell? ⟨w.heap.size, 0, none⟩ = some (.int .i64 4)) := hk1.cell (p := ⟨w.heap.size, 0, none⟩) (cell_box0 w 4 k (.slice ao zs.length cap) 0) (fun e => e)
  have HS1 := hidIt hs1
  have HK1 := hidIt (HB.out.trans' hk1)
  have hrn := hidIt (rnew_any k ao zs cap w1 (HL.out.grown HK1.out) (by omega))
  have hz1 := hk1.size
  clear hs1 hk1 hnew
  go_wp2_with fail
  refine hrn.out.mono ?_
  rintro e w2 ⟨Rp, hp, rfl, hRp, hhp, hr2, hk2⟩
  have c0 : w2.cell? ⟨w.heap.size, 0, none⟩ = some (.int .i64 4) := hk2.cell (p := ⟨w.heap.size, 0, none⟩) C0.out (fun e => e)
  have HK2 := hidIt (HK1.out.trans' hk2)
  have hz0 := HK1.out.size
  have hAo' : w.heap.size ≤ Ao := Nat.le_trans HBg hAo
  have hgo' : w.heap.size ≤ go := Nat.le_trans HBg hgo
  have hRp' : w.heap.size ≤ Rp := Nat.le_trans hz0 hRp
  have hhp' : w.heap.size ≤ hp := Nat.le_trans hz0 hhp
  have HS2 := hidIt (HS.out.kept HK2.out (fun h => h) (fun h => h))
  have HO2 := hidIt (HS1.out.kept hk2 (fun h => h) (fun h => h))
  have HR2 := hidIt (HR.out.kept HK2.out (fun h => h) (fun h => h))
  have HP2 := hidIt hr2
  have hj := hidIt (less_any HS2.out HO2.out)
  have n1 : Rp ≠ g := by omega
  have n2 : hp ≠ g := by omega
  have n3 : Ao ≠ g := by omega
  have n4 : go ≠ g := by omega
  have n5 : Rp ≠ h := by omega
  have n6 : hp ≠ h := by omega
  have n7 : Ao ≠ h := by omega
  have n8 : go ≠ h := by omega
  clear hr2 hk2 hrn HS HR HL HS1 HK1 c1 c2 C0 HC1 HC2 HB HBg hAo hgo hRp hhp hz1
  go_wp2_with fail
  refine hj.out.mono ?_
  rintro e w3 ⟨rfl, hs3, hk3⟩
  have HS3 := hidIt hs3
  have HR3 := hidIt (HR2.out.kept hk3 hRg hhg)
  have HP3 := hidIt (HP2.out.kept hk3 n1 n2)
  have HO3 := hidIt (HO2.out.kept hk3 n3 n4)
  have HK3 := hidIt hk3
  have hdo := hidIt (rdo2 HR3.out HP3.out)
  clear hs3 hk3 hj HS2 HR2 HO2 HP2
  go_wp2_with fail
  refine hdo.out.mono ?_
  rintro e w4 ⟨rfl, hr4, hk4⟩
  have HS4 := hidIt (HS3.out.kept hk4 hAh (fun e => hhg e.symm))
  have HR4 := hidIt hr4
  have HO4 := hidIt (HO3.out.kept hk4 n7 n8)
  have HP4 := hidIt (HP3.out.kept hk4 n5 n6)
  have HK4 : Hid (Kp (fun k => k = g ∨ k = h) w w4) := ((HK2.out.mono fun _ h => h.elim).trans' (HK3.out.mono fun _ h => .inl h)).trans' (hk4.mono fun _ h => .inr h)
  have hli := hidIt (list_any HO4.out (HT.out _ HK4.out) hcl)
  clear hr4 hk4 hdo HS3 HR3 HO3 HP3 HK3 HK2
  go_wp2_with fail
  refine hli.out.mono ?_
  rintro e w5 ⟨ao5, cap5, rfl, hl5, hk5⟩
  have HL5 := hidIt hl5
  have HK5 := hidIt (HK4.out.trans' (hk5.mono fun _ h => h.elim))
  have HS5 := hidIt (HS4.out.grown hk5)
  have HR5 := hidIt (HR4.out.kept hk5 (fun h => h) (fun h => h))
  have hal := hidIt (rall_any (HP4.out.kept hk5 (fun h => h) (fun h => h)) hcl)
  clear hl5 hk5 hli HS4 HR4 HO4 HP4 HK4
  go_wp2_with fail
  refine hal.out.mono ?_
  rintro e w6 ⟨ao6, cap6, rfl, hl6, hk6⟩
  have hsi := hidIt (sameInts_any ao5 ao6 ((nums (clampB k) (ofL (clampB k) zs)).map fun (n : Nat) => (n : Int)) cap5 cap6 w6 (HL5.out.grown hk6) hl6 (by have := nums_le (clampB k) (ofL (clampB k) zs); simp; omega))
  rw [List.length_map] at hsi
  have HK6 := hidIt (HK5.out.trans' (hk6.mono fun _ h => h.elim))
  have HS6 := hidIt (HS5.out.grown hk6)
  have HR6 := hidIt (HR5.out.kept hk6 (fun h => h) (fun h => h))
  clear hl6 hk6 hal HS5 HR5 HK5 HL5
  go_wp2_with fail
  refine hsi.out.mono ?_
  rintro e w7 ⟨rfl, m, rfl⟩
  go_wp2
  go_ret
  exact ⟨by simp, opP (fun x y => x && !y) b p (ofL (clampB k) zs), HS6.out.drewN m, HR6.out.drewN m, HK6.out.drewN m⟩

theorem fill_step (p : Nat → Bool) (k : Nat) : (fun n => decide (n < k + 1) || p n) = upd (fun n => decide (n < k) || p n) k true := by
  funext n
  unfold upd
  by_cases h : n = k
  · simp [h]
  · have : (n < k + 1) ↔ (n < k) := by omega
    simp [h, this]
theorem fill_end {b : Nat} {p : Nat → Bool} (hp : Fits b p) : (fun n => decide (n < b) || p n) = fullP b := by
  funext n
  by_cases h : n < b
  · simp [fullP, h]
  · simp [fullP, h, hp.out (show b ≤ n by omega)]

set_option maxRecDepth 100000 in
set_option maxHeartbeats 4000000 in
theorem do_5 {w : World} {A g b R h c : Nat} {p : Nat → Bool} (hS : SetAt w A g b p) (hR : RefAt w R h b c p) (k : Int) (l : Value) :
    Calls Tryd.prog 12 #[.pointer (some ⟨A, 0, none⟩), .pointer (some ⟨R, 0, none⟩), .agg #[.int .i64 5, .int .i64 k, l]] w (DoPost A g b R h c w) := by
  obtain ⟨hRg, hhg, hAh⟩ := hR.apart hS
  have hb := hR.fits.1
  have HB := hidIt (kp_box w (cbox 5 k l) 0)
  have HE := hidIt (fill_end hR.fits)
  have hfi := hidIt (fill_any (hS.kept HB.out (fun h => h) (fun h => h)))
  have HR := hidIt (hR.kept HB.out (fun h => h) (fun h => h))
  clear hS hR
  go_enter Tryd.func12, Tryd.ntmps12
  go_wp2_with fail
  refine hfi.out.mono ?_
  rintro e w1 ⟨rfl, hs1, hk1⟩
  have hst : Hid (RefAt w1 R h b c (fun n => decide (n < 0) || p n) ∧ SetAt w1 A g b (fullP b) ∧ Kp (fun k => k = g ∨ k = h) w w1) := ⟨by simpa using HR.out.kept hk1 hRg hhg, hs1, (HB.out.mono fun _ h => h.elim).trans' (hk1.mono fun _ h => .inl h)⟩
  clear hs1 hk1 hfi HB HR
  go_wp2
  go_loopw [10] (fun i wr => ∃ k : Nat, k ≤ b ∧ i = .int .i64 k ∧ Hid (RefAt wr R h b c (fun n => decide (n < k) || p n) ∧ SetAt wr A g b (fullP b) ∧ Kp (fun k => k = g ∨ k = h) w wr)) (fun i _ => b - (intOf i).toNat)
  case atStart => exact ⟨0, Nat.zero_le _, rfl, hst.out⟩
  case round =>
    clear hst
    obtain ⟨k, hk, rfl, hrm⟩ := hrel
    have hs := hrm.out.1.slice
    by_cases hltk : k < b
    · have hz := hrm.out.1.row.frz k
      have hc := hrm.out.1.row.cell hltk
      have HN : Hid (RefAt (wr.setCell ⟨h, k, none⟩ (.bool true)) R h b c (fun n => decide (n < k + 1) || p n) ∧ SetAt (wr.setCell ⟨h, k, none⟩ (.bool true)) A g b (fullP b) ∧ Kp (fun k => k = g ∨ k = h) w (wr.setCell ⟨h, k, none⟩ (.bool true))) := by
        have h1 : Kp (fun k => k = h) wr (wr.setCell ⟨h, k, none⟩ (.bool true)) := (Kp.refl (fun k => k = h) wr).setG k _
        refine ⟨?_, hrm.out.2.1.kept h1 hAh (fun e => hhg e.symm), hrm.out.2.2.trans' (h1.mono fun _ h => .inr h)⟩
        rw [fill_step]
        exact hrm.out.1.set hltk true
      clear hrm
      go_wp2
      go_roundw
      case rel => exact ⟨k + 1, by omega, by go_num, HN.out⟩
      case measure => simp [intOf]; omega
    · have he : k = b := by omega
      subst he
      go_wp2
      go_ret
      exact ⟨rfl, fullP k, hrm.out.2.1, by rw [← HE.out]; exact hrm.out.1, hrm.out.2.2⟩

theorem self_or {b : Nat} {p : Nat → Bool} (hp : Fits b p) : opP (fun x y => x || y) b p p = p := by
  rw [← mixR_all hp]
  funext n
  simp [mixR]
theorem self_and {b : Nat} {p : Nat → Bool} (hp : Fits b p) : opP (fun x y => x && y) b p p = p := by
  rw [← mixR_all hp]
  funext n
  simp [mixR]
theorem chg_self {b : Nat} {p : Nat → Bool} (hp : Fits b p) : chg b p p = false := by
  rw [chg_eq hp hp]
  simp

set_option maxRecDepth 100000 in
set_option maxHeartbeats 4000000 in
theorem do_6 {w : World} {A g b R h c : Nat} {p : Nat → Bool} (hS : SetAt w A g b p) (hR : RefAt w R h b c p) (k : Int) (l : Value) :
    Calls Tryd.prog 12 #[.pointer (some ⟨A, 0, none⟩), .pointer (some ⟨R, 0, none⟩), .agg #[.int .i64 6, .int .i64 k, l]] w (DoPost A g b R h c w) := by
  obtain ⟨hRg, hhg, hAh⟩ := hR.apart hS
  have HF := hidIt hR.fits
  have HB := hidIt (kp_box w (cbox 6 k l) 0)
  have hS1 := hS.kept HB.out (fun h => h) (fun h => h)
  have hj := join_any hS1 hS1
  rw [self_or hR.fits, chg_self hR.fits] at hj
  have HJ := hidIt hj
  have HR := hidIt (hR.kept HB.out (fun h => h) (fun h => h))
  clear hS hR hS1 hj
  go_enter Tryd.func12, Tryd.ntmps12
  go_wp2_with fail
  refine HJ.out.mono ?_
  rintro e w1 ⟨rfl, hs1, hk1⟩
  have hm := meet_any hs1 hs1
  rw [self_and HF.out, chg_self HF.out] at hm
  have HM := hidIt hm
  have HR1 := hidIt (HR.out.kept hk1 hRg hhg)
  have HK1 : Hid (Kp (fun k => k = g ∨ k = h) w w1) := (HB.out.mono fun _ h => h.elim).trans' (hk1.mono fun _ h => .inl h)
  clear hs1 hk1 hm HJ HB HR
  go_wp2_with fail
  refine HM.out.mono ?_
  rintro e w2 ⟨rfl, hs2, hk2⟩
  have HE : Hid (SetAt w2 A g b p ∧ RefAt w2 R h b c p ∧ Kp (fun k => k = g ∨ k = h) w w2) := ⟨hs2, HR1.out.kept hk2 hRg hhg, HK1.out.trans' (hk2.mono fun _ h => .inl h)⟩
  clear hs2 hk2 HM HR1 HK1
  go_wp2
  go_ret
  exact ⟨rfl, p, HE.out⟩

set_option maxRecDepth 100000 in
set_option maxHeartbeats 4000000 in
theorem do_other {w : World} {A g b R h c : Nat} {p : Nat → Bool} (hS : SetAt w A g b p) (hR : RefAt w R h b c p) (i k : Int) (l : Value) (hi : i < 0 ∨ 6 < i) :
    Calls Tryd.prog 12 #[.pointer (some ⟨A, 0, none⟩), .pointer (some ⟨R, 0, none⟩), .agg #[.int .i64 i, .int .i64 k, l]] w (DoPost A g b R h c w) := by
  have HB := hidIt (kp_box w (cbox i k l) 0)
  have HE : Hid (SetAt (w.alloc (cbox i k l)) A g b p ∧ RefAt (w.alloc (cbox i k l)) R h b c p ∧ Kp (fun k => k = g ∨ k = h) w (w.alloc (cbox i k l))) := ⟨hS.kept HB.out (fun h => h) (fun h => h), hR.kept HB.out (fun h => h) (fun h => h), HB.out.mono fun _ h => h.elim⟩
  have e0 : i ≠ 0 := by omega
  have e1 : i ≠ 1 := by omega
  have e2 : i ≠ 2 := by omega
  have e3 : i ≠ 3 := by omega
  have e4 : i ≠ 4 := by omega
  have e5 : i ≠ 5 := by omega
  have e6 : i ≠ 6 := by omega
  clear hS hR HB hi
  go_enter Tryd.func12, Tryd.ntmps12
  go_wp2
  go_ret
  exact ⟨rfl, p, HE.out⟩

theorem do_any {w : World} {A g b R h c : Nat} {p : Nat → Bool} (hS : SetAt w A g b p) (hR : RefAt w R h b c p) (i k : Int) (hk : 2 ≤ i → i ≤ 4 → k ≤ 1000) (ao : Option Addr) (zs : List Int) (cap : Nat) (hl : LAt w ao zs) (hn : zs.length ≤ 60) (hT : ∀ W', Kp (fun k => k = g ∨ k = h) w W' → Tab W') :
    Calls Tryd.prog 12 #[.pointer (some ⟨A, 0, none⟩), .pointer (some ⟨R, 0, none⟩), .agg #[.int .i64 i, .int .i64 k, .slice ao zs.length cap]] w (DoPost A g b R h c w) := by
  by_cases h0 : i = 0
  · subst h0
    exact do_0 hS hR k _
  by_cases h1 : i = 1
  · subst h1
    exact do_1 hS hR k _
  by_cases h2 : i = 2
  · subst h2
    exact do_2 hS hR k (hk (by omega) (by omega)) ao zs cap hl hn hT
  by_cases h3 : i = 3
  · subst h3
    exact do_3 hS hR k (hk (by omega) (by omega)) ao zs cap hl hn hT
  by_cases h4 : i = 4
  · subst h4
    exact do_4 hS hR k (hk (by omega) (by omega)) ao zs cap hl hn hT
  by_cases h5 : i = 5
  · subst h5
    exact do_5 hS hR k _
  by_cases h6 : i = 6
  · subst h6
    exact do_6 hS hR k _
  exact do_other hS hR i k _ (by omega)

end Go.Proofs.YtcaibfalhkhleaaDoor
