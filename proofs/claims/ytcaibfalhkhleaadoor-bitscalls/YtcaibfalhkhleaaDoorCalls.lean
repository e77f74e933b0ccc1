/-
  The walk of BitsCalls.
-/
import Derived.Test.YtcaibfalhkhleaaDoorGreat
import Derived.Test.YtcaibfalhkhleaaDoorLaws
import Derived.Deep.RegionHeld3
namespace Go.Proofs.YtcaibfalhkhleaaDoor
set_option linter.unusedVariables false
open Go.RowKit

theorem below_box {w W : World} {o : Obj} (h : Below (w.alloc o).heap.size (w.alloc o) W) : Below w.heap.size w W := by
  have hs : (w.alloc o).heap.size = w.heap.size + 1 := by rw [World.size_alloc]
  exact ⟨h.os, h.tape, h.output, by have := h.size; omega, fun k hk => (h.block k (by omega)).trans (Below.heap_alloc w _ k hk)⟩
theorem CAt.below {w W : World} {co : Option Addr} {cs : List Cd} (h : CAt w co cs) (hb : Below w.heap.size w W) : CAt W co cs := by
  intro j d hj
  obtain ⟨b, off, rfl, c0, c1, c2, hz, hl⟩ := h j d hj
  have key : ∀ i v, w.cell? ⟨b, i, none⟩ = some v → W.cell? ⟨b, i, none⟩ = some v := fun i v hc => by
    have hlt : b < w.heap.size := by
      by_cases e : b < w.heap.size
      · exact e
      · simp [World.cell?, Array.getElem?_eq_none (show w.heap.size ≤ b by omega)] at hc
    have : W.heap[b]? = w.heap[b]? := hb.block b hlt
    simp only [World.cell?] at hc ⊢
    rw [this]
    exact hc
  exact ⟨b, off, rfl, key _ _ c0, key _ _ c1, key _ _ c2, hz, hl.below hb⟩
theorem CAt.one {w : World} (d : Cd) (hz : d.zs.length ≤ 9223372036854775807) (hl : LAt w d.ao d.zs) : CAt (w.alloc (cbox d.i d.k (.slice d.ao d.zs.length d.cap))) (some ⟨w.heap.size, 0, none⟩) [d] := by
  intro j d' hj
  cases j with
  | zero =>
    simp at hj
    subst hj
    exact ⟨w.heap.size, 0, rfl, by simpa using cell_box0 w d.i d.k (.slice d.ao d.zs.length d.cap) 0, by simpa using cell_box w d.i d.k (.slice d.ao d.zs.length d.cap) 0, by simpa using cell_box2 w d.i d.k (.slice d.ao d.zs.length d.cap) 0, hz, hl.grown (kp_box w _ 0)⟩
  | succ j => simp at hj

/-- The set and the document's set, both new behind W0. -/
structure CS (W0 : World) (A g R h b c : Nat) (p : Nat → Bool) (W : World) : Prop where
  set : SetAt W A g b p
  ref : RefAt W R h b c p
  lA : W0.heap.size ≤ A
  lg : W0.heap.size ≤ g
  lR : W0.heap.size ≤ R
  lh : W0.heap.size ≤ h
  bel : Below W0.heap.size W0 W
theorem CS.grow {W0 : World} {A g R h b c : Nat} {p : Nat → Bool} {W W' : World} (H : CS W0 A g R h b c p W) (k : Kp (fun _ => False) W W') : CS W0 A g R h b c p W' :=
  ⟨H.set.grown k, H.ref.kept k (fun h => h) (fun h => h), H.lA, H.lg, H.lR, H.lh, bOn0 H.bel k⟩
theorem CS.on {W0 : World} {A g R h b c : Nat} {p p' : Nat → Bool} {W W' : World} (H : CS W0 A g R h b c p W) (hs : SetAt W' A g b p') (hr : RefAt W' R h b c p') (k : Kp (fun k => k = g ∨ k = h) W W') : CS W0 A g R h b c p' W' :=
  ⟨hs, hr, H.lA, H.lg, H.lR, H.lh, H.bel.trans (k.below H.bel.size fun i hi => by have := H.lg; have := H.lh; omega)⟩
theorem CS.tabs {W0 : World} {A g R h b c : Nat} {p : Nat → Bool} {W : World} (H : CS W0 A g R h b c p W) (hT : Tab W0) : ∀ W', Kp (fun k => k = g ∨ k = h) W W' → Tab W' := fun W' k =>
  hT.below (H.bel.trans (k.below H.bel.size fun i hi => by have := H.lg; have := H.lh; omega))
theorem CS.tab {W0 : World} {A g R h b c : Nat} {p : Nat → Bool} {W : World} (H : CS W0 A g R h b c p W) (hT : Tab W0) : Tab W := hT.below H.bel
theorem CS.old {W0 : World} {A g R h b c : Nat} {p p1 : Nat → Bool} {W W1 W2 : World} {fp : Nat → Prop} (H : CS W0 A g R h b c p1 W) (H1 : CS W0 A g R h b c p W1) (k : Kp fp W1 W2) (hn : ∀ i, fp i → W.heap.size ≤ i) : CS W0 A g R h b c p W2 := by
  have hA := H.set.ltA
  have hg := H.set.row.lt
  have hR := H.ref.ltR
  have hh := H.ref.row.lt
  have hz := H.bel.size
  have n : ∀ i, i < W.heap.size → ¬ fp i := fun i hi e => by have := hn i e; omega
  exact ⟨H1.set.kept k (n _ hA) (n _ hg), H1.ref.kept k (n _ hR) (n _ hh), H1.lA, H1.lg, H1.lR, H1.lh, H1.bel.trans (k.below H1.bel.size fun i hi => Nat.le_trans hz (hn i hi))⟩
theorem kp_drew (W : World) (m : Nat) : Kp (fun _ => False) W (W.drewN m) := ⟨rfl, rfl, rfl, Nat.le_refl _, fun _ _ _ => rfl⟩

set_option maxRecDepth 100000 in
set_option maxHeartbeats 4000000 in
theorem calls_early1 (b0 : Int) (ao co : Option Addr) (n c n2 c2 : Nat) (last : Cd) (x : Int) (w : World) (hT : Tab w) (hn : n ≤ 9223372036854775807) (h : 1000 < b0 ∨ 60 < n) :
    Calls Tryd.prog 3 #[.int .i64 b0, .slice ao n c, .slice co n2 c2, last.val, .int .i64 x] w fun e w' => e = .returned (.bool true) ∧ Below w.heap.size w w' := by
  have ha := fun o => hidIt (alive_any (w.alloc o) (hT.below ((Below.refl _ w).alloc (Nat.le_refl _) o)))
  clear hT
  by_cases h1 : 1000 < b0
  · clear h
    go_enter Tryd.func3, Tryd.ntmps3
    unfold Cd.val
    go_wp2_with fail
    refine (ha _).out.mono ?_
    rintro e w1 ⟨rfl, hB⟩
    have HB := hidIt (below_box hB)
    clear ha hB
    go_wp2
    go_ret
    exact ⟨rfl, HB.out⟩
  · have h2 : 60 < n := by omega
    clear h
    go_enter Tryd.func3, Tryd.ntmps3
    unfold Cd.val
    go_wp2_with fail
    refine (ha _).out.mono ?_
    rintro e w1 ⟨rfl, hB⟩
    have HB := hidIt (below_box hB)
    clear ha hB
    go_wp2
    go_ret
    exact ⟨rfl, HB.out⟩

set_option maxRecDepth 100000 in
set_option maxHeartbeats 4000000 in
theorem calls_main (b0 : Int) (hb0 : b0 ≤ 1000) (ao co : Option Addr) (zs : List Int) (c : Nat) (cs : List Cd) (c2 : Nat) (last : Cd) (x : Int) (w : World) (hT : Tab w) (hn : zs.length ≤ 60) (hl : LAt w ao zs) (hc : CAt w co cs) (hcn : cs.length ≤ 9223372036854775807) (hlast : LAt w last.ao last.zs) (hln : last.zs.length ≤ 9223372036854775807) :
    Calls Tryd.prog 3 #[.int .i64 b0, .slice ao zs.length c, .slice co cs.length c2, last.val, .int .i64 x] w fun e w' => e = .returned (.bool true) ∧ Below w.heap.size w w' := by
  have hB0 := (Below.refl _ w).alloc (Nat.le_refl _) (cbox last.i last.k (.slice last.ao last.zs.length last.cap))
  have HT := hidIt (hT.below hB0)
  have HL := hidIt (hl.below hB0)
  have HC := hidIt (hc.below hB0)
  have HLa := hidIt (hlast.below hB0)
  have ha := hidIt (alive_any _ HT.out)
  have hx0 := cell_box0 w last.i last.k (.slice last.ao last.zs.length last.cap) 0
  have hx1 := cell_box w last.i last.k (.slice last.ao last.zs.length last.cap) 0
  have hx2 := cell_box2 w last.i last.k (.slice last.ao last.zs.length last.cap) 0
  have HX := hidIt (And.intro hx0 (And.intro hx1 hx2))
  have hW0 : Hid ((w.alloc (cbox last.i last.k (.slice last.ao last.zs.length last.cap))).heap.size = w.heap.size + 1) := by show _ = _; rw [World.size_alloc]
  clear hT hl hc hlast hx0 hx1 hx2 hB0
  go_enter Tryd.func3, Tryd.ntmps3
  unfold Cd.val
  go_wp2_with fail
  refine ha.out.mono ?_
  rintro e w1 ⟨rfl, hB⟩
  have keep : Hid (∀ W, Below (w.alloc (cbox last.i last.k (.slice last.ao last.zs.length last.cap))).heap.size (w.alloc (cbox last.i last.k (.slice last.ao last.zs.length last.cap))) W → W.cell? ⟨w.heap.size, 0, none⟩ = some (.int .i64 last.i) ∧ W.cell? ⟨w.heap.size, 1, none⟩ = some (.int .i64 last.k) ∧ W.cell? ⟨w.heap.size, 2, none⟩ = some (.slice last.ao last.zs.length last.cap)) := fun W hW => by
    have h1 : W.heap[w.heap.size]? = (w.alloc (cbox last.i last.k (.slice last.ao last.zs.length last.cap))).heap[w.heap.size]? := hW.block _ (by rw [hW0.out]; omega)
    have h2 := HX.out
    simp only [World.cell?] at h2 ⊢
    rw [h1]
    exact h2
  have HBx : Hid (∀ W, Below (w.alloc (cbox last.i last.k (.slice last.ao last.zs.length last.cap))).heap.size (w.alloc (cbox last.i last.k (.slice last.ao last.zs.length last.cap))) W → Below w.heap.size w W) := fun W h => below_box h
  have HB := hidIt hB
  have hw0 : Hid (w.heap.size < (w.alloc (cbox last.i last.k (.slice last.ao last.zs.length last.cap))).heap.size) := by show _ < _; rw [hW0.out]; omega
  clear hB ha HX hW0
  generalize (w.alloc (cbox last.i last.k (.slice last.ao last.zs.length last.cap))) = W0 at *
  obtain ⟨q0, q1, q2⟩ := keep.out _ HB.out
  have hg1 := hidIt (great_any co cs c2 w1 (HC.out.below HB.out) hcn)
  have hg2 := hidIt (great_any (some ⟨w1.heap.size, 0, none⟩) [last] 1 _ (CAt.one last hln (HLa.out.below HB.out)) (by simp))
  simp only [List.length_singleton] at hg2
  go_wp2_with fail
  refine hg1.out.mono ?_
  rintro e w2 ⟨r, rfl, hr, rfl⟩
  have Hr := hidIt hr
  clear hr hg1
  cases r
  · go_wp2_with fail
    refine hg2.out.mono ?_
    rintro e w3 ⟨r2, rfl, hr2, rfl⟩
    have Hr2 := hidIt hr2
    clear hr2 hg2
    have HB2 : Hid (Below W0.heap.size W0 (w2.alloc (cbox last.i last.k (.slice last.ao last.zs.length last.cap)))) := bOn0 HB.out (kp_box w2 _ 0)
    clear q0 q1 q2 HB
    generalize (w2.alloc (cbox last.i last.k (.slice last.ao last.zs.length last.cap))) = w4 at *
    cases r2
    · have hfc := (Hr.out trivial).1
      have Hfine := hidIt (Hr.out trivial).2
      have Hlf : Hid last.fine := (Hr2.out rfl).2 last (by simp)
      clear Hr Hr2
      have hnw := hidIt (new_any b0 ao zs c w4 (HL.out.below HB2.out) (by omega))
      go_wp2_with fail
      refine hnw.out.mono ?_
      rintro e w5 ⟨A, g, rfl, hA, hg, hs5, hk5⟩
      have hrn := hidIt (rnew_any b0 ao zs c w5 ((HL.out.below HB2.out).grown hk5) (by omega))
      have HS5 := hidIt hs5
      have HK5 := hidIt hk5
      have hz5 := hk5.size
      have hz4 := HB2.out.size
      clear hs5 hk5 hnw
      go_wp2_with fail
      refine hrn.out.mono ?_
      rintro e w6 ⟨R, h, rfl, hR, hh, hr6, hk6⟩
      have hbb : clampB b0 ≤ 1000 := by unfold clampB; omega
      have HS6 : Hid (CS W0 A g R h (clampB b0) (clampB b0) (ofL (clampB b0) zs) w6) := ⟨HS5.out.grown hk6, hr6, by omega, by omega, by omega, by omega, bOn0 (bOn0 HB2.out HK5.out) hk6⟩
      clear hr6 hk6 hrn HS5 HK5 hA hg hR hh hz5 hz4 HL HB2
      generalize ofL (clampB b0) zs = p0 at *
      generalize clampB b0 = b at *
      go_wp2
      go_loopw [13] (fun i wr => ∃ k : Nat, k ≤ cs.length ∧ i = .int .i64 k ∧ Hid (∃ p, CS W0 A g R h b b p wr)) (fun i _ => cs.length - (intOf i).toNat)
      case atStart => exact ⟨0, Nat.zero_le _, rfl, _, HS6.out⟩
      case round =>
        clear HS6
        obtain ⟨k, hk, rfl, hrm⟩ := hrel
        obtain ⟨p, hrp⟩ := hrm.out
        have HP := hidIt hrp
        clear hrp hrm
        by_cases hlt : k < cs.length
        · obtain ⟨bb, off, rfl, c0, c1, c2', hz, hla⟩ := HC.out.below HP.out.bel k cs[k] (by simp)
          have hf : Hid (cs[k].fine) := Hfine.out cs[k] (by simp)
          have hdo := hidIt (do_any HP.out.set HP.out.ref cs[k].i cs[k].k hf.out.2 cs[k].ao cs[k].zs cs[k].cap hla hf.out.1 (HP.out.tabs HT.out))
          clear hla
          generalize cs[k] = d at *
          obtain ⟨di, dk, dao, dzs, dcap⟩ := d
          simp only at c0 c1 c2' hz hdo
          go_wp2_with fail
          clear c0 c1 c2' hz hf
          refine hdo.out.mono ?_
          rintro e y1 ⟨rfl, p1, hs1, hr1, hk1⟩
          have HP1 := hidIt (HP.out.on hs1 hr1 hk1)
          clear hs1 hr1 hk1 HP hdo
          have hli := hidIt (list_any HP1.out.set (HP1.out.tab HT.out) hbb)
          go_wp2_with fail
          refine hli.out.mono ?_
          rintro e y2 ⟨ao5, cap5, rfl, hl5, hk5⟩
          have HL5 := hidIt hl5
          have HP2 := hidIt (HP1.out.grow hk5)
          clear hl5 hk5 hli HP1
          have hal := hidIt (rall_any HP2.out.ref hbb)
          go_wp2_with fail
          refine hal.out.mono ?_
          rintro e y3 ⟨ao6, cap6, rfl, hl6, hk6⟩
          have HP3 := hidIt (HP2.out.grow hk6)
          have hsi := hidIt (sameInts_any ao5 ao6 ((nums b p1).map fun (n : Nat) => (n : Int)) cap5 cap6 y3 (HL5.out.grown hk6) hl6 (by have := nums_le b p1; simp; omega))
          rw [List.length_map] at hsi
          clear hl6 hk6 hal HP2 HL5
          go_wp2_with fail
          refine hsi.out.mono ?_
          rintro e y4 ⟨rfl, m, rfl⟩
          have HP4 := hidIt (HP3.out.grow (kp_drew y3 m))
          clear hsi HP3
          have hle := hidIt (len_cnt HP4.out.set)
          go_wp2_with fail
          refine hle.out.mono ?_
          rintro e y5 ⟨rfl, rfl⟩
          have hal := hidIt (rall_any HP4.out.ref hbb)
          go_wp2_with fail
          refine hal.out.mono ?_
          rintro e y6 ⟨ao7, cap7, rfl, hl7, hk7⟩
          have HP5 := hidIt (HP4.out.grow hk7)
          clear hl7 hk7 hal hle HP4
          have hcn1 : cnt b p1 = (nums b p1).length := rfl
          have hcn2 : (nums b p1).length ≤ b := nums_le b p1
          rw [hcn1]
          clear hcn1
          go_wp2
          go_roundw
          case rel => exact ⟨k + 1, by omega, by go_num, p1, HP5.out⟩
          case measure => simp [intOf]; omega
        · clear HC Hfine
          obtain ⟨q0, q1, q2⟩ := keep.out _ HP.out.bel
          have hcl := hidIt (clone_any HP.out.set)
          go_wp2_with fail
          refine hcl.out.mono ?_
          rintro e y1 ⟨C, dd, rfl, hC, hd, hs1, hk1⟩
          have HP1 := hidIt (HP.out.grow hk1)
          have HS1 := hidIt hs1
          have hsz := hk1.size
          have hso : Hid (∀ W, CS W0 A g R h b b p W → W.cell? ⟨R, 0, none⟩ = some (.slice (some ⟨h, 0, none⟩) b b) ∧ W.cell? ⟨w.heap.size, 0, none⟩ = some (.int .i64 last.i) ∧ W.cell? ⟨w.heap.size, 1, none⟩ = some (.int .i64 last.k) ∧ W.cell? ⟨w.heap.size, 2, none⟩ = some (.slice last.ao last.zs.length last.cap)) := fun W hW => ⟨hW.ref.slice, keep.out _ hW.bel⟩
          clear hs1 hk1 hcl q0 q1 q2
          have hbd := fun m => hidIt (bound_any A b (y1.drewN m) (HP1.out.grow (kp_drew y1 m)).set.bound)
          have hha := fun m => hidIt (has_any (HP1.out.grow (kp_drew y1 m)).set x)
          have HH2 : Hid (∀ y2 m2, y2 = (y1.drewN 1).drewN m2 → CS W0 A g R h b b p y2 ∧ SetAt y2 C dd b p ∧ y1.heap.size ≤ y2.heap.size) := fun y2 m2 e => by
            subst e
            exact ⟨(HP1.out.grow (kp_drew y1 1)).grow (kp_drew _ m2), (HS1.out.grown (kp_drew y1 1)).grown (kp_drew _ m2), Nat.le_refl _⟩
          have HH4 : Hid (∀ y2 y4 h2, CS W0 A g R h b b p y2 → y1.heap.size ≤ y2.heap.size → y2.heap.size ≤ h2 → CS W0 A g R h b b p y4 → ∀ W', Kp (fun k => k = dd ∨ k = h2) y4 W' → CS W0 A g R h b b p W') := fun y2 y4 h2 H2 l1 l2 H4 W' kk => HP.out.old H4 kk (fun i hi => by omega)
          have HDo : Hid (∀ y2 y4 R2 h2 cc, CS W0 A g R h b b p y2 → y1.heap.size ≤ y2.heap.size → y2.heap.size ≤ h2 → CS W0 A g R h b b p y4 → SetAt y4 C dd b p → RefAt y4 R2 h2 b cc p → Calls Tryd.prog 12 #[.pointer (some ⟨C, 0, none⟩), .pointer (some ⟨R2, 0, none⟩), .agg #[.int .i64 last.i, .int .i64 last.k, .slice last.ao last.zs.length last.cap]] y4 (DoPost C dd b R2 h2 cc y4)) := fun y2 y4 R2 h2 cc H2 l1 l2 H4 HS HR => do_any HS HR last.i last.k Hlf.out.2 last.ao last.zs last.cap (HLa.out.below H4.bel) Hlf.out.1 (fun W' kk => (HH4.out y2 y4 h2 H2 l1 l2 H4 W' kk).tab HT.out)
          have HSi : Hid (∀ y7 ao5 ao6 c5 c6, LAt y7 ao5 ((nums b p).map fun (n : Nat) => (n : Int)) → LAt y7 ao6 ((nums b p).map fun (n : Nat) => (n : Int)) → Calls Tryd.prog 13 #[.slice ao5 (nums b p).length c5, .slice ao6 (nums b p).length c6] y7 fun e w' => e = .returned (.bool true) ∧ ∃ m, w' = y7.drewN m) := fun y7 ao5 ao6 c5 c6 h1 h2 => by
            have := sameInts_any ao5 ao6 ((nums b p).map fun (n : Nat) => (n : Int)) c5 c6 y7 h1 h2 (by have := nums_le b p; simp; omega)
            rw [List.length_map] at this
            exact this
          have HLi : Hid (∀ W, CS W0 A g R h b b p W → Calls Tryd.prog 14 #[.pointer (some ⟨A, 0, none⟩)] W fun e w' => ∃ ao cap, e = .returned (.slice ao (nums b p).length cap) ∧ LAt w' ao ((nums b p).map fun (n : Nat) => (n : Int)) ∧ Kp (fun _ => False) W w') := fun W hW => list_any hW.set (hW.tab HT.out) hbb
          have HAl : Hid (∀ W, CS W0 A g R h b b p W → Calls Tryd.prog 15 #[.pointer (some ⟨R, 0, none⟩)] W fun e w' => ∃ ao cap, e = .returned (.slice ao (nums b p).length cap) ∧ LAt w' ao ((nums b p).map fun (n : Nat) => (n : Int)) ∧ Kp (fun _ => False) W w') := fun W hW => rall_any hW.ref hbb
          have hs1 := hso.out _ HP1.out
          clear HP HS1 HLa Hlf HT keep hb0 hn hcn hfc hsz hC hd hln hk hlt hw0
          go_wp2_with fail
          go_region_held3 (fun W => W.cell? ⟨R, 0, none⟩ = some (.slice (some ⟨h, 0, none⟩) b b) ∧ W.cell? ⟨w.heap.size, 0, none⟩ = some (.int .i64 last.i) ∧ W.cell? ⟨w.heap.size, 1, none⟩ = some (.int .i64 last.k) ∧ W.cell? ⟨w.heap.size, 2, none⟩ = some (.slice last.ao last.zs.length last.cap)) (go_keep)
            (first
            | (go_at_call 18; refine (hbd 1).out.mono ?_; rintro e y2 ⟨rfl, rfl⟩)
            | (go_at_call 19; refine (hha 1).out.mono ?_; rintro e y2 ⟨rfl, m2, hy2⟩; have HP2 := hidIt (HH2.out y2 m2 hy2); have s2 := hso.out _ HP2.out.1; clear hy2)
            | (go_at_call 20; refine (rhas_any HP2.out.1.ref x).mono ?_; rintro e y3 ⟨rfl, rfl⟩)
            | (go_at_call 21; refine (rcopy_any HP2.out.1.ref).mono ?_; rintro e y4 ⟨R2, h2, cc, rfl, hR2, hh2, hr4, hk4⟩; have HP4 := hidIt (HP2.out.1.grow hk4); have hdo := hidIt (HDo.out y2 y4 R2 h2 cc HP2.out.1 HP2.out.2.2 hh2 HP4.out (HP2.out.2.1.grown hk4) hr4); have HH5 := hidIt (HH4.out y2 y4 h2 HP2.out.1 HP2.out.2.2 hh2 HP4.out); have s4 := hso.out _ HP4.out; clear hr4 hk4 hR2 hh2)
            | (go_at_call 12; refine hdo.out.mono ?_; rintro e y5 ⟨rfl, p1, _, _, hk5⟩; have HP5 := hidIt (HH5.out _ hk5); have s5 := hso.out _ HP5.out; clear hk5)
            | (go_at_call 14; refine (HLi.out _ HP5.out).mono ?_; rintro e y6 ⟨ao5, cap5, rfl, hl5, hk5⟩; have HL5 := hidIt hl5; have HP6 := hidIt (HP5.out.grow hk5); have s6 := hso.out _ HP6.out; clear hl5 hk5)
            | (go_at_call 15; refine (HAl.out _ HP6.out).mono ?_; rintro e y7 ⟨ao6, cap6, rfl, hl6, hk6⟩; have HP7 := hidIt (HP6.out.grow hk6); have hsi := hidIt (HSi.out y7 ao5 ao6 cap5 cap6 (HL5.out.grown hk6) hl6); have s7 := hso.out _ HP7.out; clear hl6 hk6)
            | (go_at_call 13; refine hsi.out.mono ?_; rintro e y8 ⟨rfl, m8, rfl⟩))
          all_goals go_wp2
          go_ret
          exact ⟨rfl, HBx.out _ (HP7.out.grow (kp_drew y7 m8)).bel⟩
    · go_wp2
      go_ret
      exact ⟨rfl, HBx.out _ HB2.out⟩
  · clear hg2 q0 q1 q2
    go_wp2
    go_ret
    exact ⟨rfl, HBx.out _ HB.out⟩

end Go.Proofs.YtcaibfalhkhleaaDoor
