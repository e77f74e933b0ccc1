/-
  BitsSteps answers true, whatever it is given.
-/
import Derived.Test.YtcaibfalhkhleaaDoorMap
import Derived.Test.YtcaibfalhkhleaaDoorLaws
namespace Go.Proofs.YtcaibfalhkhleaaDoor
set_option linter.unusedVariables false
open Go.RowKit Go.Maps

set_option maxRecDepth 100000 in
set_option maxHeartbeats 400000 in
theorem steps_early (b0 : Int) (ao : Option Addr) (n c : Nat) (w : World) (hT : Tab w) (hn : n ≤ 9223372036854775807) (h : b0 < 0 ∨ 1000 < b0 ∨ 100 < n) :
    Calls Tryd.prog 7 #[.int .i64 b0, .slice ao n c] w fun e w' => e = .returned (.bool true) ∧ Below w.heap.size w w' := by
  have ha := hidIt (alive_any w hT)
  clear hT
  by_cases h1 : b0 < 0
  · clear h
    go_enter Tryd.func7, Tryd.ntmps7
    go_wp2_with fail
    refine ha.out.mono ?_
    rintro e w1 ⟨rfl, hB⟩
    have HB := hidIt hB
    clear ha hB
    go_wp2
    go_ret
    exact ⟨rfl, HB.out⟩
  · by_cases h2 : 1000 < b0
    · clear h
      go_enter Tryd.func7, Tryd.ntmps7
      go_wp2_with fail
      refine ha.out.mono ?_
      rintro e w1 ⟨rfl, hB⟩
      have HB := hidIt hB
      clear ha hB
      go_wp2
      go_ret
      exact ⟨rfl, HB.out⟩
    · have h3 : 100 < n := by omega
      clear h
      go_enter Tryd.func7, Tryd.ntmps7
      go_wp2_with fail
      refine ha.out.mono ?_
      rintro e w1 ⟨rfl, hB⟩
      have HB := hidIt hB
      clear ha hB
      go_wp2
      go_ret
      exact ⟨rfl, HB.out⟩

/-- Where the loop of BitsSteps stands: a set, and the map that tells the same. -/
structure StepsAt (w : World) (A g b B c : Nat) (p : Nat → Bool) (W : World) : Prop where
  ms : MS w [⟨A, g, b, p⟩] W
  map : ∃ D, OwnM W B c D ∧ MapIs D p
  le : w.heap.size ≤ B
section
variable {w W W' : World} {A g b B c : Nat} {p p' : Nat → Bool}
theorem StepsAt.on (h : StepsAt w A g b B c p W) (hs : SetAt W' A g b p') (k : Kp (fun i => i = g) W W') : MS w [⟨A, g, b, p'⟩] W' ∧ ∃ D, OwnM W' B c D ∧ MapIs D p := by
  obtain ⟨D, hD, hm⟩ := h.map
  obtain ⟨o, ho, hc⟩ := map_obj hD
  exact ⟨h.ms.on (i := 0) rfl hs k, D, map_of_held hD ((keepObj ho (h.ms.at (i := 0) rfl) k hc).trans ho.symm), hm⟩
theorem StepsAt.drewN (h : StepsAt w A g b B c p W) (m : Nat) : StepsAt w A g b B c p (W.drewN m) := ⟨h.ms.grow ((Kp.refl _ W).drewN m), by
  obtain ⟨D, hD, hm⟩ := h.map
  exact ⟨D, map_of_held hD rfl, hm⟩, h.le⟩
end

theorem cnt_none (b : Nat) : cnt b (fun _ => false) = 0 := by
  induction b with
  | zero => rfl
  | succ b ih => rw [cnt_succ, ih]; rfl
theorem SetAt.notMap {W : World} {A g b B c : Nat} {p : Nat → Bool} {D : DataW Unit} (h : SetAt W A g b p) (hm : OwnM W B c D) : A ≠ B ∧ g ≠ B := by
  obtain ⟨es, clock, h1, r⟩ := hm
  refine ⟨fun e => ?_, fun e => ?_⟩
  · subst e
    rw [h.head] at h1
    simp at h1
  · subst e
    have h2 : W.heap[g]? = _ := h.row
    rw [h2] at h1
    simp at h1
/-- The map is told. -/
theorem StepsAt.told {w W W' : World} {A g b B c : Nat} {p' : Nat → Bool} (hM : MS w [⟨A, g, b, p'⟩] W) (hle : w.heap.size ≤ B) {D D' : DataW Unit} (hD : OwnM W B c D) (hD' : OwnM W' B (c + 1) D') (hg : W.grownBy W' (some B)) (hm : MapIs D' p') : StepsAt w A g b B (c + 1) p' W' := by
  have hs := hM.at (i := 0) rfl
  obtain ⟨n1, n2⟩ := hs.notMap hD
  have hk : Kp (fun i => i = B) W W' := ⟨hg.os, hg.tape, hg.output, hg.size, fun k hk hn => hg.block k hk (fun e => hn (Option.some.inj e))⟩
  refine ⟨⟨fun d hd => ?_, hM.nodup, hM.bel.trans (hk.below hM.bel.size fun i hi => by omega)⟩, ⟨D', hD', hm⟩, hle⟩
  simp at hd
  subst hd
  exact ⟨hs.kept hk n1 n2, (hM.sets _ (by simp)).2⟩
/-- What the end of a round asks: Has, the map and Len tell the same. -/
theorem StepsAt.asks {w W : World} {A g b B c : Nat} {p : Nat → Bool} (h : StepsAt w A g b B c p W) {q : Int} {x : Bool} {L : Nat} (hx : hasP p q = x) (hL : cnt b p = L) (hq : (Lit.int .i64 q).wf = true) :
    (∀ m, Calls Tryd.prog 19 #[.pointer (some ⟨A, 0, none⟩), .int .i64 q] (W.drewN m) fun e w' => e = .returned (.bool x) ∧ ∃ m', w' = (W.drewN m).drewN m') ∧
    (∀ m, Sem.run Tryd.prog (Instr.lookup 51 (.map (some B)) (.int .i64 q) false) (W.drewN m) = .ok (.bool x) (W.drewN m)) ∧
    (∀ m, Calls Tryd.prog 16 #[.pointer (some ⟨A, 0, none⟩)] (W.drewN m) fun e w' => e = .returned (.int .i64 (L : Nat)) ∧ w' = W.drewN m) ∧
    Sem.run Tryd.prog (Instr.lookup 51 (.map (some B)) (.int .i64 q) false) W = .ok (.bool x) W := by
  obtain ⟨D, hD, hm⟩ := h.map
  refine ⟨fun m => ?_, fun m => ?_, fun m => ?_, ?_⟩
  · have := has_any ((h.drewN m).ms.at (i := 0) rfl) q
    rwa [hx] at this
  · have := map_look_drewN hD hm hq m
    rwa [hx] at this
  · have := len_cnt ((h.drewN m).ms.at (i := 0) rfl)
    rw [hL] at this
    exact this.mono fun e w' ⟨h1, h2⟩ => ⟨h1, h2.symm⟩
  · have := map_look hD hm hq
    rwa [hx] at this

set_option maxRecDepth 100000 in
set_option maxHeartbeats 4000000 in
theorem steps_main (b : Nat) (ao : Option Addr) (z : List Int) (c1 : Nat) (w : World) (hT : Tab w) (h1 : LAt w ao z) (hw : ∀ n ∈ z, (Lit.int .i64 n).wf = true) (hb : b ≤ 1000) (hn1 : z.length ≤ 100) :
    Calls Tryd.prog 7 #[.int .i64 b, .slice ao z.length c1] w fun e w' => e = .returned (.bool true) ∧ Below w.heap.size w w' := by
  have ha := hidIt (alive_any w hT)
  have H1 := hidIt h1
  have HW := hidIt hw
  have hmm := @run_makeMap Tryd.prog
  clear hT h1 hw
  go_enter Tryd.func7, Tryd.ntmps7
  go_wp2_with fail
  refine ha.out.mono ?_
  rintro e w1 ⟨rfl, hB⟩
  have HB := hidIt hB
  clear ha hB
  go_wp2_with fail
  have hc := new_any b none [] 0 w1 (fun j z hj => by simp at hj) (by simp)
  rw [show clampB b = b from by unfold clampB; omega, ofL_nil] at hc
  refine hc.mono ?_
  rintro e w2 ⟨As, gs, rfl, hA, hg, hs, hk⟩
  have M1 : Hid (StepsAt w As gs b w2.heap.size 0 (fun _ => false) (w2.alloc (.map #[] 0))) := by
    have hM : MS w [⟨As, gs, b, fun _ => false⟩] w2 := (MS.start HB.out).push hs hk hA hg
    exact ⟨hM.grow ((Kp.refl _ w2).alloc _), ⟨.map [], World.ownsMap_made _ _ _ _, MapIs.start⟩, hM.bel.size⟩
  clear hc hs hk hA hg HB
  go_wp2
  clear hmm
  go_loopw [7, 8] (fun vn vi wr => ∃ (k c : Nat) (p : Nat → Bool), k ≤ z.length ∧ c ≤ k ∧ vi = .int .i64 k ∧ vn = .int .i64 (cnt b p : Nat) ∧ Hid (Fits b p) ∧ Hid (StepsAt w As gs b w2.heap.size c p wr)) (fun _ i _ => z.length - (intOf i).toNat)
  case atStart => exact ⟨0, 0, fun _ => false, Nat.zero_le _, Nat.le_refl _, rfl, by rw [cnt_none]; rfl, (M1.out.ms.at (i := 0) rfl).fits, M1⟩
  case round =>
    clear M1
    obtain ⟨k, c, p, hk, hck, rfl, rfl, hF, hS⟩ := hrel
    have hcl := cnt_le b p
    by_cases hlt : k < z.length
    · obtain ⟨q, hq⟩ : ∃ q, z[k]? = some q := ⟨_, List.getElem?_eq_getElem hlt⟩
      obtain ⟨lb, off, rfl, hcq⟩ := H1.out k q hq
      have hcz : wr.cell? ⟨lb, off + k, none⟩ = some (.int .i64 q) := (hS.out.ms.bel.cell (p := ⟨lb, off + k, none⟩) (World.block_lt_of_cell? w _ hcq)).trans hcq
      have hqw := HW.out q (List.mem_of_getElem? hq)
      have Hqw := hidIt hqw
      obtain ⟨hq1, hq2⟩ := bounds_i64 hqw
      clear hcq hq hqw
      have hlk0 : Sem.run Tryd.prog (Instr.lookup 51 (.map (some w2.heap.size)) (.int .i64 q) false) wr = .ok (.bool (hasP p q)) wr := by
        obtain ⟨D, hD, hm⟩ := hS.out.map
        exact map_look hD hm Hqw.out
      by_cases ha3 : (k : Int) % 3 = 2
      · have hne : ((k : Int) % 3 != 2) = false := by simp [ha3]
        have hcut := hidIt (cut_any (hS.out.ms.at (i := 0) rfl) q)
        cases hx : hasP p q with
        | true =>
          obtain ⟨⟨hw0, hw1⟩, hcn, hp1, hp2⟩ := cut_yes hF.out hx
          rw [hx] at hcut hlk0
          go_wp2_with fail
          refine hcut.out.mono ?_
          rintro e w4 ⟨rfl, hs4, hk4⟩
          obtain ⟨h1, D, hD, hm⟩ := hS.out.on hs4 hk4
          have hlk4 : Sem.run Tryd.prog (Instr.lookup 51 (.map (some w2.heap.size)) (.int .i64 q) false) w4 = .ok (.bool true) w4 := by
            have := map_look hD hm Hqw.out
            rwa [hx] at this
          have HD := hidIt hD
          have HT : Hid (∀ w5, OwnM w5 w2.heap.size (c + 1) (D.put (.int .i64 q) (.lit (.bool false))) → w4.grownBy w5 (some w2.heap.size) → StepsAt w As gs b w2.heap.size (c + 1) (cutN p q) w5) := fun w5 ho hg => StepsAt.told h1 hS.out.le hD ho hg (hm.put q false hp1 hp2)
          have hle5 := hS.out.le
          clear hs4 hk4 hcut hcz hlk0 hS h1 hD hm
          obtain ⟨L, hL0⟩ : ∃ L, cnt b p = L := ⟨_, rfl⟩
          rw [hL0] at hcl hcn ⊢
          go_wp2_with (at_mapUpdate; go_must (refine wpList_mapUpdate_own _ rfl _ _ _ 51 rfl 3 4 law3 Tryd.underlying51 _ w2.heap.size c _ rfl HD.out (by unfold maxLen; omega) _ _ _ rfl rfl (keyOf_int_mk Tryd.underlying3 Hqw.out) _ [] (plainElem_bool Tryd.underlying4 false) ?_))
          intro w5 hm5 hg5
          have HS5 := hidIt (HT.out w5 hm5 hg5)
          clear hm5 hg5 HT HD hlk4
          have hx5 : hasP (cutN p q) q = false := hp1
          have hL5 : cnt b (cutN p q) = L - 1 := by omega
          obtain ⟨t1, t2, t3, t4⟩ := HS5.out.asks (x := false) hx5 hL5 Hqw.out
          have T1 := hidIt t1
          have T3 := hidIt t3
          have hF5 := hidIt (cutN_fits hF.out q)
          clear t1 t3
          go_wp2_with fail
          go_quiet (first | (go_at_call 19; refine Calls.quiet_of (T1.out _)) | (go_at_call 16; refine Calls.quiet_of_same (T3.out _)))
          go_wp2
          go_roundw
          case rel => exact ⟨k + 1, c + 1, cutN p q, by omega, by omega, by go_num, by rw [hL5]; go_num, hF5, HS5.out.drewN _⟩
          case measure => simp [intOf]; omega
        | false =>
          have hsame := cut_no hx
          rw [hx, hsame] at hcut
          rw [hx] at hlk0
          clear hsame
          by_cases hw0 : 0 ≤ q
          · by_cases hw1 : q < b
            · go_wp2_with fail
              refine hcut.out.mono ?_
              rintro e w4 ⟨rfl, hs4, hk4⟩
              have HS5 : Hid (StepsAt w As gs b w2.heap.size c p w4) := by
                obtain ⟨h1, h2⟩ := hS.out.on hs4 hk4
                exact ⟨h1, h2, hS.out.le⟩
              clear hs4 hk4 hcut hcz hlk0 hS
              have hx5 : hasP p q = false := hx
              obtain ⟨L, hL5⟩ : ∃ L, cnt b p = L := ⟨_, rfl⟩
              rw [hL5] at hcl ⊢
              obtain ⟨t1, t2, t3, t4⟩ := HS5.out.asks (x := false) hx5 hL5 Hqw.out
              have T1 := hidIt t1
              have T3 := hidIt t3
              clear t1 t3
              go_wp2_with fail
              go_quiet (first | (go_at_call 19; refine Calls.quiet_of (T1.out _)) | (go_at_call 16; refine Calls.quiet_of_same (T3.out _)))
              go_wp2
              go_roundw
              case rel => exact ⟨k + 1, c, p, by omega, by omega, by go_num, by rw [hL5], hF, HS5.out.drewN _⟩
              case measure => simp [intOf]; omega
            · go_wp2_with fail
              refine hcut.out.mono ?_
              rintro e w4 ⟨rfl, hs4, hk4⟩
              have HS5 : Hid (StepsAt w As gs b w2.heap.size c p w4) := by
                obtain ⟨h1, h2⟩ := hS.out.on hs4 hk4
                exact ⟨h1, h2, hS.out.le⟩
              clear hs4 hk4 hcut hcz hlk0 hS
              have hx5 : hasP p q = false := hx
              obtain ⟨L, hL5⟩ : ∃ L, cnt b p = L := ⟨_, rfl⟩
              rw [hL5] at hcl ⊢
              obtain ⟨t1, t2, t3, t4⟩ := HS5.out.asks (x := false) hx5 hL5 Hqw.out
              have T1 := hidIt t1
              have T3 := hidIt t3
              clear t1 t3
              go_wp2_with fail
              go_quiet (first | (go_at_call 19; refine Calls.quiet_of (T1.out _)) | (go_at_call 16; refine Calls.quiet_of_same (T3.out _)))
              go_wp2
              go_roundw
              case rel => exact ⟨k + 1, c, p, by omega, by omega, by go_num, by rw [hL5], hF, HS5.out.drewN _⟩
              case measure => simp [intOf]; omega
          · go_wp2_with fail
            refine hcut.out.mono ?_
            rintro e w4 ⟨rfl, hs4, hk4⟩
            have HS5 : Hid (StepsAt w As gs b w2.heap.size c p w4) := by
              obtain ⟨h1, h2⟩ := hS.out.on hs4 hk4
              exact ⟨h1, h2, hS.out.le⟩
            clear hs4 hk4 hcut hcz hlk0 hS
            have hx5 : hasP p q = false := hx
            obtain ⟨L, hL5⟩ : ∃ L, cnt b p = L := ⟨_, rfl⟩
            rw [hL5] at hcl ⊢
            obtain ⟨t1, t2, t3, t4⟩ := HS5.out.asks (x := false) hx5 hL5 Hqw.out
            have T1 := hidIt t1
            have T3 := hidIt t3
            clear t1 t3
            go_wp2_with fail
            go_quiet (first | (go_at_call 19; refine Calls.quiet_of (T1.out _)) | (go_at_call 16; refine Calls.quiet_of_same (T3.out _)))
            go_wp2
            go_roundw
            case rel => exact ⟨k + 1, c, p, by omega, by omega, by go_num, by rw [hL5], hF, HS5.out.drewN _⟩
            case measure => simp [intOf]; omega
      · have hne : ((k : Int) % 3 != 2) = true := by simp [ha3]
        have hadd := hidIt (add_any (hS.out.ms.at (i := 0) rfl) q)
        by_cases hw0 : 0 ≤ q
        · by_cases hw1 : q < b
          · cases hx : hasP p q with
            | true =>
              obtain ⟨e1, e2⟩ := add_no (b := b) (p := p) (k := q) (.inr hx)
              rw [e1, e2] at hadd
              rw [hx] at hlk0
              clear e1 e2
              go_wp2_with fail
              refine hadd.out.mono ?_
              rintro e w4 ⟨rfl, hs4, hk4⟩
              have HS5 : Hid (StepsAt w As gs b w2.heap.size c p w4) := by
                obtain ⟨h1, h2⟩ := hS.out.on hs4 hk4
                exact ⟨h1, h2, hS.out.le⟩
              clear hs4 hk4 hadd hcz hlk0 hS
              have hx5 : hasP p q = true := hx
              obtain ⟨L, hL5⟩ : ∃ L, cnt b p = L := ⟨_, rfl⟩
              rw [hL5] at hcl ⊢
              obtain ⟨t1, t2, t3, t4⟩ := HS5.out.asks (x := true) hx5 hL5 Hqw.out
              have T1 := hidIt t1
              have T3 := hidIt t3
              clear t1 t3
              go_wp2_with fail
              go_quiet (first | (go_at_call 19; refine Calls.quiet_of (T1.out _)) | (go_at_call 16; refine Calls.quiet_of_same (T3.out _)))
              go_wp2
              go_roundw
              case rel => exact ⟨k + 1, c, p, by omega, by omega, by go_num, by rw [hL5], hF, HS5.out.drewN _⟩
              case measure => simp [intOf]; omega
            | false =>
              obtain ⟨e1, hcn, hp1, hp2⟩ := add_yes hw0 hw1 hx
              rw [e1] at hadd
              rw [hx] at hlk0
              clear e1
              go_wp2_with fail
              refine hadd.out.mono ?_
              rintro e w4 ⟨rfl, hs4, hk4⟩
              obtain ⟨h1, D, hD, hm⟩ := hS.out.on hs4 hk4
              have hlk4 : Sem.run Tryd.prog (Instr.lookup 51 (.map (some w2.heap.size)) (.int .i64 q) false) w4 = .ok (.bool false) w4 := by
                have := map_look hD hm Hqw.out
                rwa [hx] at this
              have HD := hidIt hD
              have HT : Hid (∀ w5, OwnM w5 w2.heap.size (c + 1) (D.put (.int .i64 q) (.lit (.bool true))) → w4.grownBy w5 (some w2.heap.size) → StepsAt w As gs b w2.heap.size (c + 1) (addP b p q) w5) := fun w5 ho hg => StepsAt.told h1 hS.out.le hD ho hg (hm.put q true hp1 hp2)
              have hle5 := hS.out.le
              clear hs4 hk4 hadd hcz hlk0 hS h1 hD hm
              obtain ⟨L, hL0⟩ : ∃ L, cnt b p = L := ⟨_, rfl⟩
              rw [hL0] at hcl hcn ⊢
              go_wp2_with (at_mapUpdate; go_must (refine wpList_mapUpdate_own _ rfl _ _ _ 51 rfl 3 4 law3 Tryd.underlying51 _ w2.heap.size c _ rfl HD.out (by unfold maxLen; omega) _ _ _ rfl rfl (keyOf_int_mk Tryd.underlying3 Hqw.out) _ [] (plainElem_bool Tryd.underlying4 true) ?_))
              intro w5 hm5 hg5
              have HS5 := hidIt (HT.out w5 hm5 hg5)
              clear hm5 hg5 HT HD hlk4
              have hx5 : hasP (addP b p q) q = true := hp1
              have hL5 : cnt b (addP b p q) = L + 1 := by omega
              obtain ⟨t1, t2, t3, t4⟩ := HS5.out.asks (x := true) hx5 hL5 Hqw.out
              have T1 := hidIt t1
              have T3 := hidIt t3
              have hF5 := hidIt (addP_fits hF.out q)
              clear t1 t3
              go_wp2_with fail
              go_quiet (first | (go_at_call 19; refine Calls.quiet_of (T1.out _)) | (go_at_call 16; refine Calls.quiet_of_same (T3.out _)))
              go_wp2
              go_roundw
              case rel => exact ⟨k + 1, c + 1, addP b p q, by omega, by omega, by go_num, by rw [hL5]; go_num, hF5, HS5.out.drewN _⟩
              case measure => simp [intOf]; omega
          · have hx : hasP p q = false := hasP_fits hF.out (by omega)
            obtain ⟨e1, e2⟩ := add_no (b := b) (p := p) (k := q) (.inl (by omega))
            rw [e1, e2] at hadd
            rw [hx] at hlk0
            clear e1 e2
            go_wp2_with fail
            refine hadd.out.mono ?_
            rintro e w4 ⟨rfl, hs4, hk4⟩
            have HS5 : Hid (StepsAt w As gs b w2.heap.size c p w4) := by
              obtain ⟨h1, h2⟩ := hS.out.on hs4 hk4
              exact ⟨h1, h2, hS.out.le⟩
            clear hs4 hk4 hadd hcz hlk0 hS
            have hx5 : hasP p q = false := hx
            obtain ⟨L, hL5⟩ : ∃ L, cnt b p = L := ⟨_, rfl⟩
            rw [hL5] at hcl ⊢
            obtain ⟨t1, t2, t3, t4⟩ := HS5.out.asks (x := false) hx5 hL5 Hqw.out
            have T1 := hidIt t1
            have T3 := hidIt t3
            clear t1 t3
            go_wp2_with fail
            go_quiet (first | (go_at_call 19; refine Calls.quiet_of (T1.out _)) | (go_at_call 16; refine Calls.quiet_of_same (T3.out _)))
            go_wp2
            go_roundw
            case rel => exact ⟨k + 1, c, p, by omega, by omega, by go_num, by rw [hL5], hF, HS5.out.drewN _⟩
            case measure => simp [intOf]; omega
        · have hx : hasP p q = false := by simp [hasP, hw0]
          obtain ⟨e1, e2⟩ := add_no (b := b) (p := p) (k := q) (.inl (by omega))
          rw [e1, e2] at hadd
          rw [hx] at hlk0
          clear e1 e2
          go_wp2_with fail
          refine hadd.out.mono ?_
          rintro e w4 ⟨rfl, hs4, hk4⟩
          have HS5 : Hid (StepsAt w As gs b w2.heap.size c p w4) := by
            obtain ⟨h1, h2⟩ := hS.out.on hs4 hk4
            exact ⟨h1, h2, hS.out.le⟩
          clear hs4 hk4 hadd hcz hlk0 hS
          have hx5 : hasP p q = false := hx
          obtain ⟨L, hL5⟩ : ∃ L, cnt b p = L := ⟨_, rfl⟩
          rw [hL5] at hcl ⊢
          obtain ⟨t1, t2, t3, t4⟩ := HS5.out.asks (x := false) hx5 hL5 Hqw.out
          have T1 := hidIt t1
          have T3 := hidIt t3
          clear t1 t3
          go_wp2_with fail
          go_quiet (first | (go_at_call 19; refine Calls.quiet_of (T1.out _)) | (go_at_call 16; refine Calls.quiet_of_same (T3.out _)))
          go_wp2
          go_roundw
          case rel => exact ⟨k + 1, c, p, by omega, by omega, by go_num, by rw [hL5], hF, HS5.out.drewN _⟩
          case measure => simp [intOf]; omega
    · clear HW H1
      go_wp2
      go_ret
      exact ⟨rfl, hS.out.ms.bel⟩
end Go.Proofs.YtcaibfalhkhleaaDoor
