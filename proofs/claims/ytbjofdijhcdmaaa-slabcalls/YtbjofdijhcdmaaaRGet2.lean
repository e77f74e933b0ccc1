/-
  The document's slab: Get, where an index is free; Get in one word.
-/
import Derived.Test.YtbjofdijhcdmaaaRGetH
import Derived.Deep.DeepCutAuto
namespace Go.Proofs.Ytbjofdijhcdmaaa
open Go.RowKit
set_option linter.unusedVariables false
theorem get_free {w Wx w1 : World} {A b : Nat} {rs : RS} {fp : Nat → Prop} {vp vf v1 : Value} {es : List PV} {l : List Nat} (h : RAt w A rs fp vp vf es) (hk : Kp (fun _ => False) w Wx) (hb : w.heap.size ≤ b) (ho : w1.ownsRow 0 3 1 v1 (0 + l.length) ([] ++ freeCells l))
    (hg : Wx.grownBy w1 (Value.slice (some ⟨b, 0, none⟩) 0 0).ownBlock) (hf : freshOr Wx (.slice (some ⟨b, 0, none⟩) 0 0) v1) :
    w1.cell? ⟨A, 2, none⟩ = some vf ∧ w1.frozen? ⟨A, 2, none⟩ = false ∧ (∃ a1 cp1, v1 = .slice a1 l.length cp1) ∧ Hid (NewFree w A l (w1.setCell ⟨A, 2, none⟩ v1)) := by
  have hbb : ∀ k, (Value.slice (some ⟨b, 0, none⟩) 0 0).ownBlock = some k → w.heap.size ≤ k := by
    intro k hk
    simp [Value.ownBlock] at hk
    omega
  have hk1 := hk.gr hg hbb
  have h1 := h.kp hk1
  rw [Nat.zero_add, List.nil_append] at ho
  obtain ⟨a1, cp1, e1, _⟩ := own_shape ho
  exact ⟨h1.cells.2.2.1, h1.frz 2, ⟨a1, cp1, e1⟩, v1, w1, hk1, ho, hf.new hk.size hbb, rfl⟩

set_option maxRecDepth 100000 in
set_option maxHeartbeats 40000000 in
theorem rget_b {w : World} {A : Nat} {rs : RS} {fp : Nat → Prop} (h : RRep w A rs fp) (hok : ROk rs) (m : Nat) (h1 : 1 ≤ m) (h2 : m ≤ 4095) (hu : rused rs.ps + m ≤ rs.room) (l : List Nat) (x : Nat) (hfe : rs.free = l ++ [x]) (hxb : x ≤ 900000) :
    Calls Try.prog 25 #[.pointer (some ⟨A, 0, none⟩), .int .i64 m] w fun e w' => e = .returned (.tuple #[.int .u64 (rfirst (rpiece rs m)), .int .i64 0]) ∧ RDid w A (rnew rs m) fp w' := by
  have HU : Hid (∀ wx : World, wx.heap = w.heap → Calls Try.prog 34 #[.pointer (some ⟨A, 0, none⟩)] wx fun e w' => e = .returned (.int .i64 (rused rs.ps)) ∧ wx = w') := fun wx hx =>
    rused_any (h.frame (by rw [hx]; exact Nat.le_refl _) fun k _ => by rw [hx]) hok.len fun p hp => (hok.piece p hp).2.2.2.1
  obtain ⟨vp, vf, es, h0⟩ := h
  obtain ⟨c0, c1, c2, c3⟩ := h0.cells
  have z2 := h0.frz 2
  have hF := h0.free
  have hfl : rs.free.length = l.length + 1 := by rw [hfe]; simp
  have hfn := hok.free
  rw [hfl] at hF
  obtain ⟨gf, cf, rfl, hcf, hcm⟩ := own_pos hF (by omega)
  have hcx : w.cell? ⟨gf, l.length, none⟩ = some (.int .i64 x) := by
    refine (hF.cellAt _ (by omega)).trans ?_
    simp [freeCells, hfe]
  have htk := own_take hF (by omega) (m := l.length) (by omega)
  have hel : (freeCells rs.free).take (l.length * 1) = freeCells l := by simp [freeCells, hfe]
  rw [hel] at htk
  have Htk := hidIt htk
  have hAl := h0.fplt A h0.fpA
  have hgl := h0.fplt gf (h0.fpF gf rfl)
  have HR := hidIt h0
  have Hok := hidIt hok
  have Hfe := hidIt hfe
  have Hlt := hidIt h0.fplt
  have HfA := hidIt h0.fpA
  have hroom := hok.room
  have hnx := hok.next
  have hpl := hok.len
  have hgA : gf ≠ A := fun e => own_ne h0.free h0.head (by decide) (by rw [e]; rfl)
  obtain ⟨ao, cap, hvp⟩ := h0.shape
  subst hvp
  generalize hused : rused rs.ps = us at *
  have hwr : IntKind.i64.wrap ((us : Int) + (m : Int)) = (us : Int) + m := IntWalk.i64_in _ (by omega)
  have hwr2 : IntKind.i64.wrap ((l.length : Int) + 1 - 1) = (l.length : Int) := (IntWalk.i64_in _ (by omega)).trans (by omega)
  have hwr4 : IntKind.i64.wrap (l.length : Int) = (l.length : Int) := IntWalk.i64_in _ (by omega)
  have hcf2 : (l.length : Int) ≤ (cf : Int) := by omega
  have hwr3 : ((l.length : Int) + 1 - 1) = (l.length : Int) := by omega
  have Hus := hidIt hused
  clear h0 hok hfe hused hF htk hel
  go_enter Try.func25, Try.ntmps25
  go_upto_region 3 with fail
  go_cut [24] (fun c wx => c = .bool false ∧ wx = w.drew)
  case first =>
    go_region_with (go_at_call 34; go_must (refine (HU.out w.drew rfl).mono ?_); rintro e w' ⟨rfl, rfl⟩)
    all_goals (go_wp2_with fail; go_meet; exact ⟨by first | rfl | (simp; omega), rfl⟩)
  case rest =>
    obtain ⟨rfl, rfl⟩ := hcut
    clear HU hwr
    go_upto_if 34 with fail
    go_cut [6] (fun i wx => i = .int .i64 x ∧ Hid (NewFree w A l wx))
    case first =>
      go_wp2
      go_region
      go_wp2
      obtain ⟨i3, hi3, hz30, hz31, hz32⟩ := info_parts Try.info3
      go_region_law (first
        | (refine step_append_row _ rfl (.tmp 48) (.tmp 59) 41 rfl 3 i3 _ 1 8 Try.underlying41 hi3 hz30 hz31 hz32 rfl (by decide) _ 0 [] rfl (own_none (by first | exact new_at rfl rfl | exact new_at rfl (by first | (simp; done) | (simp; omega)))) _ l.length (freeCells l) rfl ((show Kp (fun _ => False) w _ from by repeat (first | exact Kp.refl _ _ | apply Kp.al | apply Kp.drew)).row Htk.out) (freeCells_one l) (by unfold maxLen; omega) (by omega) ?_
           intro v1 w1 ho1 hg1 hf1
           obtain ⟨e2, ez2, ⟨a1, cp1, rfl⟩, HNF⟩ := get_free HR.out (by repeat (first | exact Kp.refl _ _ | apply Kp.al | apply Kp.drew)) (by first | exact Nat.le_refl _ | (simp; done)) ho1 hg1 hf1
           clear ho1 hg1 hf1))
      all_goals (go_wp2_with fail; go_meet; exact ⟨rfl, HNF.out⟩)
    case rest =>
      obtain ⟨rfl, HNF⟩ := hcut
      generalize wc = Wa at *
      obtain ⟨⟨vf2, hR2⟩, hk0⟩ := HR.out.newFree HNF.out
      have Hk0 := hidIt hk0
      have HR0 := HR
      clear HR
      have HR := hidIt hR2
      have hd1 := HR.out.cells.2.1
      have hix : Hid (rtake rs = x) := by show _ = _; simp [rtake, Hfe.out]
      clear hk0 hR2 HNF HR0 c0 c1 c2 c3 z2 hcx hwr2 hwr3 hwr4 hcf2 Htk
      go_wp2
      go_loopw [7, 8] (fun ag i wr => ∃ k a : Nat, k ≤ rs.ps.length ∧ a ≤ k ∧ i = .int .i64 k ∧ ag = .int .i64 a ∧ Hid (a = rage (rs.ps.take k) x) ∧ wr = Wa) (fun _ i _ => rs.ps.length - (intOf i).toNat)
      case atStart => exact ⟨0, 0, Nat.zero_le _, Nat.le_refl _, rfl, rfl, by simp [rage, Hid], rfl⟩
      case round =>
        obtain ⟨k, a, hk, hak, rfl, rfl, Ha, rfl⟩ := hrel
        by_cases hlt : k < rs.ps.length
        · obtain ⟨p, hp⟩ : ∃ p, rs.ps[k]? = some p := ⟨_, List.getElem?_eq_getElem hlt⟩
          obtain ⟨g, cap', hve⟩ := HR.out.pos (rs := { rs with free := l }) hp
          simp only [Value.slice.injEq] at hve
          obtain ⟨rfl, _, rfl⟩ := hve
          obtain ⟨u, v, hu⟩ := HR.out.get (rs := { rs with free := l }) hp
          have e0 := (HR.out.cell hu).1
          simp only at e0
          have hsn := countP_snoc (isIx x) rs.ps k p hp
          have hm0 := Ha.out
          unfold rage at hm0
          rw [← hm0] at hsn
          have Hsn := hidIt hsn
          clear hsn Ha hp hu hm0
          by_cases hpi : p.ix = x
          · have ha1 : Hid (a + 1 = rage (rs.ps.take (k + 1)) x) := by show _ = _; unfold rage; rw [Hsn.out]; simp [isIx, hpi]
            have hdec : ((p.ix : Int) == (x : Int)) = true := by simp [hpi]
            clear Hsn
            go_wp2
            go_roundw
            case rel => exact ⟨k + 1, a + 1, by omega, by omega, by go_num, by go_num, ha1, trivial⟩
            case measure => simp [intOf]; omega
          · have ha1 : Hid (a = rage (rs.ps.take (k + 1)) x) := by show _ = _; unfold rage; rw [Hsn.out]; simp [isIx, hpi]
            have hdec : ((p.ix : Int) == (x : Int)) = false := by simp; omega
            clear Hsn
            go_wp2
            go_roundw
            case rel => exact ⟨k + 1, a, by omega, by omega, by go_num, rfl, ha1, trivial⟩
            case measure => simp [intOf]; omega
        · obtain rfl : k = rs.ps.length := by omega
          have hm := Ha.out
          rw [List.take_length] at hm
          have Hm2 := hidIt hm
          clear Ha hm
          have Hp : Hid ((⟨x, a, List.replicate m 0, List.replicate m false, false⟩ : RP) = rpiece rs m) := by
            show _ = _
            unfold rpiece
            rw [hix.out, Hm2.out]
          have Heq : Hid (({ rs with free := l, ps := rs.ps ++ [⟨x, a, List.replicate m 0, List.replicate m false, false⟩] } : RS) = rnew rs m) := by
            show _ = _
            unfold rnew
            rw [Hp.out, Hfe.out]
            simp
          have Hel : Hid (es.length = rs.ps.length) := HR.out.len
          have Hfp : Hid (∀ k, ext fp w wr k → ext fp w wr k) := fun k hk => hk
          have hAr : A < wr.heap.size := HR.out.fplt A HR.out.fpA
          have hm2 := make92 m (by omega)
          have hm3 := make93 m (by omega)
          go_upto_region 16 with fail
          go_cut [9] (fun q wx => ∃ bu bv bp : Nat, q = .pointer (some ⟨bp, 0, none⟩) ∧ Hid (Laid wr wx bp (.slice (some ⟨bu, 0, none⟩) m m) (.slice (some ⟨bv, 0, none⟩) m m) ⟨x, a, List.replicate m 0, List.replicate m false, false⟩) ∧ Hid (wx.cell? ⟨bp, 0, none⟩ = some (.int .i64 x) ∧ wx.cell? ⟨bp, 1, none⟩ = some (.int .i64 a) ∧ wx.cell? ⟨bp, 2, none⟩ = some (.slice (some ⟨bu, 0, none⟩) m m) ∧ wx.cell? ⟨bp, 3, none⟩ = some (.slice (some ⟨bv, 0, none⟩) m m) ∧ wx.cell? ⟨bp, 4, none⟩ = some (.bool false)) ∧ Hid (Kp (fun _ => False) wr wx))
          case first =>
            go_region
            all_goals
              generalize hW1 : World.drew _ = W1
              obtain ⟨hkW, hX, hY, hZ, hsW⟩ := three_at hW1
              obtain ⟨HL, e0, e1, e2, e3, e4⟩ := (by first
                | exact laid_of (by omega) hkW hX hY hZ (by omega) (by omega) (by omega)
                | exact laid_of (by omega) hkW hX hZ hY (by omega) (by omega) (by omega)
                | exact laid_of (by omega) hkW hY hX hZ (by omega) (by omega) (by omega)
                | exact laid_of (by omega) hkW hY hZ hX (by omega) (by omega) (by omega)
                | exact laid_of (by omega) hkW hZ hX hY (by omega) (by omega) (by omega)
                | exact laid_of (by omega) hkW hZ hY hX (by omega) (by omega) (by omega))
              have HEE := hidIt (And.intro e0 (And.intro e1 (And.intro e2 (And.intro e3 e4))))
              have HkW := hidIt hkW
              clear hW1 hX hY hZ hkW hsW e0 e1 e2 e3 e4
              go_wp2_with fail
              go_meet
              exact ⟨_, _, _, rfl, HL.out, HEE.out, HkW.out⟩
          case rest =>
            obtain ⟨bu, bv, bp, rfl, HL, HEE, HkW⟩ := hcut
            generalize wc = W1 at *
            obtain ⟨e0, e1, e2, e3, e4⟩ := HEE.out
            have hRW := HR.out.kp HkW.out
            have d1W := hRW.cells.2.1
            have hAW : A < W1.heap.size := Nat.lt_of_lt_of_le hAr HkW.out.size
            clear hRW HEE hm2 hm3
            go_wp2
            obtain ⟨i9, hi9, hz90, hz91, hz92⟩ := info_parts Try.info95
            go_region_law (first
              | (refine step_append_row _ rfl (.tmp 102) (.tmp 104) 70 rfl 95 i9 _ 5 72 Try.underlying70 hi9 hz90 hz91 hz92 rfl (by decide) _ es.length (pcells es) rfl (HR.out.kp (HkW.out.trans' (by repeat (first | exact Kp.refl _ _ | apply Kp.al | apply Kp.drew)))).prow _ 1 _ rfl (own_five (cs := pcell (⟨x, a, List.replicate m 0, List.replicate m false, false⟩, _, _)) (by first | exact new_at rfl rfl | exact new_at rfl (by first | (simp; done) | (simp; omega))) rfl) (by simp [pcell, Value.oneCell']) (by rw [Hel.out]; unfold maxLen; omega) (by rw [Hel.out]; omega) ?_
                 intro vp2 w2 ho2 hg2 hf2
                 obtain ⟨⟨g2, cap2, rfl⟩, f1, fz1, hAb, ⟨g0, g1, gg2, g3, g4⟩, HD⟩ := get_push HR.out HL (by repeat (first | exact Kp.refl _ _ | apply Kp.al | apply Kp.drew)) ho2 hg2 hf2 Hk0.out Hfp.out Heq.out Hlt.out
                 clear ho2 hg2 hf2))
            all_goals
              go_wp2_with fail
              refine (raddr_any ⟨x, a, List.replicate m 0, List.replicate m false, false⟩ _ _ 0 _ (by show x < 1000000; omega) (by show a < 1000000; omega) (by omega) (by omega)).mono ?_
              rintro e w3 ⟨rfl, hk3⟩
              rw [Int.add_zero]
              have HD3 := hidIt (HD.out w3 hk3)
              clear hk3 HD
              go_wp2
              go_ret2
              have hE : Ending.returned (.tuple #[.int .u64 (rfirst ⟨x, a, List.replicate m 0, List.replicate m false, false⟩), .int .i64 0]) = .returned (.tuple #[.int .u64 (rfirst (rpiece rs m)), .int .i64 0]) := by rw [Hp.out]
              exact ⟨hE, HD3.out⟩

theorem rget_err {w : World} {A : Nat} (n : Int) (h : n < 1 ∨ 4095 < n) :
    Calls Try.prog 25 #[.pointer (some ⟨A, 0, none⟩), .int .i64 n] w fun e w' => e = .returned (.tuple #[.int .u64 0, .int .i64 11]) ∧ w = w' := by
  by_cases h1 : n < 1
  · clear h
    go_enter Try.func25, Try.ntmps25
    go_wp2
    go_ret2
    exact ⟨rfl, rfl⟩
  · have h2 : 4095 < n := by omega
    clear h
    go_enter Try.func25, Try.ntmps25
    go_wp2
    go_ret2
    exact ⟨rfl, rfl⟩
end Go.Proofs.Ytbjofdijhcdmaaa
