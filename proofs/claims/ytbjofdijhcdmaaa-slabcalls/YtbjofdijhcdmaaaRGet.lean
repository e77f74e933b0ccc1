/-
  The document's slab: Get.
-/
import Derived.Test.YtbjofdijhcdmaaaRGetH
namespace Go.Proofs.Ytbjofdijhcdmaaa
set_option linter.unusedVariables false
open Go.RowKit

set_option maxRecDepth 100000 in
set_option maxHeartbeats 4000000 in
theorem rget_a {w : World} {A : Nat} {rs : RS} {fp : Nat → Prop} (h : RRep w A rs fp) (hok : ROk rs) (m : Nat) (h1 : 1 ≤ m) (h2 : m ≤ 4095) (hu : rused rs.ps + m ≤ rs.room) (hfe : rs.free = []) :
    Calls Try.prog 25 #[.pointer (some ⟨A, 0, none⟩), .int .i64 m] w fun e w' => e = .returned (.tuple #[.int .u64 (rfirst (rpiece rs m)), .int .i64 0]) ∧ RDid w A (rnew rs m) fp w' := by
  have HU : Hid (∀ wx : World, wx.heap = w.heap → Calls Try.prog 34 #[.pointer (some ⟨A, 0, none⟩)] wx fun e w' => e = .returned (.int .i64 (rused rs.ps)) ∧ wx = w') := fun wx hx =>
    rused_any (h.frame (by rw [hx]; exact Nat.le_refl _) fun k _ => by rw [hx]) hok.len fun p hp => (hok.piece p hp).2.2.2.1
  obtain ⟨vp, vf, es, h0⟩ := h
  obtain ⟨c0, c1, c2, c3⟩ := h0.cells
  have z3 := h0.frz 3
  obtain ⟨af, cf, rfl, _⟩ := own_shape h0.free
  rw [hfe] at c2
  have hRn := h0.setNext (rs.next + 1)
  have hRd : RAt ((w.setCell ⟨A, 3, none⟩ (.int .i64 ((rs.next + 1 : Nat) : Int))).drew) A { rs with next := rs.next + 1 } fp vp (.slice af rs.free.length cf) es := hRn.frame (Nat.le_refl _) fun _ _ => rfl
  have hAl := h0.fplt A h0.fpA
  have HR := hidIt hRd
  have Hok := hidIt hok
  have Hfe := hidIt hfe
  have Hlt := hidIt h0.fplt
  have HfA := hidIt h0.fpA
  have hroom := hok.room
  have hnx := hok.next
  have hpl := hok.len
  obtain ⟨ao, cap, hvp⟩ := h0.shape
  subst hvp
  generalize hused : rused rs.ps = us at *
  have hwr : IntKind.i64.wrap ((us : Int) + (m : Int)) = (us : Int) + m := IntWalk.i64_in _ (by omega)
  have Hus := hidIt hused
  clear h0 hRn hRd hok hfe hused
  go_enter Try.func25, Try.ntmps25
  go_wp2
  go_region_with (go_at_call 34; go_must (refine (HU.out w.drew rfl).mono ?_); rintro e w' ⟨rfl, rfl⟩)
  all_goals
    go_wp2
    have hcast : ((rs.next : Int) + 1) = ((rs.next + 1 : Nat) : Int) := by omega
    rw [hcast]
    generalize hWa : (w.setCell ⟨A, 3, none⟩ (.int .i64 ((rs.next + 1 : Nat) : Int))).drew = Wa at *
    have HW := hidIt hWa
    have d1 := HR.out.cells.2.1
    have hix : Hid (rtake rs = rs.next) := by show _ = _; simp [rtake, Hfe.out]
    clear hWa c0 c1 c2 c3 z3 hcast HU hwr
    go_loopw [7, 8] (fun ag i wr => ∃ k a : Nat, k ≤ rs.ps.length ∧ a ≤ k ∧ i = .int .i64 k ∧ ag = .int .i64 a ∧ Hid (a = rage (rs.ps.take k) rs.next) ∧ wr = Wa) (fun _ i _ => rs.ps.length - (intOf i).toNat)
    case atStart => exact ⟨0, 0, Nat.zero_le _, Nat.le_refl _, rfl, rfl, by simp [rage, Hid], rfl⟩
    case round =>
      obtain ⟨k, a, hk, hak, rfl, rfl, Ha, rfl⟩ := hrel
      by_cases hlt : k < rs.ps.length
      · obtain ⟨p, hp⟩ : ∃ p, rs.ps[k]? = some p := ⟨_, List.getElem?_eq_getElem hlt⟩
        obtain ⟨g, cap', hve⟩ := HR.out.pos (rs := { rs with next := rs.next + 1 }) hp
        simp only [Value.slice.injEq] at hve
        obtain ⟨rfl, _, rfl⟩ := hve
        obtain ⟨u, v, hu⟩ := HR.out.get (rs := { rs with next := rs.next + 1 }) hp
        have e0 := (HR.out.cell hu).1
        simp only at e0
        have hsn := countP_snoc (isIx rs.next) rs.ps k p hp
        have hm0 := Ha.out
        unfold rage at hm0
        rw [← hm0] at hsn
        have Hsn := hidIt hsn
        clear hsn Ha hp hu hm0
        by_cases hpi : p.ix = rs.next
        · have ha1 : Hid (a + 1 = rage (rs.ps.take (k + 1)) rs.next) := by show _ = _; unfold rage; rw [Hsn.out]; simp [isIx, hpi]
          have hdec : ((p.ix : Int) == (rs.next : Int)) = true := by simp [hpi]
          clear Hsn
          go_wp2
          go_roundw
          case rel => exact ⟨k + 1, a + 1, by omega, by omega, by go_num, by go_num, ha1, trivial⟩
          case measure => simp [intOf]; omega
        · have ha1 : Hid (a = rage (rs.ps.take (k + 1)) rs.next) := by show _ = _; unfold rage; rw [Hsn.out]; simp [isIx, hpi]
          have hdec : ((p.ix : Int) == (rs.next : Int)) = false := by simp; omega
          clear Hsn
          go_wp2
          go_roundw
          case rel => exact ⟨k + 1, a, by omega, by omega, by go_num, rfl, ha1, trivial⟩
          case measure => simp [intOf]; omega
      · obtain rfl : k = rs.ps.length := by omega
        have hm := Ha.out
        rw [List.take_length] at hm
        have Hm2 := hidIt hm
        clear Ha hm
        have Hp : Hid ((⟨rs.next, a, List.replicate m 0, List.replicate m false, false⟩ : RP) = rpiece rs m) := by
          show _ = _
          unfold rpiece
          rw [hix.out, Hm2.out]
        have Heq : Hid (({ rs with next := rs.next + 1, ps := rs.ps ++ [⟨rs.next, a, List.replicate m 0, List.replicate m false, false⟩] } : RS) = rnew rs m) := by
          show _ = _
          unfold rnew
          rw [Hp.out, Hfe.out]
          simp
        have Hel : Hid (es.length = rs.ps.length) := HR.out.len
        have Hk0 : Hid (Kp fp w wr) := by
          show Kp fp w wr
          rw [← HW.out]
          exact (Kp.setCell w (p := ⟨A, 3, none⟩) HfA.out _).drew
        have Hfp : Hid (∀ k, fp k → ext fp w wr k) := fun k hk => .inl hk
        have hAr : A < wr.heap.size := HR.out.fplt A HR.out.fpA
        have hm2 := make92 m (by omega)
        have hm3 := make93 m (by omega)
        go_wp2
        go_region
        all_goals
          generalize hW1 : World.drew _ = W1
          obtain ⟨hkW, hX, hY, hZ, hsW⟩ := three_at hW1
          obtain ⟨HL, e0, e1, e2, e3, e4⟩ := (by first
            | exact laid_of (by omega) hkW hX hY hZ (by omega) (by omega) (by omega)
            | exact laid_of (by omega) hkW hX hZ hY (by omega) (by omega) (by omega)
            | exact laid_of (by omega) hkW hY hX hZ (by omega) (by omega) (by omega)
            | exact laid_of (by omega) hkW hY hZ hX (by omega) (by omega) (by omega)
            | exact laid_of (by omega) hkW hZ hX hY (by omega) (by omega) (by omega)
            | exact laid_of (by omega) hkW hZ hY hX (by omega) (by omega) (by omega))
          have HkW := hidIt hkW
          have hRW := HR.out.kp hkW
          have d1W := hRW.cells.2.1
          have hAW : A < W1.heap.size := by omega
          clear hW1 hX hY hZ hkW hRW hsW
          go_wp2
          obtain ⟨i9, hi9, hz90, hz91, hz92⟩ := info_parts Try.info95
          go_region_law (first
            | (refine step_append_row _ rfl (.tmp 102) (.tmp 104) 70 rfl 95 i9 _ 5 72 Try.underlying70 hi9 hz90 hz91 hz92 rfl (by decide) _ es.length (pcells es) rfl (HR.out.kp (HkW.out.trans' (by repeat (first | exact Kp.refl _ _ | apply Kp.al | apply Kp.drew)))).prow _ 1 _ rfl (own_five (cs := pcell (⟨rs.next, a, List.replicate m 0, List.replicate m false, false⟩, _, _)) (by first | exact new_at rfl rfl | exact new_at rfl (by first | (simp; done) | (simp; omega))) rfl) (by simp [pcell, Value.oneCell']) (by rw [Hel.out]; unfold maxLen; omega) (by rw [Hel.out]; omega) ?_
               intro vp2 w2 ho2 hg2 hf2
               obtain ⟨⟨g2, cap2, rfl⟩, f1, fz1, hAb, ⟨g0, g1, gg2, g3, g4⟩, HD⟩ := get_push HR.out HL (by repeat (first | exact Kp.refl _ _ | apply Kp.al | apply Kp.drew)) ho2 hg2 hf2 Hk0.out Hfp.out Heq.out Hlt.out
               clear ho2 hg2 hf2))
          all_goals
            go_wp2_with fail
            refine (raddr_any ⟨rs.next, a, List.replicate m 0, List.replicate m false, false⟩ _ _ 0 _ (by show rs.next < 1000000; omega) (by show a < 1000000; omega) (by omega) (by omega)).mono ?_
            rintro e w3 ⟨rfl, hk3⟩
            rw [Int.add_zero]
            have HD3 := hidIt (HD.out w3 hk3)
            clear hk3 HD
            go_wp2
            go_ret2
            have hE : Ending.returned (.tuple #[.int .u64 (rfirst ⟨rs.next, a, List.replicate m 0, List.replicate m false, false⟩), .int .i64 0]) = .returned (.tuple #[.int .u64 (rfirst (rpiece rs m)), .int .i64 0]) := by rw [Hp.out]
            exact ⟨hE, HD3.out⟩
end Go.Proofs.Ytbjofdijhcdmaaa
