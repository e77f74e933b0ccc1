/-
  The document's slab: Free.
-/
import Derived.Test.YtbjofdijhcdmaaaRTurn
namespace Go.Proofs.Ytbjofdijhcdmaaa
open Go.RowKit
set_option linter.unusedVariables false

/-- What the second part of Free works on. -/
structure FreeAt (W : World) (A g i n cap : Nat) (vf : Value) (l : List Nat) (x : Nat) : Prop where
  c1 : W.cell? ⟨A, 1, none⟩ = some (.slice (some ⟨g, 0, none⟩) n cap)
  c2 : W.cell? ⟨A, 2, none⟩ = some vf
  z2 : W.frozen? ⟨A, 2, none⟩ = false
  c5 : W.cell? ⟨g, i * 5, none⟩ = some (.int .i64 x)
  row : W.ownsRow 0 3 1 vf l.length (freeCells l)
theorem FreeAt.kp {W W' : World} {A g i n cap : Nat} {vf : Value} {l : List Nat} {x : Nat} (h : FreeAt W A g i n cap vf l x) (hk : Kp (fun _ => False) W W') : FreeAt W' A g i n cap vf l x :=
  ⟨hk.cell h.c1 id, hk.cell h.c2 id, (World.frozen?_of_block (w := W) (hk.block A (World.block_lt_of_cell? W _ h.c2) id)).trans h.z2, hk.cell h.c5 id, hk.row h.row⟩
theorem FreeAt.one {W Wx w1 : World} {A g i n cap b : Nat} {vf v1 : Value} {l m : List Nat} {x : Nat} (h : FreeAt W A g i n cap vf l x) (hk : Kp (fun _ => False) W Wx) (hb : W.heap.size ≤ b) (ho : w1.ownsRow 0 3 1 v1 (0 + m.length) ([] ++ freeCells m))
    (hg : Wx.grownBy w1 (Value.slice (some ⟨b, 0, none⟩) 0 0).ownBlock) (hf : freshOr Wx (.slice (some ⟨b, 0, none⟩) 0 0) v1) :
    Hid (Kp (fun _ => False) W w1) ∧ Hid (∀ k, v1.ownBlock = some k → W.heap.size ≤ k) ∧ Hid (w1.ownsRow 0 3 1 v1 m.length (freeCells m)) ∧ (∃ a1 cp1, v1 = .slice a1 m.length cp1) ∧ W.heap.size ≤ w1.heap.size ∧
    w1.cell? ⟨A, 1, none⟩ = some (.slice (some ⟨g, 0, none⟩) n cap) ∧ w1.cell? ⟨A, 2, none⟩ = some vf ∧ w1.frozen? ⟨A, 2, none⟩ = false ∧ w1.cell? ⟨g, i * 5, none⟩ = some (.int .i64 x) ∧ Hid (∀ k, k < Wx.heap.size → k ≠ b → w1.heap[k]? = Wx.heap[k]?) := by
  have hbb : ∀ k, (Value.slice (some ⟨b, 0, none⟩) 0 0).ownBlock = some k → W.heap.size ≤ k := by
    intro k hk
    simp [Value.ownBlock] at hk
    omega
  have hk1 := hk.gr hg hbb
  have hF1 := h.kp hk1
  rw [Nat.zero_add, List.nil_append] at ho
  obtain ⟨a1, cp1, e1, _⟩ := own_shape ho
  exact ⟨hk1, hf.new hk.size hbb, ho, ⟨a1, cp1, e1⟩, hk1.size, hF1.c1, hF1.c2, hF1.z2, hF1.c5, fun k h1 h2 => hg.block k h1 (fun e => by simp [Value.ownBlock] at e; exact h2 e)⟩

theorem FreeAt.two {W w1 Wx w2 : World} {A g i n cap : Nat} {vf v1 v2 : Value} {l : List Nat} {x : Nat} (h : FreeAt W A g i n cap vf l x) (hk0 : Hid (Kp (fun _ => False) W w1)) (hn : Hid (∀ k, v1.ownBlock = some k → W.heap.size ≤ k)) (hk : Kp (fun _ => False) w1 Wx) (ho : w2.ownsRow 0 3 1 v2 (l.length + 1) (freeCells l ++ [.int .i64 x]))
    (hg : Wx.grownBy w2 v1.ownBlock) (hf : freshOr Wx v1 v2) :
    w2.cell? ⟨A, 2, none⟩ = some vf ∧ w2.frozen? ⟨A, 2, none⟩ = false ∧ (∃ a2 cp2, v2 = .slice a2 (l.length + 1) cp2) ∧ Hid (NewFree W A (l ++ [x]) (w2.setCell ⟨A, 2, none⟩ v2)) := by
  have hk1 : Kp (fun _ => False) W Wx := hk0.out.trans' hk
  have hk2 := hk1.gr hg hn.out
  have hF := h.kp hk2
  obtain ⟨a1, cp1, e1, _⟩ := own_shape ho
  refine ⟨hF.c2, hF.z2, ⟨a1, cp1, e1⟩, v2, w2, hk2, ?_, hf.new hk1.size hn.out, rfl⟩
  have e : freeCells (l ++ [x]) = freeCells l ++ [.int .i64 x] := by simp [freeCells]
  rw [e, List.length_append]
  exact ho

set_option maxRecDepth 100000 in
set_option maxHeartbeats 4000000 in
theorem rfree_walk (A : Nat) (a : Int) (w : World) (i g n cap : Nat) (hi : i < n) (hn : n ≤ 900000) (hf : Hid (FindGood w A a i 0)) (vf : Value) (l : List Nat) (hnf : l.length ≤ 900000) (x : Nat) (hx : x ≤ 900000)
    (hw : Hid (∀ w', Kp (fun _ => False) w w' → w'.cell? ⟨A, 1, none⟩ = some (.slice (some ⟨g, 0, none⟩) n cap) ∧ w'.cell? ⟨g, i * 5 + 4, none⟩ = some (.bool false) ∧ w'.frozen? ⟨g, i * 5 + 4, none⟩ = false ∧ FreeAt (w'.setCell ⟨g, i * 5 + 4, none⟩ (.bool true)) A g i n cap vf l x)) (hgA : A ≠ g) :
    Calls Try.prog 26 #[.pointer (some ⟨A, 0, none⟩), .int .u64 a] w fun e w' => e = .returned (.int .i64 0) ∧ ∃ w1, Kp (fun _ => False) w w1 ∧ NewFree (w1.setCell ⟨g, i * 5 + 4, none⟩ (.bool true)) A (l ++ [x]) w' := by
  go_enter Try.func26, Try.ntmps26
  go_wp2_with fail
  refine hf.out.mono ?_
  rintro e w' ⟨rfl, hK⟩
  obtain ⟨c1, c2, c3, hF⟩ := hw.out w' hK
  have HF := hidIt hF
  have HK := hidIt hK
  clear hw hf hK hF
  go_wp2
  generalize hW : w'.setCell ⟨g, i * 5 + 4, none⟩ (.bool true) = W at *
  have HW := hidIt hW
  clear hW c1 c2 c3
  obtain ⟨d1, d2, dz, d5, hrow⟩ := id HF.out
  obtain ⟨af, cf, rfl, _⟩ := own_shape hrow
  have hAl := World.block_lt_of_cell? W _ d2
  have hgl := World.block_lt_of_cell? W _ d5
  simp only at hAl hgl
  clear hrow
  obtain ⟨i3, hi3, hz30, hz31, hz32⟩ := info_parts Try.info3
  go_region_law (first
    | (refine step_append_row _ rfl (.tmp 28) (.tmp 32) 41 rfl 3 i3 _ 1 8 Try.underlying41 hi3 hz30 hz31 hz32 rfl (by decide) _ 0 [] rfl (own_none (by first | exact new_at rfl rfl | exact new_at rfl (by first | (simp; done) | (simp; omega)) | exact old_at rfl (new_at rfl rfl) (by first | (simp; done) | (simp; omega)) | exact old_at rfl (new_at rfl (by first | (simp; done) | (simp; omega))) (by first | (simp; done) | (simp; omega)))) _ l.length (freeCells l) rfl (HF.out.kp (by repeat (first | exact Kp.refl _ _ | apply Kp.al | apply Kp.drew))).row (freeCells_one l) (by unfold maxLen; omega) (by omega) ?_
       intro v1 w1 ho1 hg1 hf1
       obtain ⟨HK1, HN1, HO1, ⟨a1, cp1, rfl⟩, hs1, d1', d2', dz', d5', HG1⟩ := HF.out.one (by repeat (first | exact Kp.refl _ _ | apply Kp.al | apply Kp.drew)) (by first | exact Nat.le_refl _ | simp) ho1 hg1 hf1
       clear hg1 hf1 ho1)
    | (refine step_append_row _ rfl (.tmp 33) (.tmp 42) 41 rfl 3 i3 _ 1 8 Try.underlying41 hi3 hz30 hz31 hz32 rfl (by decide) _ l.length (freeCells l) rfl ((show Kp (fun _ => False) w1 _ from by repeat (first | exact Kp.refl _ _ | apply Kp.al | apply Kp.drew)).row HO1.out) _ 1 [.int .i64 x] rfl (own_one (by first | exact new_at rfl rfl | exact (HG1.out _ (by first | (simp; done) | (simp; omega)) (by first | exact Nat.succ_ne_self _ | exact (Nat.succ_ne_self _).symm | (simp; done) | (simp; omega))).trans (by first | exact new_at rfl rfl | exact new_at rfl (by first | (simp; done) | (simp; omega)) | exact old_at rfl (new_at rfl rfl) (by first | (simp; done) | (simp; omega)) | exact old_at rfl (new_at rfl (by first | (simp; done) | (simp; omega))) (by first | (simp; done) | (simp; omega))))) (by simp [Value.oneCell']) (by unfold maxLen; omega) (by omega) ?_
       intro v2 w2 ho2 hg2 hf2
       obtain ⟨e2, ez2, ⟨a2, cp2, rfl⟩, HNF⟩ := HF.out.two HK1 HN1 (by repeat (first | exact Kp.refl _ _ | apply Kp.al | apply Kp.drew)) ho2 hg2 hf2
       clear ho2 hg2 hf2))
  all_goals go_wp2
  all_goals go_ret
  all_goals exact ⟨rfl, w', HK.out, by rw [HW.out]; exact HNF.out⟩

section
variable {w : World} {A N : Nat} {st : Sl} {rs : RS} {fp : Nat → Prop}
set_option maxHeartbeats 400000 in
theorem rfree_err (a : Int) (c : Nat) (hc : ((c : Int) != 0) = true) (hf : Hid (FindErr w A a c)) :
    Calls Try.prog 26 #[.pointer (some ⟨A, 0, none⟩), .int .u64 a] w fun e w' => e = .returned (.int .i64 c) ∧ Kp (fun _ => False) w w' := by
  obtain ⟨i, k, hf⟩ := hf.out
  have Hf := hidIt hf
  clear hf
  go_enter Try.func26, Try.ntmps26
  go_wp2_with (go_at_call 47; go_must (refine Hf.out.mono ?_); rintro e w' ⟨rfl, hK⟩)
  go_ret
  exact ⟨rfl, hK⟩
set_option maxHeartbeats 400000 in
theorem rfree_inner (a : Int) (i j : Nat) (hj : ((j : Int) != 0) = true) (hf : Hid (FindGood w A a i j)) :
    Calls Try.prog 26 #[.pointer (some ⟨A, 0, none⟩), .int .u64 a] w fun e w' => e = .returned (.int .i64 11) ∧ Kp (fun _ => False) w w' := by
  go_enter Try.func26, Try.ntmps26
  go_wp2_with (go_at_call 47; go_must (refine hf.out.mono ?_); rintro e w' ⟨rfl, hK⟩)
  go_ret
  exact ⟨rfl, hK⟩

theorem rfree_any (h : RRep w A rs fp) (hS : Sim N st rs) (hv : Inv st) (hs : Small st N) (hN : N ≤ 900000) (a : Int) (h0 : 0 ≤ a) (h1 : a < 18446744073709551616) :
    ∃ rs', Sim N (mfree st a).1 rs' ∧ Calls Try.prog 26 #[.pointer (some ⟨A, 0, none⟩), .int .u64 a] w fun e w' => e = .returned (.int .i64 (mfree st a).2) ∧ RDid w A rs' fp w' := by
  rcases rfind_sim h hS hv hs hN a h0 h1 with ⟨hc, hf⟩ | ⟨hc, i, p, hp, hh, hfr, hf⟩
  · have em : mfree st a = (st, (mfind st a : Int)) := by simp [mfree, hc]
    rw [em]
    refine ⟨rs, hS, (rfree_err a _ (by rw [bne_iff_ne]; omega) hf).mono ?_⟩
    rintro _ w' ⟨rfl, hk⟩
    exact ⟨rfl, RDid.kp h hk⟩
  · obtain ⟨x1, x2, x3, x4, x5⟩ := hS.hit_parts hv hs hN hp hh
    by_cases hpl : plc a = 0
    · obtain ⟨hz, hS'⟩ := sim_free hS hv hs hN hp hh hfr (by omega)
      rw [hz]
      refine ⟨_, hS', ?_⟩
      obtain ⟨vp, vf, es, hR⟩ := h
      have hok := hS.ok hv hs hN
      obtain ⟨q1, q2, q3, q4, q5⟩ := hok.piece p (List.mem_of_getElem? hp)
      obtain ⟨g, cap, gv, cv, gh, ch, hu, rfl, hw⟩ := hR.seen hok hp
      rw [hpl] at hf
      have hgA : A ≠ g := fun e => own_ne hR.prow hR.head (by decide) (by rw [e]; rfl)
      refine (rfree_walk A a w i g rs.ps.length cap (List.getElem?_eq_some_iff.1 hp).1 hok.len hf vf rs.free hok.free p.ix (by omega) (hidIt fun w' hk => ?_) hgA).mono ?_
      · obtain ⟨d0, d1, d2, d3, d4, d5, _⟩ := hw w' hk
        rw [hfr] at d5
        have hR' := hR.kp hk
        have hF := hR'.setFreed hu
        refine ⟨d0, d5, hR'.pfrz _, hF.cells.2.1, hF.cells.2.2.1, hF.frz 2, ?_, hF.free⟩
        have hi : i < es.length := (List.getElem?_eq_some_iff.1 hu).1
        exact (hF.cell (i := i) (e := (rfreed p, _, _)) (by rw [List.getElem?_set, if_pos rfl, if_pos hi])).1
      · rintro _ w' ⟨rfl, w1, hk1, hn⟩
        refine ⟨rfl, ?_⟩
        have hF := (hR.kp hk1).setFreed hu
        obtain ⟨⟨v, hR2⟩, hk2⟩ := hF.newFree hn
        have hk3 : Kp fp w (w1.setCell ⟨g, i * 5 + 4, none⟩ (.bool true)) := hk1.of_false.trans' (Kp.setCell _ (p := ⟨g, i * 5 + 4, none⟩) (hR.fpP g rfl) _)
        have hsz : (w1.setCell ⟨g, i * 5 + 4, none⟩ (.bool true)).heap.size = w1.heap.size := by simp [World.setCell]
        refine ⟨⟨_, _, _, hR2.mono (fun k hx => ?_) (ext_lt hR.fplt (hk3.trans' hk2).size)⟩, hk3.trans' hk2⟩
        rcases hx with hx | hx
        · exact .inl hx
        · exact .inr ⟨Nat.le_trans hk3.size hx.1, hx.2⟩
    · have em : mfree st a = (st, 11) := by simp [mfree, hc, hpl]
      rw [em]
      refine ⟨rs, hS, (rfree_inner a i (plc a) (by rw [bne_iff_ne]; omega) hf).mono ?_⟩
      rintro _ w' ⟨rfl, hk⟩
      exact ⟨rfl, RDid.kp h hk⟩
end
end Go.Proofs.Ytbjofdijhcdmaaa
