/-
  The walk of SlabCalls.
-/
import Derived.Test.YtbjofdijhcdmaaaROpen
import Derived.Test.YtbjofdijhcdmaaaRAgree
import Derived.Test.YtbjofdijhcdmaaaRCopy
namespace Go.Proofs.Ytbjofdijhcdmaaa
set_option linter.unusedVariables false
open Go.RowKit

/-- The slab, the document's slab and the list, all new behind W0; i calls were made. -/
def CS (W0 : World) (A R G i : Nat) (W : World) : Prop :=
  ∃ st rs L fS fR fG, Mem W A R G st rs L fS fR fG ∧ Sim i st rs ∧ Inv st ∧ Small st i ∧ L.length ≤ i ∧ (∀ k, tot fS fR fG k → W0.heap.size ≤ k) ∧ Below W0.heap.size W0 W
theorem CS.bel {W0 W : World} {A R G i : Nat} (h : CS W0 A R G i W) : Below W0.heap.size W0 W := by
  obtain ⟨st, rs, L, fS, fR, fG, _, _, _, _, _, _, hB⟩ := h
  exact hB
theorem kp_of_below {W W' : World} (h : Below W.heap.size W W') : Kp (fun _ => False) W W' := ⟨h.os, h.tape, h.output, h.size, fun k hk _ => h.block k hk⟩
theorem bel_kp {W0 W W' : World} (h : Below W0.heap.size W0 W) (k : Kp (fun _ => False) W W') : Below W0.heap.size W0 W' := h.trans (k.below h.size fun _ h => h.elim)
theorem CS.do_ {W0 W : World} {A R G i : Nat} (h : CS W0 A R G i W) (hi : i ≤ 1000) (d : Cd) (hd : d.fits) :
    Calls Try.prog 11 #[.pointer (some ⟨A, 0, none⟩), .pointer (some ⟨R, 0, none⟩), .agg #[.int .i64 d.i, .int .i64 d.o, .int .i64 d.n, .int .u64 d.b], .pointer (some ⟨G, 0, none⟩)] W fun e w' => e = .returned (.bool true) ∧ CS W0 A R G (i + 1) w' := by
  obtain ⟨st, rs, L, fS, fR, fG, hM, hs, hv, hm, hl, ht, hB⟩ := h
  refine (do_any hM hs hv hm (by omega) (by omega) d.i d.o d.n d.b hd.b0 hd.b1 hd.n0 hd.n1).mono ?_
  rintro e w' ⟨rfl, st', rs', L', fS', fR', fG', hM', hs', hv', hm', hl', hk, ht'⟩
  refine ⟨rfl, st', rs', L', fS', fR', fG', hM', hs', hv', hm', by omega, fun k hx => ?_, hB.trans (hk.below hB.size ht)⟩
  rcases ht' k hx with h1 | h1
  · exact ht k h1
  · exact Nat.le_trans hB.size h1
theorem CS.agree {W0 W : World} {A R G i : Nat} (h : CS W0 A R G i W) (hi : i ≤ 1000) :
    Calls Try.prog 12 #[.pointer (some ⟨A, 0, none⟩), .pointer (some ⟨R, 0, none⟩)] W fun e w' => e = .returned (.bool true) ∧ CS W0 A R G i w' := by
  obtain ⟨st, rs, L, fS, fR, fG, hM, hs, hv, hm, hl, ht, hB⟩ := h
  refine (agree_any hM.s hM.r hs hv hm (by omega)).mono ?_
  rintro e w' ⟨rfl, hb⟩
  exact ⟨rfl, st, rs, L, fS, fR, fG, hM.kp (kp_of_below hb), hs, hv, hm, hl, ht, bel_kp hB (kp_of_below hb)⟩

theorem CS.start {W0 w1 w2 : World} {n : Nat} (hn : n ≤ 16384) (hB : Below W0.heap.size W0 w1) (hR : Rep w2 w1.heap.size (newSl n) (ext (fun _ => False) w1 w2)) (hk : Kp (fun _ => False) w1 w2) :
    CS W0 w1.heap.size w2.heap.size (w2.heap.size + 1 + 1) 0 (((w2.alloc (.cells #[.int .i64 n, .slice none 0 0, .slice none 0 0, .int .i64 0] 72)).alloc (.cells #[] 23)).alloc (.cells #[.slice (some ⟨w2.heap.size + 1, 0, none⟩) 0 0] 34)) := by
  have hz := hk.size
  have hzB := hB.size
  have k2 : Kp (fun _ => False) w2 (((w2.alloc (.cells #[.int .i64 n, .slice none 0 0, .slice none 0 0, .int .i64 0] 72)).alloc (.cells #[] 23)).alloc (.cells #[.slice (some ⟨w2.heap.size + 1, 0, none⟩) 0 0] 34)) := (((Kp.refl _ _).al _).al _).al _
  have b0 : (((w2.alloc (.cells #[.int .i64 n, .slice none 0 0, .slice none 0 0, .int .i64 0] 72)).alloc (.cells #[] 23)).alloc (.cells #[.slice (some ⟨w2.heap.size + 1, 0, none⟩) 0 0] 34)).heap[w2.heap.size]? = some (.cells #[.int .i64 n, .slice none 0 0, .slice none 0 0, .int .i64 0] 72 (0, 0)) :=
    old_at (w := (w2.alloc _).alloc _) rfl (old_at (w := w2.alloc _) rfl (new_at rfl rfl) (by simp)) (by simp; omega)
  have b1 : (((w2.alloc (.cells #[.int .i64 n, .slice none 0 0, .slice none 0 0, .int .i64 0] 72)).alloc (.cells #[] 23)).alloc (.cells #[.slice (some ⟨w2.heap.size + 1, 0, none⟩) 0 0] 34)).heap[w2.heap.size + 1]? = some (.cells #[] 23 (0, 0)) :=
    old_at (w := (w2.alloc _).alloc _) rfl (new_at (w := w2.alloc _) rfl (by simp)) (by simp)
  have b2 : (((w2.alloc (.cells #[.int .i64 n, .slice none 0 0, .slice none 0 0, .int .i64 0] 72)).alloc (.cells #[] 23)).alloc (.cells #[.slice (some ⟨w2.heap.size + 1, 0, none⟩) 0 0] 34)).heap[w2.heap.size + 1 + 1]? = some (.cells #[.slice (some ⟨w2.heap.size + 1, 0, none⟩) 0 0] 34 (0, 0)) :=
    new_at (w := (w2.alloc _).alloc _) rfl (by simp)
  have hs3 : (((w2.alloc (.cells #[.int .i64 n, .slice none 0 0, .slice none 0 0, .int .i64 0] 72)).alloc (.cells #[] 23)).alloc (.cells #[.slice (some ⟨w2.heap.size + 1, 0, none⟩) 0 0] 34)).heap.size = w2.heap.size + 1 + 1 + 1 := by simp
  have hlt := hR.lt
  generalize (((w2.alloc (.cells #[.int .i64 n, .slice none 0 0, .slice none 0 0, .int .i64 0] 72)).alloc (.cells #[] 23)).alloc (.cells #[.slice (some ⟨w2.heap.size + 1, 0, none⟩) 0 0] 34)) = X at *
  have hr : RRep X w2.heap.size (newRs n) (fun k => k = w2.heap.size) := ⟨.slice none 0 0, .slice none 0 0, [],
    { head := b0
      fpA := rfl
      fplt := fun k hk => by rw [hs3]; omega
      prow := World.ownsRow_nil _ _ _ _
      fpP := fun k hk => by simp [Value.ownBlock] at hk
      free := World.ownsRow_nil _ _ _ _
      fpF := fun k hk => by simp [Value.ownBlock] at hk
      data := ⟨fun i e he => by simp at he, fun i e he => by simp at he, fun i j u v _ he => by simp at he, fun i j u v _ he => by simp at he⟩
      ps := rfl }⟩
  have hg : GRep X (w2.heap.size + 1 + 1) [] (fun k => k = w2.heap.size + 1 ∨ k = w2.heap.size + 1 + 1) := ⟨_,
    { box := b2
      row := own_none b1
      fpG := .inr rfl
      fpV := fun k hk => by simp [Value.ownBlock] at hk; exact .inl hk.symm
      lt := fun k hk => by rw [hs3]; rcases hk with h | h <;> omega }⟩
  have hs2 : Rep X w1.heap.size (newSl n) (ext (fun _ => False) w1 w2) := hR.other k2 (fun _ _ h => h)
  have hM : Mem X w1.heap.size w2.heap.size (w2.heap.size + 1 + 1) (newSl n) (newRs n) [] (ext (fun _ => False) w1 w2) (fun k => k = w2.heap.size) (fun k => k = w2.heap.size + 1 ∨ k = w2.heap.size + 1 + 1) := by
    refine ⟨hs2, hr, hg, fun k h1 h2 => ?_, fun k h1 h2 => ?_, fun k h1 h2 => ?_⟩
    · have := hlt k h1
      omega
    · have := hlt k h1
      rcases h2 with h | h <;> omega
    · rcases h2 with h | h <;> omega
  refine ⟨newSl n, newRs n, [], _, _, _, hM, newSim n, newSl_inv n hn, newSl_small n, Nat.le_refl _, ?_, bel_kp (bel_kp hB hk) k2⟩
  rintro k (hx | hx | hx | hx)
  · rcases hx with h | h
    · exact h.elim
    · omega
  · omega
  · omega
  · omega

theorem CAt.below {w W : World} {co : Option Addr} {cs : List Cd} (h : CAt w co cs) (hb : Below w.heap.size w W) : CAt W co cs := by
  intro j d hj
  obtain ⟨b, off, rfl, c0, c1, c2, c3, hf⟩ := h j d hj
  have key : ∀ i v, w.cell? ⟨b, i, none⟩ = some v → W.cell? ⟨b, i, none⟩ = some v := fun i v hc => (World.cell?_of_block (w := w) (hb.block b (World.block_lt_of_cell? w _ hc))).trans hc
  exact ⟨b, off, rfl, key _ _ c0, key _ _ c1, key _ _ c2, key _ _ c3, hf⟩
/-- The box of the last call. -/
theorem last_cells {w W : World} {d : Cd} (h : Below (w.alloc (cbox d.i d.o d.n d.b)).heap.size (w.alloc (cbox d.i d.o d.n d.b)) W) :
    W.cell? ⟨w.heap.size, 0, none⟩ = some (.int .i64 d.i) ∧ W.cell? ⟨w.heap.size, 1, none⟩ = some (.int .i64 d.o) ∧ W.cell? ⟨w.heap.size, 2, none⟩ = some (.int .i64 d.n) ∧ W.cell? ⟨w.heap.size, 3, none⟩ = some (.int .u64 d.b) := by
  have hb : W.heap[w.heap.size]? = some (cbox d.i d.o d.n d.b) := (h.block _ (by simp)).trans (heap_alloc_new w _)
  refine ⟨?_, ?_, ?_, ?_⟩ <;> simp [World.cell?, hb, cbox]
theorem below_box {w W : World} {o : Obj} (h : Below (w.alloc o).heap.size (w.alloc o) W) : Below w.heap.size w W := by
  have hs : (w.alloc o).heap.size = w.heap.size + 1 := by rw [World.size_alloc]
  exact ⟨h.os, h.tape, h.output, by have := h.size; omega, fun k hk => (h.block k (by omega)).trans (Below.heap_alloc w _ k hk)⟩

set_option maxRecDepth 100000 in
set_option maxHeartbeats 4000000 in
theorem calls_early (n : Int) (co : Option Addr) (m c : Nat) (last : Cd) (w : World) (hm : 100 < m) (hm2 : m ≤ 9223372036854775807) :
    Calls Try.prog 3 #[.int .i64 n, .slice co m c, last.val] w fun e w' => e = .returned (.bool true) ∧ Below w.heap.size w w' := by
  have ha := fun o => hidIt (alive_any (w.alloc o))
  go_enter Try.func3, Try.ntmps3
  unfold Cd.val
  go_wp2_with fail
  refine (ha _).out.mono ?_
  rintro e w1 ⟨rfl, hB⟩
  have HB := hidIt (below_box hB)
  clear ha hB
  go_wp2
  go_ret
  exact ⟨rfl, HB.out⟩

set_option maxRecDepth 100000 in
set_option maxHeartbeats 4000000 in
theorem calls_none (n : Int) (co : Option Addr) (m c : Nat) (last : Cd) (w : World) (hm : m ≤ 100) (hn : n < 0 ∨ 16384 < n) :
    Calls Try.prog 3 #[.int .i64 n, .slice co m c, last.val] w fun e w' => e = .returned (.bool true) ∧ Below w.heap.size w w' := by
  have ha := fun o => hidIt (alive_any (w.alloc o))
  have c9 := fun w => new_err n w hn
  have c10 := fun w => rnew_err n w hn
  clear hn
  go_enter Try.func3, Try.ntmps3
  unfold Cd.val
  go_wp2_with fail
  refine (ha _).out.mono ?_
  rintro e w1 ⟨rfl, hB⟩
  have HB := hidIt (below_box hB)
  clear ha hB
  go_wp2_with (first | (go_at_call 9; refine (c9 _).mono ?_; rintro e w' ⟨rfl, rfl⟩) | (go_at_call 10; refine (c10 _).mono ?_; rintro e w' ⟨rfl, rfl⟩))
  go_ret
  exact ⟨rfl, HB.out⟩

set_option maxRecDepth 100000 in
set_option maxHeartbeats 8000000 in
theorem calls_main (n : Nat) (hn : n ≤ 16384) (co : Option Addr) (cs : List Cd) (c : Nat) (last : Cd) (hlf : last.fits) (w : World) (hc : CAt w co cs) (hm : cs.length ≤ 100) :
    Calls Try.prog 3 #[.int .i64 n, .slice co cs.length c, last.val] w fun e w' => e = .returned (.bool true) ∧ Below w.heap.size w w' := by
  have ha := hidIt (alive_any (w.alloc (cbox last.i last.o last.n last.b)))
  have HC := hidIt (hc.below ((Below.refl _ w).alloc (Nat.le_refl _) (cbox last.i last.o last.n last.b)))
  have Hlast := hidIt fun W h => last_cells (w := w) (W := W) (d := last) h
  have Hbox := hidIt fun W h => below_box (w := w) (W := W) (o := cbox last.i last.o last.n last.b) h
  have HLF := hidIt hlf
  clear hc hlf
  go_enter Try.func3, Try.ntmps3
  unfold Cd.val
  go_wp2_with fail
  refine ha.out.mono ?_
  rintro e w1 ⟨rfl, hB⟩
  have HB := hidIt hB
  clear ha hB
  generalize (w.alloc (cbox last.i last.o last.n last.b)) = W0 at *
  have c9 := hidIt (new_any n w1 hn)
  go_wp2_with (go_at_call 9; refine c9.out.mono ?_)
  rintro e w2 ⟨rfl, hR, hk⟩
  have c10 := hidIt (rnew_ok (n : Int) w2 (by omega) (by omega))
  have HSt := hidIt (CS.start hn HB.out hR hk)
  clear hR hk c9
  go_wp2_with (go_at_call 10; refine c10.out.mono ?_)
  rintro e w3 ⟨rfl, rfl⟩
  clear c10
  go_wp2
  go_loopw [12] (fun i wr => ∃ k : Nat, k ≤ cs.length ∧ i = .int .i64 k ∧ Hid (CS W0 w1.heap.size w2.heap.size (w2.heap.size + 1 + 1) k wr)) (fun i _ => cs.length - (intOf i).toNat)
  case atStart => exact ⟨0, Nat.zero_le _, rfl, HSt.out⟩
  case round =>
    clear HSt
    generalize w1.heap.size = A at *
    generalize w2.heap.size + 1 + 1 = G at *
    generalize w2.heap.size = R at *
    obtain ⟨k, hk, rfl, HP⟩ := hrel
    by_cases hlt : k < cs.length
    · obtain ⟨bb, off, rfl, c0, c1, c2, c3, hf⟩ := HC.out.below HP.out.bel k cs[k] (by simp)
      have hdo := hidIt (HP.out.do_ (by omega) cs[k] hf)
      clear hf
      generalize cs[k] = d at *
      obtain ⟨di, do', dn, db⟩ := d
      simp only at c0 c1 c2 c3 hdo
      go_wp2_with (go_at_call 11; refine hdo.out.mono ?_)
      rintro e y1 ⟨rfl, hp1⟩
      have hag := hidIt (hp1.agree (by omega))
      clear hp1 hdo c0 c1 c2 c3 HP
      go_wp2_with (go_at_call 12; refine hag.out.mono ?_)
      rintro e y2 ⟨rfl, hp2⟩
      have HP2 := hidIt hp2
      clear hp2 hag
      go_wp2
      go_roundw
      case rel => exact ⟨k + 1, by omega, by go_num, HP2⟩
      case measure => simp [intOf]; omega
    · have hkc : k ≤ 100 := by omega
      have Hb := hidIt HP.out.bel
      obtain ⟨st, rs, L, fS, fR, fG, hM, hs, hv, hsm, hl, ht, hB⟩ := HP.out
      have hcl := hidIt (clone_any hM.s hv (hsm.mono (by omega)))
      have HM := hidIt hM
      have Hs := hidIt hs
      have Hv := hidIt hv
      have Hsm := hidIt hsm
      have Ht := hidIt ht
      clear HP hM hs hv hsm ht hB HC
      go_wp2_with (go_at_call 13; refine hcl.out.mono ?_)
      rintro e y1 ⟨C, rfl, hC1, hRC, hk1⟩
      have HM1 := hidIt (HM.out.kp hk1)
      have HRC := hidIt hRC
      have HB1 := hidIt (bel_kp Hb.out hk1)
      have hz1 := hk1.size
      have Hz1 := hidIt hz1
      clear hRC hk1 hcl hz1 hC1
      have c14 := fun m => hidIt (rcopy_any (HM1.out.kp (kpd y1 m)).r (Hs.out.ok Hv.out Hsm.out (by omega)))
      have HS : Hid (∀ W, Below W0.heap.size W0 W → W.cell? ⟨w.heap.size, 0, none⟩ = some (.int .i64 last.i) ∧ W.cell? ⟨w.heap.size, 1, none⟩ = some (.int .i64 last.o) ∧ W.cell? ⟨w.heap.size, 2, none⟩ = some (.int .i64 last.n) ∧ W.cell? ⟨w.heap.size, 3, none⟩ = some (.int .u64 last.b)) := Hlast.out
      obtain ⟨s0, s1, s2, s3⟩ := HS.out _ HB1.out
      have HA2 : Hid (∀ y2 R2, y1.heap.size ≤ R2 → RRep y2 R2 rs (fun j => y1.heap.size ≤ j ∧ j < y2.heap.size) → Kp (fun _ => False) (y1.drewN 1) y2 →
          Below W0.heap.size W0 y2 ∧ Calls Try.prog 11 #[.pointer (some ⟨C, 0, none⟩), .pointer (some ⟨R2, 0, none⟩), .agg #[.int .i64 last.i, .int .i64 last.o, .int .i64 last.n, .int .u64 last.b], .pointer (some ⟨G, 0, none⟩)] y2 fun e y3 => e = .returned (.bool true) ∧
            (Calls Try.prog 12 #[.pointer (some ⟨A, 0, none⟩), .pointer (some ⟨R, 0, none⟩)] y3 fun e y4 => e = .returned (.bool true) ∧ Below W0.heap.size W0 y4)) := fun y2 R2 hR2 hr2 hk2 => by
        have hk12 : Kp (fun _ => False) y1 y2 := (kpd y1 1).trans' hk2
        have hM2 := HM1.out.kp hk12
        have hB2 := bel_kp HB1.out hk12
        have hz12 := hk12.size
        have hzy := Hz1.out
        have hz0 := Hb.out.size
        have hC2 : Rep y2 C st (fun k => wr.heap.size ≤ k ∧ k < y1.heap.size) := HRC.out.other hk12 (fun _ _ h => h)
        have hltS := HM.out.s.lt
        have hltR := HM.out.r.lt
        have hltG := HM.out.g.lt
        have hMM : Mem y2 C R2 G st rs L (fun k => wr.heap.size ≤ k ∧ k < y1.heap.size) (fun j => y1.heap.size ≤ j ∧ j < y2.heap.size) fG :=
          ⟨hC2, hr2, hM2.g, fun k h1 h2 => by omega, fun k h1 h2 => by have := hltG k h2; omega, fun k h1 h2 => by have := hltG k h2; omega⟩
        refine ⟨hB2, (do_any hMM Hs.out Hv.out Hsm.out (by omega) (by omega) last.i last.o last.n last.b HLF.out.b0 HLF.out.b1 HLF.out.n0 HLF.out.n1).mono ?_⟩
        rintro e y3 ⟨rfl, _, _, _, _, _, _, _, _, _, _, _, hk3, _⟩
        have nS : ∀ k, fS k → ¬ tot (fun k => wr.heap.size ≤ k ∧ k < y1.heap.size) (fun j => y1.heap.size ≤ j ∧ j < y2.heap.size) fG k := fun k h1 h2 => by
          have := hltS k h1
          rcases h2 with h | h | h
          · omega
          · omega
          · exact HM.out.sg k h1 h
        have nR : ∀ k, fR k → ¬ tot (fun k => wr.heap.size ≤ k ∧ k < y1.heap.size) (fun j => y1.heap.size ≤ j ∧ j < y2.heap.size) fG k := fun k h1 h2 => by
          have := hltR k h1
          rcases h2 with h | h | h
          · omega
          · omega
          · exact HM.out.rg k h1 h
        have hB3 : Below W0.heap.size W0 y3 := hB2.trans (hk3.below hB2.size fun k h => by
          rcases h with h | h | h
          · omega
          · omega
          · exact Ht.out k (.inr (.inr h)))
        refine ⟨rfl, (agree_any (hM2.s.other hk3 nS) (hM2.r.other hk3 nR) Hs.out Hv.out Hsm.out (by omega)).mono ?_⟩
        rintro e y4 ⟨rfl, hb4⟩
        exact ⟨rfl, bel_kp hB3 (kp_of_below hb4)⟩
      clear HM HM1 HRC Hs Hv Hsm Ht Hb Hz1 HLF
      go_wp2_with fail
      go_region_with (first
        | (go_at_call 14; go_must (refine (c14 1).out.mono ?_); rintro e y2 ⟨R2, rfl, hR2, hr2, hk2⟩; obtain ⟨hB2, hdo⟩ := HA2.out y2 R2 hR2 hr2 hk2; obtain ⟨t0, t1, t2, t3⟩ := HS.out _ hB2; have HDo := hidIt hdo; clear hr2 hk2 hdo hB2 hR2)
        | (go_at_call 11; go_must (refine HDo.out.mono ?_); rintro e y3 ⟨rfl, hag⟩; have HAg := hidIt hag; clear hag)
        | (go_at_call 12; go_must (refine HAg.out.mono ?_); rintro e y4 ⟨rfl, hB4⟩; have HF := hidIt (Hbox.out _ hB4); clear hB4))
      all_goals go_wp2
      all_goals go_ret
      all_goals exact ⟨rfl, HF.out⟩

theorem calls_walk (n : Int) (hn : (Lit.int .i64 n).wf = true) (co : Option Addr) (cs : List Cd) (c : Nat) (last : Cd) (hlf : last.fits) {w : World} (hc : CAt w co cs) (hm : cs.length ≤ 9223372036854775807) :
    Calls Try.prog 3 #[.int .i64 n, .slice co cs.length c, last.val] w fun e w' => e = .returned (.bool true) ∧ Below w.heap.size w w' := by
  by_cases h : 100 < cs.length
  · exact calls_early n co cs.length c last w h hm
  · by_cases h2 : n < 0 ∨ 16384 < n
    · exact calls_none n co cs.length c last w (by omega) h2
    · obtain ⟨m, rfl⟩ : ∃ m : Nat, n = m := ⟨n.toNat, by omega⟩
      exact calls_main m (by omega) co cs c last hlf w hc (by omega)
end Go.Proofs.Ytbjofdijhcdmaaa
