/-
  The walk of do: one call, at the slab and at the document's slab.
-/
import Derived.Test.YtbjofdijhcdmaaaRTri
import Derived.Test.YtbjofdijhcdmaaaRFree
import Derived.Test.YtbjofdijhcdmaaaRGet3
import Derived.Test.YtbjofdijhcdmaaaRAll
import Derived.Deep.DeepCutAuto
import Derived.Deep.QuietTactic
import Derived.BigQuiet
namespace Go.Proofs.Ytbjofdijhcdmaaa
set_option linter.unusedVariables false
open Go.RowKit

/-- A call's struct, in a box. -/
def cbox (i o n b : Int) : Obj := .cells #[.int .i64 i, .int .i64 o, .int .i64 n, .int .u64 b] 25
/-- Behind the address's reckoning. -/
def ACut (W : World) (i o n b : Int) (v : Value) (wx : World) : Prop := ∃ a : Int, 0 ≤ a ∧ a < 18446744073709551616 ∧ v = .int .u64 a ∧ Kp (fun _ => False) (W.alloc (cbox i o n b)) wx
theorem ACut.cells {W wx : World} {i o n b : Int} {v : Value} (h : ACut W i o n b v wx) : wx.cell? ⟨W.heap.size, 0, none⟩ = some (.int .i64 i) ∧ wx.cell? ⟨W.heap.size, 2, none⟩ = some (.int .i64 n) := by
  obtain ⟨a, _, _, _, hk⟩ := h
  have hb : wx.heap[W.heap.size]? = some (cbox i o n b) := (hk.block _ (by simp) id).trans (heap_alloc_new W _)
  constructor <;> simp [World.cell?, hb, cbox]

theorem u64_range (x : Int) : 0 ≤ IntKind.u64.wrap x ∧ IntKind.u64.wrap x < 18446744073709551616 := by
  simp only [IntKind.wrap, IntKind.bits, IntKind.signed, Bool.false_and, Bool.false_eq_true, if_false]
  omega
/-- Behind the box's laying. -/
def KD (W : World) (i o n b : Int) (wx : World) : Prop := Kp (fun _ => False) (W.alloc (cbox i o n b)) wx
theorem KD.cell1 {W wx : World} {i o n b : Int} (hk : KD W i o n b wx) : wx.cell? ⟨W.heap.size, 1, none⟩ = some (.int .i64 o) := by
  have hb : wx.heap[W.heap.size]? = some (cbox i o n b) := (Kp.block hk _ (by simp) id).trans (heap_alloc_new W _)
  simp [World.cell?, hb, cbox]

set_option maxRecDepth 100000 in
set_option maxHeartbeats 8000000 in
theorem do_any {W : World} {A R G N : Nat} {st : Sl} {rs : RS} {L : List Int} {fS fR fG : Nat → Prop} (h : Mem W A R G st rs L fS fR fG) (hs : Sim N st rs) (hi : Inv st) (hm : Small st N) (hN : N ≤ 800000) (hL : L.length ≤ 100000)
    (i o n b : Int) (hb0 : 0 ≤ b) (hb1 : b < 18446744073709551616) (hn0 : -9223372036854775808 ≤ n) (hn1 : n ≤ 9223372036854775807) :
    Calls Try.prog 11 #[.pointer (some ⟨A, 0, none⟩), .pointer (some ⟨R, 0, none⟩), .agg #[.int .i64 i, .int .i64 o, .int .i64 n, .int .u64 b], .pointer (some ⟨G, 0, none⟩)] W (DoPost W A R G N L fS fR fG) := by
  have hg := h.g
  obtain ⟨vg, hg⟩ := hg
  obtain ⟨ag, cg, rfl, hgp, _⟩ := own_shape hg.row
  have hGl := hg.lt G hg.fpG
  have cG : W.cell? ⟨G, 0, none⟩ = some (.slice ag L.length cg) := by simp [World.cell?, hg.box]
  have HG := hidIt hg
  have HM := hidIt h
  have HS := hidIt hs
  have HI := hidIt hi
  have Hm := hidIt hm
  clear h hs hi hm hg
  go_enter Try.func11, Try.ntmps11
  go_upto_region 2 with fail
  go_cut [39] (fun c wx => c = .bool (decide (0 ≤ o) && decide (o < (L.length : Int))) ∧ KD W i o n b wx)
  case first =>
    clear HM HS HI Hm HG hgp
    have K1 : Hid (∀ m, KD W i o n b ((W.alloc (cbox i o n b)).drewN m)) := fun m => ⟨rfl, rfl, rfl, Nat.le_refl _, fun _ _ _ => rfl⟩
    by_cases ho0 : 0 ≤ o
    · have hd0 : decide (0 ≤ o) = true := decide_eq_true ho0
      by_cases ho1 : o < (L.length : Int)
      · have hd1 : decide (o < (L.length : Int)) = true := decide_eq_true ho1
        go_quiet (fail)
        go_wp2
        go_meet
        exact ⟨by rw [hd0, hd1]; rfl, K1.out _⟩
      · have hd1 : decide (o < (L.length : Int)) = false := decide_eq_false ho1
        go_quiet (fail)
        go_wp2
        go_meet
        exact ⟨by rw [hd0, hd1]; rfl, K1.out _⟩
    · have hd0 : decide (0 ≤ o) = false := decide_eq_false ho0
      go_quiet (fail)
      go_wp2
      go_meet
      exact ⟨by rw [hd0, Bool.false_and], K1.out _⟩
  case rest =>
  obtain ⟨rfl, hkd⟩ := hcut
  have HKD := hidIt hkd
  have cG1 : wc.cell? ⟨G, 0, none⟩ = some (.slice ag L.length cg) := (Kp.trans' (Kp.alloc _ W _) hkd).cell (p := ⟨G, 0, none⟩) cG id
  have cB1 := hkd.cell1
  clear hkd cG
  generalize wc = wd at *
  go_upto_if 39 with fail
  go_cut [9] (fun v wx => ACut W i o n b v wx)
  case first =>
    by_cases ho0 : 0 ≤ o ∧ o < (L.length : Int)
    · obtain ⟨ho0, ho1⟩ := ho0
      obtain ⟨q, rfl⟩ : ∃ q : Nat, o = q := ⟨o.toNat, by omega⟩
      have hq : q < L.length := by omega
      obtain ⟨g, rfl⟩ := hgp (by omega)
      have cq : wd.cell? ⟨g, q, none⟩ = some (.int .u64 L[q]) := (Kp.trans' (Kp.alloc _ W _) HKD.out).cell (p := ⟨g, q, none⟩) ((HG.out.row.cellAt q (by omega)).trans (by simp [gotCells, hq])) id
      generalize L[q] = y at cq
      have hd0 : decide (0 ≤ (q : Int)) = true := decide_eq_true ho0
      have hd1 : decide ((q : Int) < (L.length : Int)) = true := decide_eq_true ho1
      rw [hd0, hd1, Bool.and_self]
      have HA : Hid (∀ (m : Nat) (z : Int), 0 ≤ z → z < 18446744073709551616 → ACut W i q n b (.int .u64 z) (wd.drewN m)) := fun m z h0 h1 => ⟨z, h0, h1, rfl, Kp.trans' HKD.out (kpd wd m)⟩
      clear HG hgp HM HS HI Hm HKD hd0 hd1
      go_wp2
      go_quiet (fail)
      go_wp2
      go_meet
      exact HA.out _ _ (u64_range _).1 (u64_range _).2
    · have hd : (decide (0 ≤ o) && decide (o < (L.length : Int))) = false := by
        cases h1 : decide (0 ≤ o) with
        | false => rfl
        | true =>
          cases h2 : decide (o < (L.length : Int)) with
          | false => rfl
          | true => exact absurd ⟨of_decide_eq_true h1, of_decide_eq_true h2⟩ ho0
      rw [hd]
      have HA : Hid (ACut W i o n b (.int .u64 b) wd) := ⟨b, hb0, hb1, rfl, HKD.out⟩
      clear HG hgp HM HS HI Hm HKD hd ho0
      go_wp2
      go_meet
      exact HA.out
  case rest =>
    obtain ⟨q0, q2⟩ := hcut.cells
    obtain ⟨a, ha0, ha1, rfl, hk0⟩ := hcut
    have HK0 : Hid (Kp (fun _ => False) W wc) := (Kp.alloc _ W _).trans' hk0
    have hWc : W.heap.size < wc.heap.size := by have := hk0.size; simp at this; omega
    have HMc := hidIt (HM.out.kp HK0.out)
    have HnS : Hid (¬ fS W.heap.size) := fun e => by have := HM.out.s.lt _ e; omega
    have HnR : Hid (¬ fR W.heap.size) := fun e => by have := HM.out.r.lt _ e; omega
    clear hk0 cG1 cB1 hb0 hb1 HKD hgp
    by_cases e0 : i = 0
    · subst e0
      have c1 := hidIt (get_any HMc.out.s HI.out (Hm.out.mono (by omega)) n)
      have hsg := sim_get HS.out HI.out Hm.out n
      have Hsg := hidIt hsg.2
      have Hkeep := hidIt (mget_keep HI.out Hm.out n)
      clear hsg
      go_wp2_with (go_at_call 15; refine c1.out.mono ?_)
      rintro e w1 ⟨rfl, hd1⟩
      have q2' : w1.cell? ⟨W.heap.size, 2, none⟩ = some (.int .i64 n) := hd1.2.cell q2 HnS.out
      have c2 := hidIt (rget_any (HMc.out.slab hd1).r HS.out HI.out Hm.out (by omega) n)
      have HGw := hidIt ((HG.out.other HK0.out (fun _ _ h => h)).other hd1.2 (fun k hg hs => HM.out.sg k hs hg))
      have Hd1 := hidIt hd1
      clear hd1 c1 q0 q2
      go_wp2_with (go_at_call 25; refine c2.out.mono ?_)
      rintro e w2 ⟨rfl, hd2⟩
      have HG2 := hidIt (HGw.out.other hd2.2 (fun k hg hs => HM.out.rg k hs hg))
      have Hd2 := hidIt hd2
      clear hd2 c2 HGw q2'
      generalize (mget st n).2.1 = x
      generalize hc : (mget st n).2.2 = c
      have Hc := hidIt hc
      clear hc
      by_cases hc0 : c = 0
      · subst hc0
        have cG2 : w2.cell? ⟨G, 0, none⟩ = some (.slice ag L.length cg) := by simp [World.cell?, HG2.out.box]
        obtain ⟨i23, hi0, hz0, hz1, hz2⟩ := info_parts Try.info23
        go_wp2_with (at_builtin; go_must (refine wpList_append_row _ rfl (.tmp 72) (.tmp 74) 34 rfl 23 i23 _ 1 8 Try.underlying34 hi0 hz0 hz1 hz2 rfl (by decide) _ L.length (gotCells L) rfl (((Kp.refl _ _).al _).row HG2.out.row) _ 1 [.int .u64 x] rfl (own_one (new_at rfl rfl)) (by simp [Value.oneCell']) (by unfold maxLen; omega) (by omega) ?_))
        intro v3 w3 ho3 hg3 hf3
        obtain ⟨a3, cp3, rfl, _⟩ := own_shape ho3
        obtain ⟨cb, zb⟩ := HG2.out.boxed hg3
        obtain ⟨hgp3, hkp3⟩ := HG2.out.push ((Kp.refl _ _).al _) ho3 hg3 hf3
        have HF := hidIt (DoPost.all HM.out HK0.out Hd1.out Hd2.out ⟨_, hgp3⟩ hkp3 (by simp) Hsg.out Hkeep.out.1 Hkeep.out.2)
        clear hi0 hz0 hz1 hz2 ho3 hg3 hf3 hgp3 hkp3 HG2 Hd1 Hd2 Hsg Hkeep HM HS HI Hm HMc HK0 HnS HnR HG cG2
        go_wp2
        go_ret
        exact HF.out
      · have hcb : (c == 0) = false := by simpa using hc0
        have HF := hidIt (DoPost.both HM.out HK0.out Hd1.out Hd2.out Hsg.out Hkeep.out.1 Hkeep.out.2)
        clear HG2 Hd1 Hd2 Hsg Hkeep HM HS HI Hm HMc HK0 HnS HnR HG
        go_wp2
        go_ret
        exact HF.out
    by_cases e1 : i = 1
    · subst e1
      have c1 := hidIt (free_any HMc.out.s HI.out (Hm.out.mono (by omega)) a ha0 ha1)
      go_wp2_with (go_at_call 17; refine c1.out.mono ?_)
      rintro e w1 ⟨rfl, hd1⟩
      obtain ⟨rs', hs', c2⟩ := rfree_any (HMc.out.slab hd1).r HS.out HI.out Hm.out (by omega) a ha0 ha1
      have Hs' := hidIt hs'
      have C2 := hidIt c2
      have Hd1 := hidIt hd1
      clear hs' c2 hd1 c1 q0 q2
      go_wp2_with (go_at_call 26; refine C2.out.mono ?_)
      rintro e w2 ⟨rfl, hd2⟩
      have HF := hidIt (DoPost.both HM.out HK0.out Hd1.out hd2 Hs'.out.up (mfree_keep HI.out Hm.out a).1 ((mfree_keep HI.out Hm.out a).2.mono (by omega)))
      clear hd2 C2 Hs' Hd1 HM HS HI Hm HMc HK0 HnS HnR HG
      go_wp2
      go_ret
      exact HF.out
    by_cases e2 : i = 2
    · subst e2
      have c1 := hidIt (load_any HMc.out.s HI.out (Hm.out.mono (by omega)) a ha0 ha1)
      have c2 := hidIt (rload_any HMc.out.r HS.out HI.out Hm.out (by omega) a ha0 ha1)
      go_wp2_with (go_at_call 18; refine c1.out.mono ?_)
      rintro e w1 ⟨rfl, rfl⟩
      go_wp2_with (go_at_call 27; refine c2.out.mono ?_)
      rintro e w2 ⟨rfl, hk2⟩
      have HF := hidIt (DoPost.same HM.out HS.out HI.out Hm.out (HK0.out.trans' hk2))
      clear hk2 c1 c2 HM HS HI Hm HMc HK0 HnS HnR q0 q2 HG
      go_wp2
      go_ret
      exact HF.out
    by_cases e3 : i = 3
    · subst e3
      have c1 := fun m => hidIt (store_any (HMc.out.kp (kpd wc m)).s HI.out (Hm.out.mono (by omega)) a n ha0 ha1)
      have Hkeep := hidIt (mput_keep HI.out Hm.out a (n, true))
      go_wp2_with fail
      go_region_with (first
        | (go_at_call 16; go_must (refine (c1 1).out.mono ?_); rintro e w1 ⟨rfl, hd1⟩; obtain ⟨rs', hs', c2⟩ := rstore_any ((HMc.out.kp (kpd wc 1)).slab hd1).r HS.out HI.out Hm.out (by omega) a n ha0 ha1; have q2' : w1.cell? ⟨W.heap.size, 2, none⟩ = some (.int .i64 n) := hd1.2.cell (p := ⟨W.heap.size, 2, none⟩) (((kpd wc 1).cell (p := ⟨W.heap.size, 2, none⟩) q2 (fun h => h))) HnS.out; have Hs' := hidIt hs'; have C2 := hidIt c2; have Hd1 := hidIt hd1; clear hs' c2 hd1)
        | (go_at_call 28; go_must (refine C2.out.mono ?_); rintro e w2 ⟨rfl, hd2⟩; have HF := hidIt (DoPost.both HM.out (HK0.out.trans' (kpd wc 1)) Hd1.out hd2 Hs'.out.up Hkeep.out.1 (Hkeep.out.2.mono (by omega))); clear hd2))
      all_goals go_wp2
      all_goals go_ret
      all_goals exact HF.out
    by_cases e4 : i = 4
    · subst e4
      have c1 := hidIt (blank_any HMc.out.s HI.out (Hm.out.mono (by omega)) a ha0 ha1)
      go_wp2_with (go_at_call 21; refine c1.out.mono ?_)
      rintro e w1 ⟨rfl, hd1⟩
      obtain ⟨rs', hs', c2⟩ := rblank_any (HMc.out.slab hd1).r HS.out HI.out Hm.out (by omega) a ha0 ha1
      have Hs' := hidIt hs'
      have C2 := hidIt c2
      have Hd1 := hidIt hd1
      clear hs' c2 hd1 c1 q0 q2
      go_wp2_with (go_at_call 29; refine C2.out.mono ?_)
      rintro e w2 ⟨rfl, hd2⟩
      have HF := hidIt (DoPost.both HM.out HK0.out Hd1.out hd2 Hs'.out.up (mput_keep HI.out Hm.out a (0, false)).1 ((mput_keep HI.out Hm.out a (0, false)).2.mono (by omega)))
      clear hd2 C2 Hs' Hd1 HM HS HI Hm HMc HK0 HnS HnR HG
      go_wp2
      go_ret
      exact HF.out
    by_cases e5 : i = 5
    · subst e5
      have c1 := hidIt (off_any HMc.out.s HI.out (Hm.out.mono (by omega)) a n ha0 ha1)
      have c2 := hidIt (roff_any HMc.out.r HS.out HI.out Hm.out (by omega) a n ha0 ha1 hn0 hn1)
      go_wp2_with (go_at_call 20; refine c1.out.mono ?_)
      rintro e w1 ⟨rfl, rfl⟩
      go_wp2_with (go_at_call 30; refine c2.out.mono ?_)
      rintro e w2 ⟨rfl, hk2⟩
      have HF := hidIt (DoPost.same HM.out HS.out HI.out Hm.out (HK0.out.trans' hk2))
      clear hk2 c1 c2 HM HS HI Hm HMc HK0 HnS HnR q0 q2 HG
      go_wp2
      go_ret
      exact HF.out
    by_cases e6 : i = 6
    · subst e6
      have c1 := hidIt (size_any HMc.out.s HI.out (Hm.out.mono (by omega)) a ha0 ha1)
      have c2 := hidIt (rsize_any HMc.out.r HS.out HI.out Hm.out (by omega) a ha0 ha1)
      go_wp2_with (go_at_call 23; refine c1.out.mono ?_)
      rintro e w1 ⟨rfl, rfl⟩
      go_wp2_with (go_at_call 31; refine c2.out.mono ?_)
      rintro e w2 ⟨rfl, hk2⟩
      have HF := hidIt (DoPost.same HM.out HS.out HI.out Hm.out (HK0.out.trans' hk2))
      clear hk2 c1 c2 HM HS HI Hm HMc HK0 HnS HnR q0 q2 HG
      go_wp2
      go_ret
      exact HF.out
    go_wp2
    go_ret
    exact DoPost.same HM.out HS.out HI.out Hm.out HK0.out
end Go.Proofs.Ytbjofdijhcdmaaa
