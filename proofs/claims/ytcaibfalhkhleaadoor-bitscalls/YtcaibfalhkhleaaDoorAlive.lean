/-
  alive: it answers true.
-/
import Derived.Test.YtcaibfalhkhleaaDoorStage
namespace Go.Proofs.YtcaibfalhkhleaaDoor
set_option linter.unusedVariables false
open Go.RowKit Go.Shelf
attribute [local go_sem] Oper.semAt_some

/-- The digits of a row. -/
def valN (l : List Nat) : Int := l.foldl (fun (a : Int) (x : Nat) => a * 10 + x) 0

set_option maxRecDepth 100000 in
set_option maxHeartbeats 4000000 in
theorem alive_in (n : Nat) (hn : Hid (3 ≤ n)) (w : World) (hT : Tab w) : CallsIn Fence.wide n Tryd.prog 8 #[] w fun e w' => e = .returned (.bool true) ∧ Below w.heap.size w w' := by
  refine callsIn_of_wp_marks Tryd.func8 rfl trivial ?_ rfl
  simp only [Tryd.ntmps8, List.size_toArray, List.length_nil, Nat.reduceSub, Array.replicate_succ, Array.replicate_zero, List.push_toArray, List.append_toArray, List.nil_append, List.cons_append]
  have HT := hidIt hT
  clear hT
  gi_wp2_with fail
  have h1 := new_any 5 _ [3, 9, 1] 3 _ (LAt.new w [3, 9, 1]) (by simp)
  rw [c5.1] at h1
  refine at_wide (h1.mono ?_)
  rintro e w1 ⟨As, gs, rfl, hA1, hg1, hs, hk⟩
  have hz1 : w.heap.size < w1.heap.size := by have := hk.size; simp at this; omega
  have HS : Hid (SetAt w1 As gs 5 a1p ∧ Below w.heap.size w w1 ∧ w.heap.size ≤ gs) := ⟨hs, bOn0 ((Below.refl _ w).alloc (Nat.le_refl _) _) hk, by simp at hg1; omega⟩
  clear h1 hs hk hA1 hg1
  gi_wp2_with fail
  have h1 := new_any 70 _ [64, 3, 2] 3 _ (LAt.new w1 [64, 3, 2]) (by simp)
  rw [c5.2.1] at h1
  refine at_wide (h1.mono ?_)
  rintro e w2 ⟨Ao, go, rfl, hA1, hg1, hs, hk⟩
  have HO : Hid (SetAt w2 As gs 5 a1p ∧ SetAt w2 Ao go 70 o1p ∧ Below w.heap.size w w2 ∧ w.heap.size ≤ gs ∧ w.heap.size ≤ go ∧ gs ≠ go) := by
    have hg := HS.out.1.ltg
    simp at hg1
    have hk1 : Kp (fun _ => False) w1 (w1.alloc (.cells (([64, 3, 2] : List Int).map (Value.int .i64)).toArray 3)) := (Kp.refl _ w1).alloc _
    exact ⟨(HS.out.1.grown hk1).grown hk, hs, bOn0 (bOn0 HS.out.2.1 hk1) hk, HS.out.2.2, by omega, by omega⟩
  clear h1 hs hk hA1 hg1 HS hz1
  gi_wp2_with fail
  refine at_wide ((clone_any HO.out.1).mono ?_)
  rintro e w3 ⟨Ac, gc, rfl, hA1, hg1, hs, hk⟩
  have HA : Hid (Al w As gs Ao go Ac gc a1p o1p a1p w3) := by
    have h1 := HO.out.1.ltg
    have h2 := HO.out.2.1.ltg
    have h3 := HO.out.2.2.1.size
    exact ⟨HO.out.1.grown hk, HO.out.2.1.grown hk, hs, bOn0 HO.out.2.2.1 hk, HO.out.2.2.2.2.2, by omega, by omega, HO.out.2.2.2.1, HO.out.2.2.2.2.1, by omega⟩
  clear hs hk hA1 hg1 HO
  gi_wp2_with fail
  have h1 := add_any HA.out.s 4
  rw [f1] at h1
  refine at_wide (h1.mono ?_)
  rintro e w4 ⟨rfl, hs, hk⟩
  have HB : Hid (Al w As gs Ao go Ac gc a2p o1p a1p w4) := HA.out.onS hs hk
  clear h1 hs hk HA
  gi_wp2_with fail
  have h1 := add_any HB.out.s 4
  rw [f2] at h1
  refine at_wide (h1.mono ?_)
  rintro e w5 ⟨rfl, hs, hk⟩
  have HA : Hid (Al w As gs Ao go Ac gc a3p o1p a1p w5) := HB.out.onS hs hk
  clear h1 hs hk HB
  gi_wp2_with fail
  have h1 := add_any HA.out.s 5
  rw [f3] at h1
  refine at_wide (h1.mono ?_)
  rintro e w6 ⟨rfl, hs, hk⟩
  have HB : Hid (Al w As gs Ao go Ac gc a4p o1p a1p w6) := HA.out.onS hs hk
  clear h1 hs hk HA
  gi_wp2_with fail
  have h1 := join_any HB.out.s HB.out.o
  rw [show chg 5 a4p (opP (fun x y => x || y) 5 a4p o1p) = true from f4] at h1
  refine at_wide (h1.mono ?_)
  rintro e w7 ⟨rfl, hs, hk⟩
  have HA : Hid (Al w As gs Ao go Ac gc a5p o1p a1p w7) := HB.out.onS hs hk
  clear h1 hs hk HB
  gi_wp2_with fail
  have h1 := cut_any HA.out.s 2
  rw [f5] at h1
  refine at_wide (h1.mono ?_)
  rintro e w8 ⟨rfl, hs, hk⟩
  have HB : Hid (Al w As gs Ao go Ac gc a6p o1p a1p w8) := HA.out.onS hs hk
  clear h1 hs hk HA
  gi_wp2_with fail
  have h1 := meet_any HB.out.s HB.out.o
  rw [show chg 5 a6p (opP (fun x y => x && y) 5 a6p o1p) = true from f6] at h1
  refine at_wide (h1.mono ?_)
  rintro e w9 ⟨rfl, hs, hk⟩
  have HA : Hid (Al w As gs Ao go Ac gc a7p o1p a1p w9) := HB.out.onS hs hk
  clear h1 hs hk HB
  gi_wp2_with fail
  refine at_wide ((all_any _ _).mono ?_)
  rintro e w' ⟨rfl, rfl⟩
  gi_wp2_with fail
  have hkx : Kp (fun _ => False) w9 ((w9.alloc (.cells #[.int .i64 0] 3)).alloc (.cells #[.pointer (some ⟨As, 0, none⟩)] 28)) := ((Kp.refl _ w9).alloc _).alloc _
  have hBx : Box ((w9.alloc (.cells #[.int .i64 0] 3)).alloc (.cells #[.pointer (some ⟨As, 0, none⟩)] 28)) w9.heap.size 3 (.int .i64 0) := (Below.heap_alloc _ _ _ (by simp)).trans (heap_new w9 _)
  have hPx : ((w9.alloc (.cells #[.int .i64 0] 3)).alloc (.cells #[.pointer (some ⟨As, 0, none⟩)] 28)).cell? ⟨w9.heap.size + 1, 0, none⟩ = some (.pointer (some ⟨As, 0, none⟩)) := by simp
  have hzx : ((w9.alloc (.cells #[.int .i64 0] 3)).alloc (.cells #[.pointer (some ⟨As, 0, none⟩)] 28)).heap.size = w9.heap.size + 2 := by simp
  generalize (w9.alloc (.cells #[.int .i64 0] 3)).alloc (.cells #[.pointer (some ⟨As, 0, none⟩)] 28) = Wx at *
  have hA2 : Al w As gs Ao go Ac gc a7p o1p a1p Wx := HA.out.grow hkx
  have hseq := all1_seq (n - 1) (w9.heap.size + 1) As gs 5 a7p (by have := hn.out; omega) Wx hPx hA2.s
  rw [f7] at hseq
  have h1n : 1 ≤ n := by have := hn.out; omega
  have HX : Hid (∀ W, Kp (fun k => k = w9.heap.size) Wx W → Al w As gs Ao go Ac gc a7p o1p a1p W) := fun W k => HA.out.old (Kp.onNew hkx k fun i hi => by omega)
  have Hsq := hidIt hseq
  have HBx := hidIt hBx
  clear hkx hBx hPx hA2 hseq HA
  apply rangeG (n := n) h1n (gf := 44) (lb := #[.pointer (some ⟨w9.heap.size + 1, 0, none⟩)]) rfl (enters_of Tryd.func44 (by kernel_rfl) rfl) Hsq.out (Below.refl _ _) (fun _ => rfl)
    (fun pre G W => Own1 Wx (fun k => k = w9.heap.size) G W ∧ Box W w9.heap.size 3 (.int .i64 (valN pre))) (fun _ _ _ _ => False)
    (sepBox (v := fun pre => .int .i64 (valN pre)) (by omega)) (fun _ _ _ _ _ _ h _ _ => h) (fun s G W h => HT.out.below (HX.out W h.1.1).bel) ⟨Own1.start _ _, HBx.out⟩
  case hassign =>
    intro l2 x2 W2 K2 hK2
    have HK2 := hidIt hK2
    clear hK2
    simp only [encN]
    gi_wp2
    exact HK2.out
  case hbody =>
    rintro l2 pre x2 G W2 ⟨hO, hB⟩ hpre
    have hp : pre = [] ∧ x2 = 3 := by
      cases pre with
      | nil => simpa using hpre
      | cons a t =>
        have := hpre.length_le
        simp at this
    obtain ⟨rfl, rfl⟩ := hp
    have hc : W2.cell? ⟨w9.heap.size, 0, none⟩ = some (.int .i64 0) := hB.cell
    have hf := hB.frz
    have HO := hidIt hO
    have HB := hidIt hB
    clear hO hB hpre
    gi_wp2
    refine ⟨Kept.of_kp ((Kp.refl (fun k => k = w9.heap.size) W2).setG _ _) (fun k hG e => ?_), ⟨HO.out.1.setG _ _, HO.out.2⟩, HB.out.set _⟩
    subst e
    have := HO.out.2 _ hG
    omega
  case hdone =>
    rintro D G W2 hD hGD ⟨hO, hB⟩ hDo
    have HA : Hid (Al w As gs Ao go Ac gc a7p o1p a1p W2 ∧ Box W2 w9.heap.size 3 (.int .i64 3) ∧ W2.heap[D]? = some (.deferred (some [])) ∧ w.heap.size ≤ D) := ⟨HX.out W2 hO.1, hB, hDo, by have := (HX.out W2 hO.1).bel.size; have h9 := (HX.out Wx (Kp.refl _ _)).bel.size; omega⟩
    clear hO hB hDo hGD HX Hsq HBx h1n
    gi_wp2_with fail
    have h1 := less_any HA.out.1.o HA.out.1.s
    rw [show chg 70 o1p (opP (fun x y => x && !y) 70 o1p a7p) = true from f8] at h1
    refine at_wide (h1.mono ?_)
    rintro e w10 ⟨rfl, hs, hk⟩
    have HB : Hid (Al w As gs Ao go Ac gc a7p o2p a1p w10 ∧ Box w10 w9.heap.size 3 (.int .i64 3) ∧ w10.heap[D]? = some (.deferred (some [])) ∧ w.heap.size ≤ D) := ⟨HA.out.1.onO hs hk, keepObj HA.out.2.1 HA.out.1.o hk (by simp), keepObj HA.out.2.2.1 HA.out.1.o hk (by simp), HA.out.2.2.2⟩
    clear h1 hs hk HA
    gi_wp2_with fail
    have h1 := len_any HB.out.1.c
    rw [f9] at h1
    refine at_wide (h1.mono ?_)
    rintro e w' ⟨rfl, rfl⟩
    clear h1
    gi_wp2_with fail
    refine at_wide ((fill_any HB.out.1.c).mono ?_)
    rintro e w11 ⟨rfl, hs, hk⟩
    have HA : Hid (Al w As gs Ao go Ac gc a7p o2p (fullP 5) w11 ∧ Box w11 w9.heap.size 3 (.int .i64 3) ∧ w11.heap[D]? = some (.deferred (some [])) ∧ w.heap.size ≤ D) := ⟨HB.out.1.onC hs hk, keepObj HB.out.2.1 HB.out.1.c hk (by simp), keepObj HB.out.2.2.1 HB.out.1.c hk (by simp), HB.out.2.2.2⟩
    have hcN : w11.cell? ⟨w9.heap.size, 0, none⟩ = some (.int .i64 3) := HA.out.2.1.cell
    clear hs hk HB
    gi_wp2_with fail
    have h1 := len_any HA.out.1.o
    rw [f10] at h1
    refine at_wide (h1.mono ?_)
    rintro e w' ⟨rfl, rfl⟩
    clear h1
    gi_wp2_with fail
    have h1 := has_any HA.out.1.o 64
    rw [f11] at h1
    refine at_wide (h1.mono ?_)
    rintro e w' ⟨rfl, m1, rfl⟩
    clear h1
    gi_wp2_with fail
    have h1 := has_any (HA.out.1.o.drewN m1) 3
    rw [f12] at h1
    refine at_wide (h1.mono ?_)
    rintro e w' ⟨rfl, m2, rfl⟩
    have HB : Hid (Al w As gs Ao go Ac gc a7p o2p (fullP 5) ((w11.drewN m1).drewN m2) ∧ ((w11.drewN m1).drewN m2).heap[D]? = some (.deferred (some [])) ∧ w.heap.size ≤ D) := ⟨HA.out.1.grow (((Kp.refl _ _).drewN m1).drewN m2), HA.out.2.2⟩
    clear h1 HA hcN
    generalize (w11.drewN m1).drewN m2 = w12 at *
    gi_wp2_with fail
    have h1 := len_any HB.out.1.c
    rw [f13] at h1
    refine at_wide (h1.mono ?_)
    rintro e w' ⟨rfl, rfl⟩
    clear h1
    gi_wp2_with fail
    refine at_wide ((bound_any As 5 _ HB.out.1.s.bound).mono ?_)
    rintro e w' ⟨rfl, rfl⟩
    gi_wp2_with fail
    have h1 := apart_any HB.out.1.s HB.out.1.o
    rw [f14] at h1
    refine at_wide (h1.mono ?_)
    rintro e w13 ⟨rfl, hk⟩
    have HA : Hid (Al w As gs Ao go Ac gc a7p o2p (fullP 5) w13 ∧ w13.heap[D]? = some (.deferred (some [])) ∧ w.heap.size ≤ D) := ⟨HB.out.1.grow hk, hk.at HB.out.2.1 (fun h => h), HB.out.2.2⟩
    clear h1 HB hk
    gi_wp2_with fail
    have h1 := new_any 9 _ [3] 1 _ (LAt.new w13 [3]) (by simp)
    rw [c5.2.2] at h1
    refine at_wide (h1.mono ?_)
    rintro e w14 ⟨An, gn, rfl, hA1, hg1, hs, hk⟩
    have hk1 : Kp (fun _ => False) w13 (w13.alloc (.cells (([3] : List Int).map (Value.int .i64)).toArray 3)) := (Kp.refl _ w13).alloc _
    have HB : Hid (Al w As gs Ao go Ac gc a7p o2p (fullP 5) w14 ∧ w14.heap[D]? = some (.deferred (some [])) ∧ w.heap.size ≤ D) := ⟨(HA.out.1.grow hk1).grow hk, hk.at (hk1.at HA.out.2.1 (fun h => h)) (fun h => h), HA.out.2.2⟩
    have HN := hidIt hs
    clear h1 HA hk hk1 hs hA1 hg1
    gi_wp2_with fail
    have h1 := same_any HB.out.1.s HN.out
    rw [f15] at h1
    refine at_wide (h1.mono ?_)
    rintro e w15 ⟨rfl, hk⟩
    have HA : Hid (Al w As gs Ao go Ac gc a7p o2p (fullP 5) w15 ∧ w15.heap[D]? = some (.deferred (some [])) ∧ w.heap.size ≤ D) := ⟨HB.out.1.grow hk, hk.at HB.out.2.1 (fun h => h), HB.out.2.2⟩
    clear h1 HB hk HN
    gi_wp2_with fail
    have h1 := same_any HA.out.1.s HA.out.1.c
    rw [f16] at h1
    refine at_wide (h1.mono ?_)
    rintro e w16 ⟨rfl, hk⟩
    have HB : Hid (Al w As gs Ao go Ac gc a7p o2p (fullP 5) w16 ∧ w16.heap[D]? = some (.deferred (some [])) ∧ w.heap.size ≤ D) := ⟨HA.out.1.grow hk, hk.at HA.out.2.1 (fun h => h), HA.out.2.2⟩
    clear h1 HA hk
    gi_wp2
    refine leaves_marks [D] w16 (by simp) (by simp; exact HB.out.2.1) fun W' hk' => ?_
    exact ⟨_, results_tmp rfl _ _ _, rfl, HB.out.1.bel.trans (hk'.below HB.out.1.bel.size fun k hk => by simp at hk; have := HB.out.2.2; omega)⟩
  case hstop =>
    rintro D c pre G W2 hD hGD hpre h hDo
    exact h.elim

theorem alive_any (w : World) (hT : Tab w) : Calls Tryd.prog 8 #[] w fun e w' => e = .returned (.bool true) ∧ Below w.heap.size w w' := callsIn_wide.1 (alive_in 3 (show 3 ≤ 3 by omega) w hT)
end Go.Proofs.YtcaibfalhkhleaaDoor
