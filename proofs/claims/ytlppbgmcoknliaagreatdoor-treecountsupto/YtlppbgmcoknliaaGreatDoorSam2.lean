/-
  The walks of sameBlock, sameFunc and of the lists of both.
-/
import Derived.Test.YtlppbgmcoknliaaGreatDoorSam1
namespace Go.Proofs.YtlppbgmcoknliaaGreatDoor
set_option linter.unusedVariables false
open Go.RowKit

set_option maxHeartbeats 2000000 in
set_option maxRecDepth 100000 in
theorem same_block (x y : BlockX) (w : World) (hx : x.At w) (hy : y.At w) :
 Calls Tryz.prog 109 #[.agg x.row.toArray, .agg y.row.toArray] w fun e w' => e = .returned (.bool (blockQ x.d y.d)) ∧ Below w.heap.size w w' := by
 have c1 : Hid (∀ W, Below w.heap.size w W → Calls Tryz.prog 143 #[.slice x.sa x.stmts.length x.sc, .slice y.sa y.stmts.length y.sc, .func (.func 144) #[] #[]] W fun e w' => e = .returned (.bool (lq (fun x y => stmtQ x.d y.d) x.stmts y.stmts)) ∧ Below W.heap.size W w') := hidIt fun W hW => equal_stmts _ _ _ _ _ _ _ (Sts.on hx.1 hW) (Sts.on hy.1 hW)
 have c2 : Hid (∀ W, Below w.heap.size w W → Calls Tryz.prog 145 #[.agg #[.int .i64 x.term.at_, .int .i64 x.term.kind, .string x.term.to.loc, .slice x.term.to.sa x.term.to.steps.length x.term.to.sc, .string x.term.name, .slice x.term.aa x.term.args.length x.term.ac, .slice x.term.ba x.term.blocks.length x.term.bc, .slice x.term.ra x.term.arms.length x.term.rc], .agg #[.int .i64 y.term.at_, .int .i64 y.term.kind, .string y.term.to.loc, .slice y.term.to.sa y.term.to.steps.length y.term.to.sc, .string y.term.name, .slice y.term.aa y.term.args.length y.term.ac, .slice y.term.ba y.term.blocks.length y.term.bc, .slice y.term.ra y.term.arms.length y.term.rc]] W fun e w' => e = .returned (.bool (termQ x.term.d y.term.d)) ∧ Below W.heap.size W w') := hidIt fun W hW => same_term x.term y.term W (hx.2.on hW) (hy.2.on hW)
 clear hx hy
 simp only [BlockX.row]
 obtain ⟨v0, v1, v2, e0, e1, e2, eR⟩ : ∃ v0 v1 v2 : Bool, (x.name.toList == y.name.toList) = v0 ∧ (lq (fun x y => stmtQ x.d y.d) x.stmts y.stmts) = v1 ∧ (termQ x.term.d y.term.d) = v2 ∧ blockQ x.d y.d = (v0 && (v1 && (v2))) := ⟨_, _, _, rfl, rfl, rfl, by simp only [blockQ, BlockX.d, lq_map, bq]; try rfl⟩
 rw [eR]
 clear eR
 rw [e1] at c1
 clear e1
 rw [e2] at c2
 clear e2
 have hb := hidIt (below_next (below_new w (.cells #[.int .i64 x.at_, .string x.name, .slice x.sa x.stmts.length x.sc, .int .i64 x.term.at_, .int .i64 x.term.kind, .string x.term.to.loc, .slice x.term.to.sa x.term.to.steps.length x.term.to.sc, .string x.term.name, .slice x.term.aa x.term.args.length x.term.ac, .slice x.term.ba x.term.blocks.length x.term.bc, .slice x.term.ra x.term.arms.length x.term.rc] 64)) (below_new _ (.cells #[.int .i64 y.at_, .string y.name, .slice y.sa y.stmts.length y.sc, .int .i64 y.term.at_, .int .i64 y.term.kind, .string y.term.to.loc, .slice y.term.to.sa y.term.to.steps.length y.term.to.sc, .string y.term.name, .slice y.term.aa y.term.args.length y.term.ac, .slice y.term.ba y.term.blocks.length y.term.bc, .slice y.term.ra y.term.arms.length y.term.rc] 64)))
 obtain ⟨hh1, hh2⟩ := two_at (w := w) (cs := #[.int .i64 x.at_, .string x.name, .slice x.sa x.stmts.length x.sc, .int .i64 x.term.at_, .int .i64 x.term.kind, .string x.term.to.loc, .slice x.term.to.sa x.term.to.steps.length x.term.to.sc, .string x.term.name, .slice x.term.aa x.term.args.length x.term.ac, .slice x.term.ba x.term.blocks.length x.term.bc, .slice x.term.ra x.term.arms.length x.term.rc]) (ds := #[.int .i64 y.at_, .string y.name, .slice y.sa y.stmts.length y.sc, .int .i64 y.term.at_, .int .i64 y.term.kind, .string y.term.to.loc, .slice y.term.to.sa y.term.to.steps.length y.term.to.sc, .string y.term.name, .slice y.term.aa y.term.args.length y.term.ac, .slice y.term.ba y.term.blocks.length y.term.bc, .slice y.term.ra y.term.arms.length y.term.rc]) (t := 64) (u := 64) rfl rfl (Below.refl _ _)
 have H1 := hidIt hh1
 have H2 := hidIt hh2
 clear hh1 hh2
 cases v0
 · clear c1 c2
   go_enter Tryz.func109, Tryz.ntmps109
   go_upto_region 1 with fail
   generalize ((w.alloc (.cells #[.int .i64 x.at_, .string x.name, .slice x.sa x.stmts.length x.sc, .int .i64 x.term.at_, .int .i64 x.term.kind, .string x.term.to.loc, .slice x.term.to.sa x.term.to.steps.length x.term.to.sc, .string x.term.name, .slice x.term.aa x.term.args.length x.term.ac, .slice x.term.ba x.term.blocks.length x.term.bc, .slice x.term.ra x.term.arms.length x.term.rc] 64)).alloc (.cells #[.int .i64 y.at_, .string y.name, .slice y.sa y.stmts.length y.sc, .int .i64 y.term.at_, .int .i64 y.term.kind, .string y.term.to.loc, .slice y.term.to.sa y.term.to.steps.length y.term.to.sc, .string y.term.name, .slice y.term.aa y.term.args.length y.term.ac, .slice y.term.ba y.term.blocks.length y.term.bc, .slice y.term.ra y.term.arms.length y.term.rc] 64)) = W at hb H1 H2 ⊢
   obtain ⟨p0, p1, p2, p3, p4, p5, p6, p7, p8, p9, p10⟩ := cells_11 H1.out
   obtain ⟨q0, q1, q2, q3, q4, q5, q6, q7, q8, q9, q10⟩ := cells_11 H2.out
   go_wp2
   go_ret
   exact ⟨rfl, hb.out⟩
 cases v1
 · clear c2
   go_enter Tryz.func109, Tryz.ntmps109
   go_upto_region 1 with fail
   generalize ((w.alloc (.cells #[.int .i64 x.at_, .string x.name, .slice x.sa x.stmts.length x.sc, .int .i64 x.term.at_, .int .i64 x.term.kind, .string x.term.to.loc, .slice x.term.to.sa x.term.to.steps.length x.term.to.sc, .string x.term.name, .slice x.term.aa x.term.args.length x.term.ac, .slice x.term.ba x.term.blocks.length x.term.bc, .slice x.term.ra x.term.arms.length x.term.rc] 64)).alloc (.cells #[.int .i64 y.at_, .string y.name, .slice y.sa y.stmts.length y.sc, .int .i64 y.term.at_, .int .i64 y.term.kind, .string y.term.to.loc, .slice y.term.to.sa y.term.to.steps.length y.term.to.sc, .string y.term.name, .slice y.term.aa y.term.args.length y.term.ac, .slice y.term.ba y.term.blocks.length y.term.bc, .slice y.term.ra y.term.arms.length y.term.rc] 64)) = W at hb H1 H2 ⊢
   obtain ⟨p0, p1, p2, p3, p4, p5, p6, p7, p8, p9, p10⟩ := cells_11 H1.out
   obtain ⟨q0, q1, q2, q3, q4, q5, q6, q7, q8, q9, q10⟩ := cells_11 H2.out
   go_wp2_with (go_at_call 143; refine (c1.out _ hb.out).mono ?_)
   rintro e w1 ⟨rfl, hq⟩
   have hb := hidIt (below_next hb.out hq)
   have H1 := hidIt (heap_on H1.out hq)
   have H2 := hidIt (heap_on H2.out hq)
   clear hq c1
   obtain ⟨p0, p1, p2, p3, p4, p5, p6, p7, p8, p9, p10⟩ := cells_11 H1.out
   obtain ⟨q0, q1, q2, q3, q4, q5, q6, q7, q8, q9, q10⟩ := cells_11 H2.out
   go_wp2
   go_ret
   exact ⟨rfl, hb.out⟩
 cases v2
 · go_enter Tryz.func109, Tryz.ntmps109
   go_upto_region 1 with fail
   generalize ((w.alloc (.cells #[.int .i64 x.at_, .string x.name, .slice x.sa x.stmts.length x.sc, .int .i64 x.term.at_, .int .i64 x.term.kind, .string x.term.to.loc, .slice x.term.to.sa x.term.to.steps.length x.term.to.sc, .string x.term.name, .slice x.term.aa x.term.args.length x.term.ac, .slice x.term.ba x.term.blocks.length x.term.bc, .slice x.term.ra x.term.arms.length x.term.rc] 64)).alloc (.cells #[.int .i64 y.at_, .string y.name, .slice y.sa y.stmts.length y.sc, .int .i64 y.term.at_, .int .i64 y.term.kind, .string y.term.to.loc, .slice y.term.to.sa y.term.to.steps.length y.term.to.sc, .string y.term.name, .slice y.term.aa y.term.args.length y.term.ac, .slice y.term.ba y.term.blocks.length y.term.bc, .slice y.term.ra y.term.arms.length y.term.rc] 64)) = W at hb H1 H2 ⊢
   obtain ⟨p0, p1, p2, p3, p4, p5, p6, p7, p8, p9, p10⟩ := cells_11 H1.out
   obtain ⟨q0, q1, q2, q3, q4, q5, q6, q7, q8, q9, q10⟩ := cells_11 H2.out
   go_wp2_with (go_at_call 143; refine (c1.out _ hb.out).mono ?_)
   rintro e w1 ⟨rfl, hq⟩
   have hb := hidIt (below_next hb.out hq)
   have H1 := hidIt (heap_on H1.out hq)
   have H2 := hidIt (heap_on H2.out hq)
   clear hq c1
   obtain ⟨p0, p1, p2, p3, p4, p5, p6, p7, p8, p9, p10⟩ := cells_11 H1.out
   obtain ⟨q0, q1, q2, q3, q4, q5, q6, q7, q8, q9, q10⟩ := cells_11 H2.out
   go_wp2_with (go_at_call 145; refine (c2.out _ hb.out).mono ?_)
   rintro e w2 ⟨rfl, hq⟩
   have hb := hidIt (below_next hb.out hq)
   have H1 := hidIt (heap_on H1.out hq)
   have H2 := hidIt (heap_on H2.out hq)
   clear hq c2
   obtain ⟨p0, p1, p2, p3, p4, p5, p6, p7, p8, p9, p10⟩ := cells_11 H1.out
   obtain ⟨q0, q1, q2, q3, q4, q5, q6, q7, q8, q9, q10⟩ := cells_11 H2.out
   go_wp2
   go_ret
   exact ⟨rfl, hb.out⟩
 go_enter Tryz.func109, Tryz.ntmps109
 go_upto_region 1 with fail
 generalize ((w.alloc (.cells #[.int .i64 x.at_, .string x.name, .slice x.sa x.stmts.length x.sc, .int .i64 x.term.at_, .int .i64 x.term.kind, .string x.term.to.loc, .slice x.term.to.sa x.term.to.steps.length x.term.to.sc, .string x.term.name, .slice x.term.aa x.term.args.length x.term.ac, .slice x.term.ba x.term.blocks.length x.term.bc, .slice x.term.ra x.term.arms.length x.term.rc] 64)).alloc (.cells #[.int .i64 y.at_, .string y.name, .slice y.sa y.stmts.length y.sc, .int .i64 y.term.at_, .int .i64 y.term.kind, .string y.term.to.loc, .slice y.term.to.sa y.term.to.steps.length y.term.to.sc, .string y.term.name, .slice y.term.aa y.term.args.length y.term.ac, .slice y.term.ba y.term.blocks.length y.term.bc, .slice y.term.ra y.term.arms.length y.term.rc] 64)) = W at hb H1 H2 ⊢
 obtain ⟨p0, p1, p2, p3, p4, p5, p6, p7, p8, p9, p10⟩ := cells_11 H1.out
 obtain ⟨q0, q1, q2, q3, q4, q5, q6, q7, q8, q9, q10⟩ := cells_11 H2.out
 go_wp2_with (go_at_call 143; refine (c1.out _ hb.out).mono ?_)
 rintro e w1 ⟨rfl, hq⟩
 have hb := hidIt (below_next hb.out hq)
 have H1 := hidIt (heap_on H1.out hq)
 have H2 := hidIt (heap_on H2.out hq)
 clear hq c1
 obtain ⟨p0, p1, p2, p3, p4, p5, p6, p7, p8, p9, p10⟩ := cells_11 H1.out
 obtain ⟨q0, q1, q2, q3, q4, q5, q6, q7, q8, q9, q10⟩ := cells_11 H2.out
 go_wp2_with (go_at_call 145; refine (c2.out _ hb.out).mono ?_)
 rintro e w2 ⟨rfl, hq⟩
 have hb := hidIt (below_next hb.out hq)
 have H1 := hidIt (heap_on H1.out hq)
 have H2 := hidIt (heap_on H2.out hq)
 clear hq c2
 obtain ⟨p0, p1, p2, p3, p4, p5, p6, p7, p8, p9, p10⟩ := cells_11 H1.out
 obtain ⟨q0, q1, q2, q3, q4, q5, q6, q7, q8, q9, q10⟩ := cells_11 H2.out
 go_wp2
 go_ret
 exact ⟨rfl, hb.out⟩

set_option maxHeartbeats 2000000 in
set_option maxRecDepth 100000 in
theorem equal_blocks (a b : Option Addr) (xs ys : List BlockX) (c d : Nat) (w : World) (h1 : Bls w a xs) (h2 : Bls w b ys) :
 Calls Tryz.prog 108 #[.slice a xs.length c, .slice b ys.length d, .func (.func 109) #[] #[]] w fun e w' => e = .returned (.bool (lq (fun x y => blockQ x.d y.d) xs ys)) ∧ Below w.heap.size w w' := by
 have n1 := h1.1.big
 have n2 := h2.1.big
 rw [List.length_map] at n1 n2
 by_cases hnm : xs.length = ys.length
 · have H1 := hidIt h1
   have H2 := hidIt h2
   obtain ⟨n, hn⟩ : ∃ n, xs.length = n := ⟨_, rfl⟩
   rw [hn] at hnm
   rw [← hnm, hn]
   have hn1 := hidIt hn
   have hn2 := hidIt hnm
   rw [hn] at n1
   clear n2 hn hnm h1 h2
   obtain ⟨R, hR0⟩ : ∃ R, lq (fun x y => blockQ x.d y.d) xs ys = R := ⟨_, rfl⟩
   rw [hR0]
   have hR := hidIt hR0
   clear hR0
   go_enter Tryz.func108, Tryz.ntmps108
   go_wp2
   go_loopg [17] n (fun g s17 wr => ∃ k : Nat, k ≤ n ∧ n - k ≤ g ∧ s17 = .int .i64 k ∧ Hid (Below w.heap.size w wr) ∧ Hid (∀ (j : Nat) (x y : BlockX), j < k → xs[j]? = some x → ys[j]? = some y → blockQ x.d y.d = true))
   case atStart => exact ⟨0, Nat.zero_le _, by omega, rfl, hidIt (Below.refl _ _), hidIt fun j x y hj => absurd hj (Nat.not_lt_zero _)⟩
   case round =>
    obtain ⟨k, hk, hg, rfl, hb, A⟩ := hrel
    by_cases hlt : k < n
    · obtain ⟨x, hx⟩ : ∃ x, xs[k]? = some x := ⟨_, List.getElem?_eq_getElem (by rw [hn1.out]; exact hlt)⟩
      obtain ⟨y, hy⟩ : ∃ y, ys[k]? = some y := ⟨_, List.getElem?_eq_getElem (by rw [← hn2.out]; exact hlt)⟩
      obtain ⟨b1, o1, rfl, z1, g1⟩ := H1.out.1.cells (j := k) (r := x.row) (by rw [List.getElem?_map, hx]; rfl)
      obtain ⟨b2, o2, rfl, z2, g2⟩ := H2.out.1.cells (j := k) (r := y.row) (by rw [List.getElem?_map, hy]; rfl)
      have c1 : Hid (∀ W, Below w.heap.size w W → Calls Tryz.prog 109 #[.agg x.row.toArray, .agg y.row.toArray] W fun e w' => e = .returned (.bool (blockQ x.d y.d)) ∧ Below W.heap.size W w') := hidIt fun W hW =>
       same_block x y W ((H1.out.2 x (List.mem_of_getElem? hx)).on hW) ((H2.out.2 y (List.mem_of_getElem? hy)).on hW)
      have Hx := hidIt hx
      have Hy := hidIt hy
      have G2 := hidIt g2
      have p0 := g1 wr hb.out 0 _ rfl
      have p1 := g1 wr hb.out 1 _ rfl
      have p2 := g1 wr hb.out 2 _ rfl
      have p3 := g1 wr hb.out 3 _ rfl
      have p4 := g1 wr hb.out 4 _ rfl
      have p5 := g1 wr hb.out 5 _ rfl
      have p6 := g1 wr hb.out 6 _ rfl
      have p7 := g1 wr hb.out 7 _ rfl
      have p8 := g1 wr hb.out 8 _ rfl
      have p9 := g1 wr hb.out 9 _ rfl
      have p10 := g1 wr hb.out 10 _ rfl
      rw [Nat.add_zero] at p0
      clear g1 g2 hx hy z1 z2
      simp only [BlockX.row] at c1
      go_upto_region 6 with fail
      have hb1 := hidIt (below_next hb.out (below_new wr (.cells #[.int .i64 x.at_, .string x.name, .slice x.sa x.stmts.length x.sc, .int .i64 x.term.at_, .int .i64 x.term.kind, .string x.term.to.loc, .slice x.term.to.sa x.term.to.steps.length x.term.to.sc, .string x.term.name, .slice x.term.aa x.term.args.length x.term.ac, .slice x.term.ba x.term.blocks.length x.term.bc, .slice x.term.ra x.term.arms.length x.term.rc] 64)))
      have hh1 := heap_alloc_new wr (.cells #[.int .i64 x.at_, .string x.name, .slice x.sa x.stmts.length x.sc, .int .i64 x.term.at_, .int .i64 x.term.kind, .string x.term.to.loc, .slice x.term.to.sa x.term.to.steps.length x.term.to.sc, .string x.term.name, .slice x.term.aa x.term.args.length x.term.ac, .slice x.term.ba x.term.blocks.length x.term.bc, .slice x.term.ra x.term.arms.length x.term.rc] 64)
      clear p0 p1 p2 p3 p4 p5 p6 p7 p8 p9 p10 hb
      generalize wr.alloc (.cells #[.int .i64 x.at_, .string x.name, .slice x.sa x.stmts.length x.sc, .int .i64 x.term.at_, .int .i64 x.term.kind, .string x.term.to.loc, .slice x.term.to.sa x.term.to.steps.length x.term.to.sc, .string x.term.name, .slice x.term.aa x.term.args.length x.term.ac, .slice x.term.ba x.term.blocks.length x.term.bc, .slice x.term.ra x.term.arms.length x.term.rc] 64) = w1 at hb1 hh1 ⊢
      generalize wr.heap.size = B1 at hh1 ⊢
      have p0 := G2.out w1 hb1.out 0 _ rfl
      have p1 := G2.out w1 hb1.out 1 _ rfl
      have p2 := G2.out w1 hb1.out 2 _ rfl
      have p3 := G2.out w1 hb1.out 3 _ rfl
      have p4 := G2.out w1 hb1.out 4 _ rfl
      have p5 := G2.out w1 hb1.out 5 _ rfl
      have p6 := G2.out w1 hb1.out 6 _ rfl
      have p7 := G2.out w1 hb1.out 7 _ rfl
      have p8 := G2.out w1 hb1.out 8 _ rfl
      have p9 := G2.out w1 hb1.out 9 _ rfl
      have p10 := G2.out w1 hb1.out 10 _ rfl
      rw [Nat.add_zero] at p0
      have hh1 := hidIt hh1
      go_upto_region 7 with fail
      have hb2 := hidIt (below_next hb1.out (below_new w1 (.cells #[.int .i64 y.at_, .string y.name, .slice y.sa y.stmts.length y.sc, .int .i64 y.term.at_, .int .i64 y.term.kind, .string y.term.to.loc, .slice y.term.to.sa y.term.to.steps.length y.term.to.sc, .string y.term.name, .slice y.term.aa y.term.args.length y.term.ac, .slice y.term.ba y.term.blocks.length y.term.bc, .slice y.term.ra y.term.arms.length y.term.rc] 64)))
      have hh2 := heap_alloc_new w1 (.cells #[.int .i64 y.at_, .string y.name, .slice y.sa y.stmts.length y.sc, .int .i64 y.term.at_, .int .i64 y.term.kind, .string y.term.to.loc, .slice y.term.to.sa y.term.to.steps.length y.term.to.sc, .string y.term.name, .slice y.term.aa y.term.args.length y.term.ac, .slice y.term.ba y.term.blocks.length y.term.bc, .slice y.term.ra y.term.arms.length y.term.rc] 64)
      have hh3 := heap_on hh1.out (below_new w1 (.cells #[.int .i64 y.at_, .string y.name, .slice y.sa y.stmts.length y.sc, .int .i64 y.term.at_, .int .i64 y.term.kind, .string y.term.to.loc, .slice y.term.to.sa y.term.to.steps.length y.term.to.sc, .string y.term.name, .slice y.term.aa y.term.args.length y.term.ac, .slice y.term.ba y.term.blocks.length y.term.bc, .slice y.term.ra y.term.arms.length y.term.rc] 64))
      clear p0 p1 p2 p3 p4 p5 p6 p7 p8 p9 p10 hb1
      generalize w1.alloc (.cells #[.int .i64 y.at_, .string y.name, .slice y.sa y.stmts.length y.sc, .int .i64 y.term.at_, .int .i64 y.term.kind, .string y.term.to.loc, .slice y.term.to.sa y.term.to.steps.length y.term.to.sc, .string y.term.name, .slice y.term.aa y.term.args.length y.term.ac, .slice y.term.ba y.term.blocks.length y.term.bc, .slice y.term.ra y.term.arms.length y.term.rc] 64) = w2 at hb2 hh2 hh3 ⊢
      generalize w1.heap.size = B2 at hh2 ⊢
      obtain ⟨q0, q1, q2, q3, q4, q5, q6, q7, q8, q9, q10⟩ := cells_11 hh3
      obtain ⟨r0, r1, r2, r3, r4, r5, r6, r7, r8, r9, r10⟩ := cells_11 hh2
      clear hh1 hh2 hh3
      cases hxy : blockQ x.d y.d with
      | true =>
       rw [hxy] at c1
       have hxy := hidIt hxy
       go_wp2_with (go_at_call 109; refine (c1.out _ hb2.out).mono ?_; rintro e w' ⟨rfl, hq⟩; have hb3 := hidIt (below_next hb2.out hq); clear hq)
       go_roundg (n - (k + 1))
       case measure => omega
       case rel =>
        refine ⟨k + 1, by omega, by omega, by go_num, hb3, hidIt fun j u v hj hu hv => ?_⟩
        by_cases e : j = k
        · subst e
          obtain rfl : x = u := Option.some.inj (Hx.out.symm.trans hu)
          obtain rfl : y = v := Option.some.inj (Hy.out.symm.trans hv)
          exact hxy.out
        · exact A.out j u v (by omega) hu hv
      | false =>
       rw [hxy] at c1
       obtain rfl : false = R := (lq_at (f := fun x y => blockQ x.d y.d) Hx.out Hy.out hxy).symm.trans hR.out
       have hxy := hidIt hxy
       go_wp2_with (go_at_call 109; refine (c1.out _ hb2.out).mono ?_; rintro e w' ⟨rfl, hq⟩; have hb3 := hidIt (below_next hb2.out hq); clear hq)
       go_ret
       exact ⟨rfl, hb3.out⟩
    · have : k = n := by omega
      subst this
      obtain rfl : true = R := by
       refine (lq_all (f := fun x y => blockQ x.d y.d) (by rw [hn1.out]; exact hn2.out) fun j x y hj hy => A.out j x y ?_ hj hy).symm.trans hR.out
       have := (List.getElem?_eq_some_iff.1 hj).1
       rw [hn1.out] at this
       exact this
      go_wp2
      go_ret
      exact ⟨rfl, hb.out⟩
 · have e0 : lq (fun x y => blockQ x.d y.d) xs ys = false := lq_len hnm
   rw [e0]
   clear e0
   have hnm' : ¬ (xs.length : Int) = (ys.length : Int) := by omega
   clear h1 h2 hnm
   generalize xs.length = n at *
   generalize ys.length = m at *
   go_enter Tryz.func108, Tryz.ntmps108
   go_wp2
   go_ret
   exact ⟨rfl, Below.refl _ _⟩

set_option maxHeartbeats 2000000 in
set_option maxRecDepth 100000 in
theorem same_func (x y : FuncX) (w : World) (hx : x.At w) (hy : y.At w) :
 Calls Tryz.prog 65 #[.agg x.row.toArray, .agg y.row.toArray] w fun e w' => e = .returned (.bool (funcQ x.d y.d)) ∧ Below w.heap.size w w' := by
 have c2 : Hid (∀ W, Below w.heap.size w W → Calls Tryz.prog 107 #[.slice x.pa x.params.length x.pc, .slice y.pa y.params.length y.pc] W fun e w' => e = .returned (.bool (lq varQ x.params y.params)) ∧ Below W.heap.size W w') := hidIt fun W hW => equal_vars _ _ _ _ _ _ _ (Vrs.on (hx.1) hW) (Vrs.on (hy.1) hW)
 have c3 : Hid (∀ W, Below w.heap.size w W → Calls Tryz.prog 107 #[.slice x.la x.locals.length x.lc, .slice y.la y.locals.length y.lc] W fun e w' => e = .returned (.bool (lq varQ x.locals y.locals)) ∧ Below W.heap.size W w') := hidIt fun W hW => equal_vars _ _ _ _ _ _ _ (Vrs.on (hx.2.1) hW) (Vrs.on (hy.2.1) hW)
 have c4 : Hid (∀ W, Below w.heap.size w W → Calls Tryz.prog 108 #[.slice x.ba x.blocks.length x.bc, .slice y.ba y.blocks.length y.bc, .func (.func 109) #[] #[]] W fun e w' => e = .returned (.bool (lq (fun x y => blockQ x.d y.d) x.blocks y.blocks)) ∧ Below W.heap.size W w') := hidIt fun W hW => equal_blocks _ _ _ _ _ _ _ (Bls.on hx.2.2 hW) (Bls.on hy.2.2 hW)
 clear hx hy
 simp only [FuncX.row]
 obtain ⟨v0, v1, v2, v3, v4, e0, e1, e2, e3, e4, eR⟩ : ∃ v0 v1 v2 v3 v4 : Bool, (x.name.toList == y.name.toList) = v0 ∧ (x.result.toList == y.result.toList) = v1 ∧ (lq varQ x.params y.params) = v2 ∧ (lq varQ x.locals y.locals) = v3 ∧ (lq (fun x y => blockQ x.d y.d) x.blocks y.blocks) = v4 ∧ funcQ x.d y.d = (v0 && (v1 && (v2 && (v3 && (v4))))) := ⟨_, _, _, _, _, rfl, rfl, rfl, rfl, rfl, by simp only [funcQ, FuncX.d, lq_map, bq]; try rfl⟩
 rw [eR]
 clear eR
 rw [e2] at c2
 clear e2
 rw [e3] at c3
 clear e3
 rw [e4] at c4
 clear e4
 have hb := hidIt (below_next (below_new w (.cells #[.int .i64 x.at_, .string x.name, .slice x.pa x.params.length x.pc, .slice x.la x.locals.length x.lc, .string x.result, .slice x.ba x.blocks.length x.bc] 45)) (below_new _ (.cells #[.int .i64 y.at_, .string y.name, .slice y.pa y.params.length y.pc, .slice y.la y.locals.length y.lc, .string y.result, .slice y.ba y.blocks.length y.bc] 45)))
 obtain ⟨hh1, hh2⟩ := two_at (w := w) (cs := #[.int .i64 x.at_, .string x.name, .slice x.pa x.params.length x.pc, .slice x.la x.locals.length x.lc, .string x.result, .slice x.ba x.blocks.length x.bc]) (ds := #[.int .i64 y.at_, .string y.name, .slice y.pa y.params.length y.pc, .slice y.la y.locals.length y.lc, .string y.result, .slice y.ba y.blocks.length y.bc]) (t := 45) (u := 45) rfl rfl (Below.refl _ _)
 have H1 := hidIt hh1
 have H2 := hidIt hh2
 clear hh1 hh2
 cases v0
 · clear c2 c3 c4
   go_enter Tryz.func65, Tryz.ntmps65
   go_upto_region 1 with fail
   generalize ((w.alloc (.cells #[.int .i64 x.at_, .string x.name, .slice x.pa x.params.length x.pc, .slice x.la x.locals.length x.lc, .string x.result, .slice x.ba x.blocks.length x.bc] 45)).alloc (.cells #[.int .i64 y.at_, .string y.name, .slice y.pa y.params.length y.pc, .slice y.la y.locals.length y.lc, .string y.result, .slice y.ba y.blocks.length y.bc] 45)) = W at hb H1 H2 ⊢
   obtain ⟨p0, p1, p2, p3, p4, p5⟩ := cells_6 H1.out
   obtain ⟨q0, q1, q2, q3, q4, q5⟩ := cells_6 H2.out
   go_wp2
   go_ret
   exact ⟨rfl, hb.out⟩
 cases v1
 · clear c2 c3 c4
   go_enter Tryz.func65, Tryz.ntmps65
   go_upto_region 1 with fail
   generalize ((w.alloc (.cells #[.int .i64 x.at_, .string x.name, .slice x.pa x.params.length x.pc, .slice x.la x.locals.length x.lc, .string x.result, .slice x.ba x.blocks.length x.bc] 45)).alloc (.cells #[.int .i64 y.at_, .string y.name, .slice y.pa y.params.length y.pc, .slice y.la y.locals.length y.lc, .string y.result, .slice y.ba y.blocks.length y.bc] 45)) = W at hb H1 H2 ⊢
   obtain ⟨p0, p1, p2, p3, p4, p5⟩ := cells_6 H1.out
   obtain ⟨q0, q1, q2, q3, q4, q5⟩ := cells_6 H2.out
   go_wp2
   go_ret
   exact ⟨rfl, hb.out⟩
 cases v2
 · clear c3 c4
   go_enter Tryz.func65, Tryz.ntmps65
   go_upto_region 1 with fail
   generalize ((w.alloc (.cells #[.int .i64 x.at_, .string x.name, .slice x.pa x.params.length x.pc, .slice x.la x.locals.length x.lc, .string x.result, .slice x.ba x.blocks.length x.bc] 45)).alloc (.cells #[.int .i64 y.at_, .string y.name, .slice y.pa y.params.length y.pc, .slice y.la y.locals.length y.lc, .string y.result, .slice y.ba y.blocks.length y.bc] 45)) = W at hb H1 H2 ⊢
   obtain ⟨p0, p1, p2, p3, p4, p5⟩ := cells_6 H1.out
   obtain ⟨q0, q1, q2, q3, q4, q5⟩ := cells_6 H2.out
   go_wp2_with (go_at_call 107; refine (c2.out _ hb.out).mono ?_)
   rintro e w2 ⟨rfl, hq⟩
   have hb := hidIt (below_next hb.out hq)
   have H1 := hidIt (heap_on H1.out hq)
   have H2 := hidIt (heap_on H2.out hq)
   clear hq c2
   obtain ⟨p0, p1, p2, p3, p4, p5⟩ := cells_6 H1.out
   obtain ⟨q0, q1, q2, q3, q4, q5⟩ := cells_6 H2.out
   go_wp2
   go_ret
   exact ⟨rfl, hb.out⟩
 cases v3
 · clear c4
   go_enter Tryz.func65, Tryz.ntmps65
   go_upto_region 1 with fail
   generalize ((w.alloc (.cells #[.int .i64 x.at_, .string x.name, .slice x.pa x.params.length x.pc, .slice x.la x.locals.length x.lc, .string x.result, .slice x.ba x.blocks.length x.bc] 45)).alloc (.cells #[.int .i64 y.at_, .string y.name, .slice y.pa y.params.length y.pc, .slice y.la y.locals.length y.lc, .string y.result, .slice y.ba y.blocks.length y.bc] 45)) = W at hb H1 H2 ⊢
   obtain ⟨p0, p1, p2, p3, p4, p5⟩ := cells_6 H1.out
   obtain ⟨q0, q1, q2, q3, q4, q5⟩ := cells_6 H2.out
   go_wp2_with (go_at_call 107; refine (c2.out _ hb.out).mono ?_)
   rintro e w2 ⟨rfl, hq⟩
   have hb := hidIt (below_next hb.out hq)
   have H1 := hidIt (heap_on H1.out hq)
   have H2 := hidIt (heap_on H2.out hq)
   clear hq c2
   obtain ⟨p0, p1, p2, p3, p4, p5⟩ := cells_6 H1.out
   obtain ⟨q0, q1, q2, q3, q4, q5⟩ := cells_6 H2.out
   go_wp2_with (go_at_call 107; refine (c3.out _ hb.out).mono ?_)
   rintro e w3 ⟨rfl, hq⟩
   have hb := hidIt (below_next hb.out hq)
   have H1 := hidIt (heap_on H1.out hq)
   have H2 := hidIt (heap_on H2.out hq)
   clear hq c3
   obtain ⟨p0, p1, p2, p3, p4, p5⟩ := cells_6 H1.out
   obtain ⟨q0, q1, q2, q3, q4, q5⟩ := cells_6 H2.out
   go_wp2
   go_ret
   exact ⟨rfl, hb.out⟩
 cases v4
 · go_enter Tryz.func65, Tryz.ntmps65
   go_upto_region 1 with fail
   generalize ((w.alloc (.cells #[.int .i64 x.at_, .string x.name, .slice x.pa x.params.length x.pc, .slice x.la x.locals.length x.lc, .string x.result, .slice x.ba x.blocks.length x.bc] 45)).alloc (.cells #[.int .i64 y.at_, .string y.name, .slice y.pa y.params.length y.pc, .slice y.la y.locals.length y.lc, .string y.result, .slice y.ba y.blocks.length y.bc] 45)) = W at hb H1 H2 ⊢
   obtain ⟨p0, p1, p2, p3, p4, p5⟩ := cells_6 H1.out
   obtain ⟨q0, q1, q2, q3, q4, q5⟩ := cells_6 H2.out
   go_wp2_with (go_at_call 107; refine (c2.out _ hb.out).mono ?_)
   rintro e w2 ⟨rfl, hq⟩
   have hb := hidIt (below_next hb.out hq)
   have H1 := hidIt (heap_on H1.out hq)
   have H2 := hidIt (heap_on H2.out hq)
   clear hq c2
   obtain ⟨p0, p1, p2, p3, p4, p5⟩ := cells_6 H1.out
   obtain ⟨q0, q1, q2, q3, q4, q5⟩ := cells_6 H2.out
   go_wp2_with (go_at_call 107; refine (c3.out _ hb.out).mono ?_)
   rintro e w3 ⟨rfl, hq⟩
   have hb := hidIt (below_next hb.out hq)
   have H1 := hidIt (heap_on H1.out hq)
   have H2 := hidIt (heap_on H2.out hq)
   clear hq c3
   obtain ⟨p0, p1, p2, p3, p4, p5⟩ := cells_6 H1.out
   obtain ⟨q0, q1, q2, q3, q4, q5⟩ := cells_6 H2.out
   go_wp2_with (go_at_call 108; refine (c4.out _ hb.out).mono ?_)
   rintro e w4 ⟨rfl, hq⟩
   have hb := hidIt (below_next hb.out hq)
   have H1 := hidIt (heap_on H1.out hq)
   have H2 := hidIt (heap_on H2.out hq)
   clear hq c4
   obtain ⟨p0, p1, p2, p3, p4, p5⟩ := cells_6 H1.out
   obtain ⟨q0, q1, q2, q3, q4, q5⟩ := cells_6 H2.out
   go_wp2
   go_ret
   exact ⟨rfl, hb.out⟩
 go_enter Tryz.func65, Tryz.ntmps65
 go_upto_region 1 with fail
 generalize ((w.alloc (.cells #[.int .i64 x.at_, .string x.name, .slice x.pa x.params.length x.pc, .slice x.la x.locals.length x.lc, .string x.result, .slice x.ba x.blocks.length x.bc] 45)).alloc (.cells #[.int .i64 y.at_, .string y.name, .slice y.pa y.params.length y.pc, .slice y.la y.locals.length y.lc, .string y.result, .slice y.ba y.blocks.length y.bc] 45)) = W at hb H1 H2 ⊢
 obtain ⟨p0, p1, p2, p3, p4, p5⟩ := cells_6 H1.out
 obtain ⟨q0, q1, q2, q3, q4, q5⟩ := cells_6 H2.out
 go_wp2_with (go_at_call 107; refine (c2.out _ hb.out).mono ?_)
 rintro e w2 ⟨rfl, hq⟩
 have hb := hidIt (below_next hb.out hq)
 have H1 := hidIt (heap_on H1.out hq)
 have H2 := hidIt (heap_on H2.out hq)
 clear hq c2
 obtain ⟨p0, p1, p2, p3, p4, p5⟩ := cells_6 H1.out
 obtain ⟨q0, q1, q2, q3, q4, q5⟩ := cells_6 H2.out
 go_wp2_with (go_at_call 107; refine (c3.out _ hb.out).mono ?_)
 rintro e w3 ⟨rfl, hq⟩
 have hb := hidIt (below_next hb.out hq)
 have H1 := hidIt (heap_on H1.out hq)
 have H2 := hidIt (heap_on H2.out hq)
 clear hq c3
 obtain ⟨p0, p1, p2, p3, p4, p5⟩ := cells_6 H1.out
 obtain ⟨q0, q1, q2, q3, q4, q5⟩ := cells_6 H2.out
 go_wp2_with (go_at_call 108; refine (c4.out _ hb.out).mono ?_)
 rintro e w4 ⟨rfl, hq⟩
 have hb := hidIt (below_next hb.out hq)
 have H1 := hidIt (heap_on H1.out hq)
 have H2 := hidIt (heap_on H2.out hq)
 clear hq c4
 obtain ⟨p0, p1, p2, p3, p4, p5⟩ := cells_6 H1.out
 obtain ⟨q0, q1, q2, q3, q4, q5⟩ := cells_6 H2.out
 go_wp2
 go_ret
 exact ⟨rfl, hb.out⟩

set_option maxHeartbeats 2000000 in
set_option maxRecDepth 100000 in
theorem equal_funcs (a b : Option Addr) (xs ys : List FuncX) (c d : Nat) (w : World) (h1 : Fns w a xs) (h2 : Fns w b ys) :
 Calls Tryz.prog 64 #[.slice a xs.length c, .slice b ys.length d, .func (.func 65) #[] #[]] w fun e w' => e = .returned (.bool (lq (fun x y => funcQ x.d y.d) xs ys)) ∧ Below w.heap.size w w' := by
 have n1 := h1.1.big
 have n2 := h2.1.big
 rw [List.length_map] at n1 n2
 by_cases hnm : xs.length = ys.length
 · have H1 := hidIt h1
   have H2 := hidIt h2
   obtain ⟨n, hn⟩ : ∃ n, xs.length = n := ⟨_, rfl⟩
   rw [hn] at hnm
   rw [← hnm, hn]
   have hn1 := hidIt hn
   have hn2 := hidIt hnm
   rw [hn] at n1
   clear n2 hn hnm h1 h2
   obtain ⟨R, hR0⟩ : ∃ R, lq (fun x y => funcQ x.d y.d) xs ys = R := ⟨_, rfl⟩
   rw [hR0]
   have hR := hidIt hR0
   clear hR0
   go_enter Tryz.func64, Tryz.ntmps64
   go_wp2
   go_loopg [17] n (fun g s17 wr => ∃ k : Nat, k ≤ n ∧ n - k ≤ g ∧ s17 = .int .i64 k ∧ Hid (Below w.heap.size w wr) ∧ Hid (∀ (j : Nat) (x y : FuncX), j < k → xs[j]? = some x → ys[j]? = some y → funcQ x.d y.d = true))
   case atStart => exact ⟨0, Nat.zero_le _, by omega, rfl, hidIt (Below.refl _ _), hidIt fun j x y hj => absurd hj (Nat.not_lt_zero _)⟩
   case round =>
    obtain ⟨k, hk, hg, rfl, hb, A⟩ := hrel
    by_cases hlt : k < n
    · obtain ⟨x, hx⟩ : ∃ x, xs[k]? = some x := ⟨_, List.getElem?_eq_getElem (by rw [hn1.out]; exact hlt)⟩
      obtain ⟨y, hy⟩ : ∃ y, ys[k]? = some y := ⟨_, List.getElem?_eq_getElem (by rw [← hn2.out]; exact hlt)⟩
      obtain ⟨b1, o1, rfl, z1, g1⟩ := H1.out.1.cells (j := k) (r := x.row) (by rw [List.getElem?_map, hx]; rfl)
      obtain ⟨b2, o2, rfl, z2, g2⟩ := H2.out.1.cells (j := k) (r := y.row) (by rw [List.getElem?_map, hy]; rfl)
      have c1 : Hid (∀ W, Below w.heap.size w W → Calls Tryz.prog 65 #[.agg x.row.toArray, .agg y.row.toArray] W fun e w' => e = .returned (.bool (funcQ x.d y.d)) ∧ Below W.heap.size W w') := hidIt fun W hW =>
       same_func x y W ((H1.out.2 x (List.mem_of_getElem? hx)).on hW) ((H2.out.2 y (List.mem_of_getElem? hy)).on hW)
      have Hx := hidIt hx
      have Hy := hidIt hy
      have G2 := hidIt g2
      have p0 := g1 wr hb.out 0 _ rfl
      have p1 := g1 wr hb.out 1 _ rfl
      have p2 := g1 wr hb.out 2 _ rfl
      have p3 := g1 wr hb.out 3 _ rfl
      have p4 := g1 wr hb.out 4 _ rfl
      have p5 := g1 wr hb.out 5 _ rfl
      rw [Nat.add_zero] at p0
      clear g1 g2 hx hy z1 z2
      simp only [FuncX.row] at c1
      go_upto_region 6 with fail
      have hb1 := hidIt (below_next hb.out (below_new wr (.cells #[.int .i64 x.at_, .string x.name, .slice x.pa x.params.length x.pc, .slice x.la x.locals.length x.lc, .string x.result, .slice x.ba x.blocks.length x.bc] 45)))
      have hh1 := heap_alloc_new wr (.cells #[.int .i64 x.at_, .string x.name, .slice x.pa x.params.length x.pc, .slice x.la x.locals.length x.lc, .string x.result, .slice x.ba x.blocks.length x.bc] 45)
      clear p0 p1 p2 p3 p4 p5 hb
      generalize wr.alloc (.cells #[.int .i64 x.at_, .string x.name, .slice x.pa x.params.length x.pc, .slice x.la x.locals.length x.lc, .string x.result, .slice x.ba x.blocks.length x.bc] 45) = w1 at hb1 hh1 ⊢
      generalize wr.heap.size = B1 at hh1 ⊢
      have p0 := G2.out w1 hb1.out 0 _ rfl
      have p1 := G2.out w1 hb1.out 1 _ rfl
      have p2 := G2.out w1 hb1.out 2 _ rfl
      have p3 := G2.out w1 hb1.out 3 _ rfl
      have p4 := G2.out w1 hb1.out 4 _ rfl
      have p5 := G2.out w1 hb1.out 5 _ rfl
      rw [Nat.add_zero] at p0
      have hh1 := hidIt hh1
      go_upto_region 7 with fail
      have hb2 := hidIt (below_next hb1.out (below_new w1 (.cells #[.int .i64 y.at_, .string y.name, .slice y.pa y.params.length y.pc, .slice y.la y.locals.length y.lc, .string y.result, .slice y.ba y.blocks.length y.bc] 45)))
      have hh2 := heap_alloc_new w1 (.cells #[.int .i64 y.at_, .string y.name, .slice y.pa y.params.length y.pc, .slice y.la y.locals.length y.lc, .string y.result, .slice y.ba y.blocks.length y.bc] 45)
      have hh3 := heap_on hh1.out (below_new w1 (.cells #[.int .i64 y.at_, .string y.name, .slice y.pa y.params.length y.pc, .slice y.la y.locals.length y.lc, .string y.result, .slice y.ba y.blocks.length y.bc] 45))
      clear p0 p1 p2 p3 p4 p5 hb1
      generalize w1.alloc (.cells #[.int .i64 y.at_, .string y.name, .slice y.pa y.params.length y.pc, .slice y.la y.locals.length y.lc, .string y.result, .slice y.ba y.blocks.length y.bc] 45) = w2 at hb2 hh2 hh3 ⊢
      generalize w1.heap.size = B2 at hh2 ⊢
      obtain ⟨q0, q1, q2, q3, q4, q5⟩ := cells_6 hh3
      obtain ⟨r0, r1, r2, r3, r4, r5⟩ := cells_6 hh2
      clear hh1 hh2 hh3
      cases hxy : funcQ x.d y.d with
      | true =>
       rw [hxy] at c1
       have hxy := hidIt hxy
       go_wp2_with (go_at_call 65; refine (c1.out _ hb2.out).mono ?_; rintro e w' ⟨rfl, hq⟩; have hb3 := hidIt (below_next hb2.out hq); clear hq)
       go_roundg (n - (k + 1))
       case measure => omega
       case rel =>
        refine ⟨k + 1, by omega, by omega, by go_num, hb3, hidIt fun j u v hj hu hv => ?_⟩
        by_cases e : j = k
        · subst e
          obtain rfl : x = u := Option.some.inj (Hx.out.symm.trans hu)
          obtain rfl : y = v := Option.some.inj (Hy.out.symm.trans hv)
          exact hxy.out
        · exact A.out j u v (by omega) hu hv
      | false =>
       rw [hxy] at c1
       obtain rfl : false = R := (lq_at (f := fun x y => funcQ x.d y.d) Hx.out Hy.out hxy).symm.trans hR.out
       have hxy := hidIt hxy
       go_wp2_with (go_at_call 65; refine (c1.out _ hb2.out).mono ?_; rintro e w' ⟨rfl, hq⟩; have hb3 := hidIt (below_next hb2.out hq); clear hq)
       go_ret
       exact ⟨rfl, hb3.out⟩
    · have : k = n := by omega
      subst this
      obtain rfl : true = R := by
       refine (lq_all (f := fun x y => funcQ x.d y.d) (by rw [hn1.out]; exact hn2.out) fun j x y hj hy => A.out j x y ?_ hj hy).symm.trans hR.out
       have := (List.getElem?_eq_some_iff.1 hj).1
       rw [hn1.out] at this
       exact this
      go_wp2
      go_ret
      exact ⟨rfl, hb.out⟩
 · have e0 : lq (fun x y => funcQ x.d y.d) xs ys = false := lq_len hnm
   rw [e0]
   clear e0
   have hnm' : ¬ (xs.length : Int) = (ys.length : Int) := by omega
   clear h1 h2 hnm
   generalize xs.length = n at *
   generalize ys.length = m at *
   go_enter Tryz.func64, Tryz.ntmps64
   go_wp2
   go_ret
   exact ⟨rfl, Below.refl _ _⟩

end Go.Proofs.YtlppbgmcoknliaaGreatDoor
