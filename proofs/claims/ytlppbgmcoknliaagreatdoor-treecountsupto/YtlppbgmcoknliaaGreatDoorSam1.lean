/-
  The walks of sameStmt, sameTerm, and of the statements of a block.
-/
import Derived.Test.YtlppbgmcoknliaaGreatDoorEqs
namespace Go.Proofs.YtlppbgmcoknliaaGreatDoor
set_option linter.unusedVariables false
open Go.RowKit

set_option maxHeartbeats 2000000 in
set_option maxRecDepth 100000 in
theorem same_stmt (x y : StmtX) (w : World) (hx : x.At w) (hy : y.At w) :
 Calls Tryz.prog 144 #[.agg x.row.toArray, .agg y.row.toArray] w fun e w' => e = .returned (.bool (stmtQ x.d y.d)) ∧ Below w.heap.size w w' := by
 have c4 : Hid (∀ W, Below w.heap.size w W → Calls Tryz.prog 15 #[.agg #[.string x.to.loc, .slice x.to.sa x.to.steps.length x.to.sc], .agg #[.string y.to.loc, .slice y.to.sa y.to.steps.length y.to.sc]] W fun e w' => e = .returned (.bool (placeQ x.to.d y.to.d)) ∧ Below W.heap.size W w') := hidIt fun W hW => equal_place x.to y.to W (PlaceX.At.on hx.1 hW) (PlaceX.At.on hy.1 hW)
 have c5 : Hid (∀ W, Below w.heap.size w W → Calls Tryz.prog 177 #[.slice x.aa x.args.length x.ac, .slice y.aa y.args.length y.ac, .func (.func 15) #[] #[]] W fun e w' => e = .returned (.bool (lq (fun x y => placeQ x.d y.d) x.args y.args)) ∧ Below W.heap.size W w') := hidIt fun W hW => equal_places _ _ _ _ _ _ _ (Pls.on (hx.2) hW) (Pls.on (hy.2) hW)
 clear hx hy
 simp only [StmtX.row]
 obtain ⟨v0, v1, v2, v3, v4, v5, e0, e1, e2, e3, e4, e5, eR⟩ : ∃ v0 v1 v2 v3 v4 v5 : Bool, (x.kind == y.kind) = v0 ∧ (x.n == y.n) = v1 ∧ (x.name.toList == y.name.toList) = v2 ∧ (x.variant.toList == y.variant.toList) = v3 ∧ (placeQ x.to.d y.to.d) = v4 ∧ (lq (fun x y => placeQ x.d y.d) x.args y.args) = v5 ∧ stmtQ x.d y.d = (v0 && (v1 && (v2 && (v3 && (v4 && (v5)))))) := ⟨_, _, _, _, _, _, rfl, rfl, rfl, rfl, rfl, rfl, by simp only [stmtQ, StmtX.d, lq_map, bq]; try rfl⟩
 rw [eR]
 clear eR
 rw [e4] at c4
 clear e4
 rw [e5] at c5
 clear e5
 have hb := hidIt (below_next (below_new w (.cells #[.int .i64 x.at_, .int .i64 x.kind, .string x.to.loc, .slice x.to.sa x.to.steps.length x.to.sc, .int .i64 x.n, .string x.name, .string x.variant, .slice x.aa x.args.length x.ac] 68)) (below_new _ (.cells #[.int .i64 y.at_, .int .i64 y.kind, .string y.to.loc, .slice y.to.sa y.to.steps.length y.to.sc, .int .i64 y.n, .string y.name, .string y.variant, .slice y.aa y.args.length y.ac] 68)))
 obtain ⟨hh1, hh2⟩ := two_at (w := w) (cs := #[.int .i64 x.at_, .int .i64 x.kind, .string x.to.loc, .slice x.to.sa x.to.steps.length x.to.sc, .int .i64 x.n, .string x.name, .string x.variant, .slice x.aa x.args.length x.ac]) (ds := #[.int .i64 y.at_, .int .i64 y.kind, .string y.to.loc, .slice y.to.sa y.to.steps.length y.to.sc, .int .i64 y.n, .string y.name, .string y.variant, .slice y.aa y.args.length y.ac]) (t := 68) (u := 68) rfl rfl (Below.refl _ _)
 have H1 := hidIt hh1
 have H2 := hidIt hh2
 clear hh1 hh2
 cases v0
 · clear c4 c5
   go_enter Tryz.func144, Tryz.ntmps144
   go_upto_region 1 with fail
   generalize ((w.alloc (.cells #[.int .i64 x.at_, .int .i64 x.kind, .string x.to.loc, .slice x.to.sa x.to.steps.length x.to.sc, .int .i64 x.n, .string x.name, .string x.variant, .slice x.aa x.args.length x.ac] 68)).alloc (.cells #[.int .i64 y.at_, .int .i64 y.kind, .string y.to.loc, .slice y.to.sa y.to.steps.length y.to.sc, .int .i64 y.n, .string y.name, .string y.variant, .slice y.aa y.args.length y.ac] 68)) = W at hb H1 H2 ⊢
   obtain ⟨p0, p1, p2, p3, p4, p5, p6, p7⟩ := cells_8 H1.out
   obtain ⟨q0, q1, q2, q3, q4, q5, q6, q7⟩ := cells_8 H2.out
   go_wp2
   go_ret
   exact ⟨rfl, hb.out⟩
 cases v1
 · clear c4 c5
   go_enter Tryz.func144, Tryz.ntmps144
   go_upto_region 1 with fail
   generalize ((w.alloc (.cells #[.int .i64 x.at_, .int .i64 x.kind, .string x.to.loc, .slice x.to.sa x.to.steps.length x.to.sc, .int .i64 x.n, .string x.name, .string x.variant, .slice x.aa x.args.length x.ac] 68)).alloc (.cells #[.int .i64 y.at_, .int .i64 y.kind, .string y.to.loc, .slice y.to.sa y.to.steps.length y.to.sc, .int .i64 y.n, .string y.name, .string y.variant, .slice y.aa y.args.length y.ac] 68)) = W at hb H1 H2 ⊢
   obtain ⟨p0, p1, p2, p3, p4, p5, p6, p7⟩ := cells_8 H1.out
   obtain ⟨q0, q1, q2, q3, q4, q5, q6, q7⟩ := cells_8 H2.out
   go_wp2
   go_ret
   exact ⟨rfl, hb.out⟩
 cases v2
 · clear c4 c5
   go_enter Tryz.func144, Tryz.ntmps144
   go_upto_region 1 with fail
   generalize ((w.alloc (.cells #[.int .i64 x.at_, .int .i64 x.kind, .string x.to.loc, .slice x.to.sa x.to.steps.length x.to.sc, .int .i64 x.n, .string x.name, .string x.variant, .slice x.aa x.args.length x.ac] 68)).alloc (.cells #[.int .i64 y.at_, .int .i64 y.kind, .string y.to.loc, .slice y.to.sa y.to.steps.length y.to.sc, .int .i64 y.n, .string y.name, .string y.variant, .slice y.aa y.args.length y.ac] 68)) = W at hb H1 H2 ⊢
   obtain ⟨p0, p1, p2, p3, p4, p5, p6, p7⟩ := cells_8 H1.out
   obtain ⟨q0, q1, q2, q3, q4, q5, q6, q7⟩ := cells_8 H2.out
   go_wp2
   go_ret
   exact ⟨rfl, hb.out⟩
 cases v3
 · clear c4 c5
   go_enter Tryz.func144, Tryz.ntmps144
   go_upto_region 1 with fail
   generalize ((w.alloc (.cells #[.int .i64 x.at_, .int .i64 x.kind, .string x.to.loc, .slice x.to.sa x.to.steps.length x.to.sc, .int .i64 x.n, .string x.name, .string x.variant, .slice x.aa x.args.length x.ac] 68)).alloc (.cells #[.int .i64 y.at_, .int .i64 y.kind, .string y.to.loc, .slice y.to.sa y.to.steps.length y.to.sc, .int .i64 y.n, .string y.name, .string y.variant, .slice y.aa y.args.length y.ac] 68)) = W at hb H1 H2 ⊢
   obtain ⟨p0, p1, p2, p3, p4, p5, p6, p7⟩ := cells_8 H1.out
   obtain ⟨q0, q1, q2, q3, q4, q5, q6, q7⟩ := cells_8 H2.out
   go_wp2
   go_ret
   exact ⟨rfl, hb.out⟩
 cases v4
 · clear c5
   go_enter Tryz.func144, Tryz.ntmps144
   go_upto_region 1 with fail
   generalize ((w.alloc (.cells #[.int .i64 x.at_, .int .i64 x.kind, .string x.to.loc, .slice x.to.sa x.to.steps.length x.to.sc, .int .i64 x.n, .string x.name, .string x.variant, .slice x.aa x.args.length x.ac] 68)).alloc (.cells #[.int .i64 y.at_, .int .i64 y.kind, .string y.to.loc, .slice y.to.sa y.to.steps.length y.to.sc, .int .i64 y.n, .string y.name, .string y.variant, .slice y.aa y.args.length y.ac] 68)) = W at hb H1 H2 ⊢
   obtain ⟨p0, p1, p2, p3, p4, p5, p6, p7⟩ := cells_8 H1.out
   obtain ⟨q0, q1, q2, q3, q4, q5, q6, q7⟩ := cells_8 H2.out
   go_wp2_with (go_at_call 15; refine (c4.out _ hb.out).mono ?_)
   rintro e w4 ⟨rfl, hq⟩
   have hb := hidIt (below_next hb.out hq)
   have H1 := hidIt (heap_on H1.out hq)
   have H2 := hidIt (heap_on H2.out hq)
   clear hq c4
   obtain ⟨p0, p1, p2, p3, p4, p5, p6, p7⟩ := cells_8 H1.out
   obtain ⟨q0, q1, q2, q3, q4, q5, q6, q7⟩ := cells_8 H2.out
   go_wp2
   go_ret
   exact ⟨rfl, hb.out⟩
 cases v5
 · go_enter Tryz.func144, Tryz.ntmps144
   go_upto_region 1 with fail
   generalize ((w.alloc (.cells #[.int .i64 x.at_, .int .i64 x.kind, .string x.to.loc, .slice x.to.sa x.to.steps.length x.to.sc, .int .i64 x.n, .string x.name, .string x.variant, .slice x.aa x.args.length x.ac] 68)).alloc (.cells #[.int .i64 y.at_, .int .i64 y.kind, .string y.to.loc, .slice y.to.sa y.to.steps.length y.to.sc, .int .i64 y.n, .string y.name, .string y.variant, .slice y.aa y.args.length y.ac] 68)) = W at hb H1 H2 ⊢
   obtain ⟨p0, p1, p2, p3, p4, p5, p6, p7⟩ := cells_8 H1.out
   obtain ⟨q0, q1, q2, q3, q4, q5, q6, q7⟩ := cells_8 H2.out
   go_wp2_with (go_at_call 15; refine (c4.out _ hb.out).mono ?_)
   rintro e w4 ⟨rfl, hq⟩
   have hb := hidIt (below_next hb.out hq)
   have H1 := hidIt (heap_on H1.out hq)
   have H2 := hidIt (heap_on H2.out hq)
   clear hq c4
   obtain ⟨p0, p1, p2, p3, p4, p5, p6, p7⟩ := cells_8 H1.out
   obtain ⟨q0, q1, q2, q3, q4, q5, q6, q7⟩ := cells_8 H2.out
   go_wp2_with (go_at_call 177; refine (c5.out _ hb.out).mono ?_)
   rintro e w5 ⟨rfl, hq⟩
   have hb := hidIt (below_next hb.out hq)
   have H1 := hidIt (heap_on H1.out hq)
   have H2 := hidIt (heap_on H2.out hq)
   clear hq c5
   obtain ⟨p0, p1, p2, p3, p4, p5, p6, p7⟩ := cells_8 H1.out
   obtain ⟨q0, q1, q2, q3, q4, q5, q6, q7⟩ := cells_8 H2.out
   go_wp2
   go_ret
   exact ⟨rfl, hb.out⟩
 go_enter Tryz.func144, Tryz.ntmps144
 go_upto_region 1 with fail
 generalize ((w.alloc (.cells #[.int .i64 x.at_, .int .i64 x.kind, .string x.to.loc, .slice x.to.sa x.to.steps.length x.to.sc, .int .i64 x.n, .string x.name, .string x.variant, .slice x.aa x.args.length x.ac] 68)).alloc (.cells #[.int .i64 y.at_, .int .i64 y.kind, .string y.to.loc, .slice y.to.sa y.to.steps.length y.to.sc, .int .i64 y.n, .string y.name, .string y.variant, .slice y.aa y.args.length y.ac] 68)) = W at hb H1 H2 ⊢
 obtain ⟨p0, p1, p2, p3, p4, p5, p6, p7⟩ := cells_8 H1.out
 obtain ⟨q0, q1, q2, q3, q4, q5, q6, q7⟩ := cells_8 H2.out
 go_wp2_with (go_at_call 15; refine (c4.out _ hb.out).mono ?_)
 rintro e w4 ⟨rfl, hq⟩
 have hb := hidIt (below_next hb.out hq)
 have H1 := hidIt (heap_on H1.out hq)
 have H2 := hidIt (heap_on H2.out hq)
 clear hq c4
 obtain ⟨p0, p1, p2, p3, p4, p5, p6, p7⟩ := cells_8 H1.out
 obtain ⟨q0, q1, q2, q3, q4, q5, q6, q7⟩ := cells_8 H2.out
 go_wp2_with (go_at_call 177; refine (c5.out _ hb.out).mono ?_)
 rintro e w5 ⟨rfl, hq⟩
 have hb := hidIt (below_next hb.out hq)
 have H1 := hidIt (heap_on H1.out hq)
 have H2 := hidIt (heap_on H2.out hq)
 clear hq c5
 obtain ⟨p0, p1, p2, p3, p4, p5, p6, p7⟩ := cells_8 H1.out
 obtain ⟨q0, q1, q2, q3, q4, q5, q6, q7⟩ := cells_8 H2.out
 go_wp2
 go_ret
 exact ⟨rfl, hb.out⟩

set_option maxHeartbeats 2000000 in
set_option maxRecDepth 100000 in
theorem equal_stmts (a b : Option Addr) (xs ys : List StmtX) (c d : Nat) (w : World) (h1 : Sts w a xs) (h2 : Sts w b ys) :
 Calls Tryz.prog 143 #[.slice a xs.length c, .slice b ys.length d, .func (.func 144) #[] #[]] w fun e w' => e = .returned (.bool (lq (fun x y => stmtQ x.d y.d) xs ys)) ∧ Below w.heap.size w w' := by
 have n1 := h1.1.big
 have n2 := h2.1.big
 rw [List.length_map] at n1 n2
 by_cases hnm : xs.length = ys.length
 · have H1 := hidIt h1
   have H2 := hidIt h2
   obtain ⟨n, hn⟩ : ∃ n, xs.length = n := ⟨_, rfl⟩
   rw [hn] at hnm
   rw [← hnm, hn]
   have hn1 := hidIt hn
   have hn2 := hidIt hnm
   rw [hn] at n1
   clear n2 hn hnm h1 h2
   obtain ⟨R, hR0⟩ : ∃ R, lq (fun x y => stmtQ x.d y.d) xs ys = R := ⟨_, rfl⟩
   rw [hR0]
   have hR := hidIt hR0
   clear hR0
   go_enter Tryz.func143, Tryz.ntmps143
   go_wp2
   go_loopg [17] n (fun g s17 wr => ∃ k : Nat, k ≤ n ∧ n - k ≤ g ∧ s17 = .int .i64 k ∧ Hid (Below w.heap.size w wr) ∧ Hid (∀ (j : Nat) (x y : StmtX), j < k → xs[j]? = some x → ys[j]? = some y → stmtQ x.d y.d = true))
   case atStart => exact ⟨0, Nat.zero_le _, by omega, rfl, hidIt (Below.refl _ _), hidIt fun j x y hj => absurd hj (Nat.not_lt_zero _)⟩
   case round =>
    obtain ⟨k, hk, hg, rfl, hb, A⟩ := hrel
    by_cases hlt : k < n
    · obtain ⟨x, hx⟩ : ∃ x, xs[k]? = some x := ⟨_, List.getElem?_eq_getElem (by rw [hn1.out]; exact hlt)⟩
      obtain ⟨y, hy⟩ : ∃ y, ys[k]? = some y := ⟨_, List.getElem?_eq_getElem (by rw [← hn2.out]; exact hlt)⟩
      obtain ⟨b1, o1, rfl, z1, g1⟩ := H1.out.1.cells (j := k) (r := x.row) (by rw [List.getElem?_map, hx]; rfl)
      obtain ⟨b2, o2, rfl, z2, g2⟩ := H2.out.1.cells (j := k) (r := y.row) (by rw [List.getElem?_map, hy]; rfl)
      have c1 : Hid (∀ W, Below w.heap.size w W → Calls Tryz.prog 144 #[.agg x.row.toArray, .agg y.row.toArray] W fun e w' => e = .returned (.bool (stmtQ x.d y.d)) ∧ Below W.heap.size W w') := hidIt fun W hW =>
       same_stmt x y W ((H1.out.2 x (List.mem_of_getElem? hx)).on hW) ((H2.out.2 y (List.mem_of_getElem? hy)).on hW)
      have Hx := hidIt hx
      have Hy := hidIt hy
      have G2 := hidIt g2
      have p0 := g1 wr hb.out 0 _ rfl
      have p1 := g1 wr hb.out 1 _ rfl
      have p2 := g1 wr hb.out 2 _ rfl
      have p3 := g1 wr hb.out 3 _ rfl
      have p4 := g1 wr hb.out 4 _ rfl
      have p5 := g1 wr hb.out 5 _ rfl
      have p6 := g1 wr hb.out 6 _ rfl
      have p7 := g1 wr hb.out 7 _ rfl
      rw [Nat.add_zero] at p0
      clear g1 g2 hx hy z1 z2
      simp only [StmtX.row] at c1
      go_upto_region 6 with fail
      have hb1 := hidIt (below_next hb.out (below_new wr (.cells #[.int .i64 x.at_, .int .i64 x.kind, .string x.to.loc, .slice x.to.sa x.to.steps.length x.to.sc, .int .i64 x.n, .string x.name, .string x.variant, .slice x.aa x.args.length x.ac] 68)))
      have hh1 := heap_alloc_new wr (.cells #[.int .i64 x.at_, .int .i64 x.kind, .string x.to.loc, .slice x.to.sa x.to.steps.length x.to.sc, .int .i64 x.n, .string x.name, .string x.variant, .slice x.aa x.args.length x.ac] 68)
      clear p0 p1 p2 p3 p4 p5 p6 p7 hb
      generalize wr.alloc (.cells #[.int .i64 x.at_, .int .i64 x.kind, .string x.to.loc, .slice x.to.sa x.to.steps.length x.to.sc, .int .i64 x.n, .string x.name, .string x.variant, .slice x.aa x.args.length x.ac] 68) = w1 at hb1 hh1 ⊢
      generalize wr.heap.size = B1 at hh1 ⊢
      have p0 := G2.out w1 hb1.out 0 _ rfl
      have p1 := G2.out w1 hb1.out 1 _ rfl
      have p2 := G2.out w1 hb1.out 2 _ rfl
      have p3 := G2.out w1 hb1.out 3 _ rfl
      have p4 := G2.out w1 hb1.out 4 _ rfl
      have p5 := G2.out w1 hb1.out 5 _ rfl
      have p6 := G2.out w1 hb1.out 6 _ rfl
      have p7 := G2.out w1 hb1.out 7 _ rfl
      rw [Nat.add_zero] at p0
      have hh1 := hidIt hh1
      go_upto_region 7 with fail
      have hb2 := hidIt (below_next hb1.out (below_new w1 (.cells #[.int .i64 y.at_, .int .i64 y.kind, .string y.to.loc, .slice y.to.sa y.to.steps.length y.to.sc, .int .i64 y.n, .string y.name, .string y.variant, .slice y.aa y.args.length y.ac] 68)))
      have hh2 := heap_alloc_new w1 (.cells #[.int .i64 y.at_, .int .i64 y.kind, .string y.to.loc, .slice y.to.sa y.to.steps.length y.to.sc, .int .i64 y.n, .string y.name, .string y.variant, .slice y.aa y.args.length y.ac] 68)
      have hh3 := heap_on hh1.out (below_new w1 (.cells #[.int .i64 y.at_, .int .i64 y.kind, .string y.to.loc, .slice y.to.sa y.to.steps.length y.to.sc, .int .i64 y.n, .string y.name, .string y.variant, .slice y.aa y.args.length y.ac] 68))
      clear p0 p1 p2 p3 p4 p5 p6 p7 hb1
      generalize w1.alloc (.cells #[.int .i64 y.at_, .int .i64 y.kind, .string y.to.loc, .slice y.to.sa y.to.steps.length y.to.sc, .int .i64 y.n, .string y.name, .string y.variant, .slice y.aa y.args.length y.ac] 68) = w2 at hb2 hh2 hh3 ⊢
      generalize w1.heap.size = B2 at hh2 ⊢
      obtain ⟨q0, q1, q2, q3, q4, q5, q6, q7⟩ := cells_8 hh3
      obtain ⟨r0, r1, r2, r3, r4, r5, r6, r7⟩ := cells_8 hh2
      clear hh1 hh2 hh3
      cases hxy : stmtQ x.d y.d with
      | true =>
       rw [hxy] at c1
       have hxy := hidIt hxy
       go_wp2_with (go_at_call 144; refine (c1.out _ hb2.out).mono ?_; rintro e w' ⟨rfl, hq⟩; have hb3 := hidIt (below_next hb2.out hq); clear hq)
       go_roundg (n - (k + 1))
       case measure => omega
       case rel =>
        refine ⟨k + 1, by omega, by omega, by go_num, hb3, hidIt fun j u v hj hu hv => ?_⟩
        by_cases e : j = k
        · subst e
          obtain rfl : x = u := Option.some.inj (Hx.out.symm.trans hu)
          obtain rfl : y = v := Option.some.inj (Hy.out.symm.trans hv)
          exact hxy.out
        · exact A.out j u v (by omega) hu hv
      | false =>
       rw [hxy] at c1
       obtain rfl : false = R := (lq_at (f := fun x y => stmtQ x.d y.d) Hx.out Hy.out hxy).symm.trans hR.out
       have hxy := hidIt hxy
       go_wp2_with (go_at_call 144; refine (c1.out _ hb2.out).mono ?_; rintro e w' ⟨rfl, hq⟩; have hb3 := hidIt (below_next hb2.out hq); clear hq)
       go_ret
       exact ⟨rfl, hb3.out⟩
    · have : k = n := by omega
      subst this
      obtain rfl : true = R := by
       refine (lq_all (f := fun x y => stmtQ x.d y.d) (by rw [hn1.out]; exact hn2.out) fun j x y hj hy => A.out j x y ?_ hj hy).symm.trans hR.out
       have := (List.getElem?_eq_some_iff.1 hj).1
       rw [hn1.out] at this
       exact this
      go_wp2
      go_ret
      exact ⟨rfl, hb.out⟩
 · have e0 : lq (fun x y => stmtQ x.d y.d) xs ys = false := lq_len hnm
   rw [e0]
   clear e0
   have hnm' : ¬ (xs.length : Int) = (ys.length : Int) := by omega
   clear h1 h2 hnm
   generalize xs.length = n at *
   generalize ys.length = m at *
   go_enter Tryz.func143, Tryz.ntmps143
   go_wp2
   go_ret
   exact ⟨rfl, Below.refl _ _⟩

set_option maxHeartbeats 2000000 in
set_option maxRecDepth 100000 in
theorem same_term (x y : TermX) (w : World) (hx : x.At w) (hy : y.At w) :
 Calls Tryz.prog 145 #[.agg x.row.toArray, .agg y.row.toArray] w fun e w' => e = .returned (.bool (termQ x.d y.d)) ∧ Below w.heap.size w w' := by
 have c2 : Hid (∀ W, Below w.heap.size w W → Calls Tryz.prog 15 #[.agg #[.string x.to.loc, .slice x.to.sa x.to.steps.length x.to.sc], .agg #[.string y.to.loc, .slice y.to.sa y.to.steps.length y.to.sc]] W fun e w' => e = .returned (.bool (placeQ x.to.d y.to.d)) ∧ Below W.heap.size W w') := hidIt fun W hW => equal_place x.to y.to W (PlaceX.At.on hx.1 hW) (PlaceX.At.on hy.1 hW)
 have c3 : Hid (∀ W, Below w.heap.size w W → Calls Tryz.prog 177 #[.slice x.aa x.args.length x.ac, .slice y.aa y.args.length y.ac, .func (.func 15) #[] #[]] W fun e w' => e = .returned (.bool (lq (fun x y => placeQ x.d y.d) x.args y.args)) ∧ Below W.heap.size W w') := hidIt fun W hW => equal_places _ _ _ _ _ _ _ (Pls.on (hx.2.1) hW) (Pls.on (hy.2.1) hW)
 have c4 : Hid (∀ W, Below w.heap.size w W → Calls Tryz.prog 43 #[.slice x.ba x.blocks.length x.bc, .slice y.ba y.blocks.length y.bc] W fun e w' => e = .returned (.bool (sq x.blocks y.blocks)) ∧ Below W.heap.size W w') := hidIt fun W hW => ((equal_strs _ _ _ _ _ _ W (St.on hx.2.2.1 hW) (St.on hy.2.2.1 hW)).mono fun e w1 ⟨he, q, hq⟩ => ⟨he, hq ▸ below_drewN W q⟩)
 have c5 : Hid (∀ W, Below w.heap.size w W → Calls Tryz.prog 178 #[.slice x.ra x.arms.length x.rc, .slice y.ra y.arms.length y.rc] W fun e w' => e = .returned (.bool (lq armQ x.arms y.arms)) ∧ Below W.heap.size W w') := hidIt fun W hW => equal_arms _ _ _ _ _ _ _ (Ars.on hx.2.2.2 hW) (Ars.on hy.2.2.2 hW)
 clear hx hy
 simp only [TermX.row]
 obtain ⟨v0, v1, v2, v3, v4, v5, e0, e1, e2, e3, e4, e5, eR⟩ : ∃ v0 v1 v2 v3 v4 v5 : Bool, (x.kind == y.kind) = v0 ∧ (x.name.toList == y.name.toList) = v1 ∧ (placeQ x.to.d y.to.d) = v2 ∧ (lq (fun x y => placeQ x.d y.d) x.args y.args) = v3 ∧ (sq x.blocks y.blocks) = v4 ∧ (lq armQ x.arms y.arms) = v5 ∧ termQ x.d y.d = (v0 && (v1 && (v2 && (v3 && (v4 && (v5)))))) := ⟨_, _, _, _, _, _, rfl, rfl, rfl, rfl, rfl, rfl, by simp only [termQ, TermX.d, lq_map, bq]; try rfl⟩
 rw [eR]
 clear eR
 rw [e2] at c2
 clear e2
 rw [e3] at c3
 clear e3
 rw [e4] at c4
 clear e4
 rw [e5] at c5
 clear e5
 have hb := hidIt (below_next (below_new w (.cells #[.int .i64 x.at_, .int .i64 x.kind, .string x.to.loc, .slice x.to.sa x.to.steps.length x.to.sc, .string x.name, .slice x.aa x.args.length x.ac, .slice x.ba x.blocks.length x.bc, .slice x.ra x.arms.length x.rc] 61)) (below_new _ (.cells #[.int .i64 y.at_, .int .i64 y.kind, .string y.to.loc, .slice y.to.sa y.to.steps.length y.to.sc, .string y.name, .slice y.aa y.args.length y.ac, .slice y.ba y.blocks.length y.bc, .slice y.ra y.arms.length y.rc] 61)))
 obtain ⟨hh1, hh2⟩ := two_at (w := w) (cs := #[.int .i64 x.at_, .int .i64 x.kind, .string x.to.loc, .slice x.to.sa x.to.steps.length x.to.sc, .string x.name, .slice x.aa x.args.length x.ac, .slice x.ba x.blocks.length x.bc, .slice x.ra x.arms.length x.rc]) (ds := #[.int .i64 y.at_, .int .i64 y.kind, .string y.to.loc, .slice y.to.sa y.to.steps.length y.to.sc, .string y.name, .slice y.aa y.args.length y.ac, .slice y.ba y.blocks.length y.bc, .slice y.ra y.arms.length y.rc]) (t := 61) (u := 61) rfl rfl (Below.refl _ _)
 have H1 := hidIt hh1
 have H2 := hidIt hh2
 clear hh1 hh2
 cases v0
 · clear c2 c3 c4 c5
   go_enter Tryz.func145, Tryz.ntmps145
   go_upto_region 1 with fail
   generalize ((w.alloc (.cells #[.int .i64 x.at_, .int .i64 x.kind, .string x.to.loc, .slice x.to.sa x.to.steps.length x.to.sc, .string x.name, .slice x.aa x.args.length x.ac, .slice x.ba x.blocks.length x.bc, .slice x.ra x.arms.length x.rc] 61)).alloc (.cells #[.int .i64 y.at_, .int .i64 y.kind, .string y.to.loc, .slice y.to.sa y.to.steps.length y.to.sc, .string y.name, .slice y.aa y.args.length y.ac, .slice y.ba y.blocks.length y.bc, .slice y.ra y.arms.length y.rc] 61)) = W at hb H1 H2 ⊢
   obtain ⟨p0, p1, p2, p3, p4, p5, p6, p7⟩ := cells_8 H1.out
   obtain ⟨q0, q1, q2, q3, q4, q5, q6, q7⟩ := cells_8 H2.out
   go_wp2
   go_ret
   exact ⟨rfl, hb.out⟩
 cases v1
 · clear c2 c3 c4 c5
   go_enter Tryz.func145, Tryz.ntmps145
   go_upto_region 1 with fail
   generalize ((w.alloc (.cells #[.int .i64 x.at_, .int .i64 x.kind, .string x.to.loc, .slice x.to.sa x.to.steps.length x.to.sc, .string x.name, .slice x.aa x.args.length x.ac, .slice x.ba x.blocks.length x.bc, .slice x.ra x.arms.length x.rc] 61)).alloc (.cells #[.int .i64 y.at_, .int .i64 y.kind, .string y.to.loc, .slice y.to.sa y.to.steps.length y.to.sc, .string y.name, .slice y.aa y.args.length y.ac, .slice y.ba y.blocks.length y.bc, .slice y.ra y.arms.length y.rc] 61)) = W at hb H1 H2 ⊢
   obtain ⟨p0, p1, p2, p3, p4, p5, p6, p7⟩ := cells_8 H1.out
   obtain ⟨q0, q1, q2, q3, q4, q5, q6, q7⟩ := cells_8 H2.out
   go_wp2
   go_ret
   exact ⟨rfl, hb.out⟩
 cases v2
 · clear c3 c4 c5
   go_enter Tryz.func145, Tryz.ntmps145
   go_upto_region 1 with fail
   generalize ((w.alloc (.cells #[.int .i64 x.at_, .int .i64 x.kind, .string x.to.loc, .slice x.to.sa x.to.steps.length x.to.sc, .string x.name, .slice x.aa x.args.length x.ac, .slice x.ba x.blocks.length x.bc, .slice x.ra x.arms.length x.rc] 61)).alloc (.cells #[.int .i64 y.at_, .int .i64 y.kind, .string y.to.loc, .slice y.to.sa y.to.steps.length y.to.sc, .string y.name, .slice y.aa y.args.length y.ac, .slice y.ba y.blocks.length y.bc, .slice y.ra y.arms.length y.rc] 61)) = W at hb H1 H2 ⊢
   obtain ⟨p0, p1, p2, p3, p4, p5, p6, p7⟩ := cells_8 H1.out
   obtain ⟨q0, q1, q2, q3, q4, q5, q6, q7⟩ := cells_8 H2.out
   go_wp2_with (go_at_call 15; refine (c2.out _ hb.out).mono ?_)
   rintro e w2 ⟨rfl, hq⟩
   have hb := hidIt (below_next hb.out hq)
   have H1 := hidIt (heap_on H1.out hq)
   have H2 := hidIt (heap_on H2.out hq)
   clear hq c2
   obtain ⟨p0, p1, p2, p3, p4, p5, p6, p7⟩ := cells_8 H1.out
   obtain ⟨q0, q1, q2, q3, q4, q5, q6, q7⟩ := cells_8 H2.out
   go_wp2
   go_ret
   exact ⟨rfl, hb.out⟩
 cases v3
 · clear c4 c5
   go_enter Tryz.func145, Tryz.ntmps145
   go_upto_region 1 with fail
   generalize ((w.alloc (.cells #[.int .i64 x.at_, .int .i64 x.kind, .string x.to.loc, .slice x.to.sa x.to.steps.length x.to.sc, .string x.name, .slice x.aa x.args.length x.ac, .slice x.ba x.blocks.length x.bc, .slice x.ra x.arms.length x.rc] 61)).alloc (.cells #[.int .i64 y.at_, .int .i64 y.kind, .string y.to.loc, .slice y.to.sa y.to.steps.length y.to.sc, .string y.name, .slice y.aa y.args.length y.ac, .slice y.ba y.blocks.length y.bc, .slice y.ra y.arms.length y.rc] 61)) = W at hb H1 H2 ⊢
   obtain ⟨p0, p1, p2, p3, p4, p5, p6, p7⟩ := cells_8 H1.out
   obtain ⟨q0, q1, q2, q3, q4, q5, q6, q7⟩ := cells_8 H2.out
   go_wp2_with (go_at_call 15; refine (c2.out _ hb.out).mono ?_)
   rintro e w2 ⟨rfl, hq⟩
   have hb := hidIt (below_next hb.out hq)
   have H1 := hidIt (heap_on H1.out hq)
   have H2 := hidIt (heap_on H2.out hq)
   clear hq c2
   obtain ⟨p0, p1, p2, p3, p4, p5, p6, p7⟩ := cells_8 H1.out
   obtain ⟨q0, q1, q2, q3, q4, q5, q6, q7⟩ := cells_8 H2.out
   go_wp2_with (go_at_call 177; refine (c3.out _ hb.out).mono ?_)
   rintro e w3 ⟨rfl, hq⟩
   have hb := hidIt (below_next hb.out hq)
   have H1 := hidIt (heap_on H1.out hq)
   have H2 := hidIt (heap_on H2.out hq)
   clear hq c3
   obtain ⟨p0, p1, p2, p3, p4, p5, p6, p7⟩ := cells_8 H1.out
   obtain ⟨q0, q1, q2, q3, q4, q5, q6, q7⟩ := cells_8 H2.out
   go_wp2
   go_ret
   exact ⟨rfl, hb.out⟩
 cases v4
 · clear c5
   go_enter Tryz.func145, Tryz.ntmps145
   go_upto_region 1 with fail
   generalize ((w.alloc (.cells #[.int .i64 x.at_, .int .i64 x.kind, .string x.to.loc, .slice x.to.sa x.to.steps.length x.to.sc, .string x.name, .slice x.aa x.args.length x.ac, .slice x.ba x.blocks.length x.bc, .slice x.ra x.arms.length x.rc] 61)).alloc (.cells #[.int .i64 y.at_, .int .i64 y.kind, .string y.to.loc, .slice y.to.sa y.to.steps.length y.to.sc, .string y.name, .slice y.aa y.args.length y.ac, .slice y.ba y.blocks.length y.bc, .slice y.ra y.arms.length y.rc] 61)) = W at hb H1 H2 ⊢
   obtain ⟨p0, p1, p2, p3, p4, p5, p6, p7⟩ := cells_8 H1.out
   obtain ⟨q0, q1, q2, q3, q4, q5, q6, q7⟩ := cells_8 H2.out
   go_wp2_with (go_at_call 15; refine (c2.out _ hb.out).mono ?_)
   rintro e w2 ⟨rfl, hq⟩
   have hb := hidIt (below_next hb.out hq)
   have H1 := hidIt (heap_on H1.out hq)
   have H2 := hidIt (heap_on H2.out hq)
   clear hq c2
   obtain ⟨p0, p1, p2, p3, p4, p5, p6, p7⟩ := cells_8 H1.out
   obtain ⟨q0, q1, q2, q3, q4, q5, q6, q7⟩ := cells_8 H2.out
   go_wp2_with (go_at_call 177; refine (c3.out _ hb.out).mono ?_)
   rintro e w3 ⟨rfl, hq⟩
   have hb := hidIt (below_next hb.out hq)
   have H1 := hidIt (heap_on H1.out hq)
   have H2 := hidIt (heap_on H2.out hq)
   clear hq c3
   obtain ⟨p0, p1, p2, p3, p4, p5, p6, p7⟩ := cells_8 H1.out
   obtain ⟨q0, q1, q2, q3, q4, q5, q6, q7⟩ := cells_8 H2.out
   go_wp2_with (go_at_call 43; refine (c4.out _ hb.out).mono ?_)
   rintro e w4 ⟨rfl, hq⟩
   have hb := hidIt (below_next hb.out hq)
   have H1 := hidIt (heap_on H1.out hq)
   have H2 := hidIt (heap_on H2.out hq)
   clear hq c4
   obtain ⟨p0, p1, p2, p3, p4, p5, p6, p7⟩ := cells_8 H1.out
   obtain ⟨q0, q1, q2, q3, q4, q5, q6, q7⟩ := cells_8 H2.out
   go_wp2
   go_ret
   exact ⟨rfl, hb.out⟩
 cases v5
 · go_enter Tryz.func145, Tryz.ntmps145
   go_upto_region 1 with fail
   generalize ((w.alloc (.cells #[.int .i64 x.at_, .int .i64 x.kind, .string x.to.loc, .slice x.to.sa x.to.steps.length x.to.sc, .string x.name, .slice x.aa x.args.length x.ac, .slice x.ba x.blocks.length x.bc, .slice x.ra x.arms.length x.rc] 61)).alloc (.cells #[.int .i64 y.at_, .int .i64 y.kind, .string y.to.loc, .slice y.to.sa y.to.steps.length y.to.sc, .string y.name, .slice y.aa y.args.length y.ac, .slice y.ba y.blocks.length y.bc, .slice y.ra y.arms.length y.rc] 61)) = W at hb H1 H2 ⊢
   obtain ⟨p0, p1, p2, p3, p4, p5, p6, p7⟩ := cells_8 H1.out
   obtain ⟨q0, q1, q2, q3, q4, q5, q6, q7⟩ := cells_8 H2.out
   go_wp2_with (go_at_call 15; refine (c2.out _ hb.out).mono ?_)
   rintro e w2 ⟨rfl, hq⟩
   have hb := hidIt (below_next hb.out hq)
   have H1 := hidIt (heap_on H1.out hq)
   have H2 := hidIt (heap_on H2.out hq)
   clear hq c2
   obtain ⟨p0, p1, p2, p3, p4, p5, p6, p7⟩ := cells_8 H1.out
   obtain ⟨q0, q1, q2, q3, q4, q5, q6, q7⟩ := cells_8 H2.out
   go_wp2_with (go_at_call 177; refine (c3.out _ hb.out).mono ?_)
   rintro e w3 ⟨rfl, hq⟩
   have hb := hidIt (below_next hb.out hq)
   have H1 := hidIt (heap_on H1.out hq)
   have H2 := hidIt (heap_on H2.out hq)
   clear hq c3
   obtain ⟨p0, p1, p2, p3, p4, p5, p6, p7⟩ := cells_8 H1.out
   obtain ⟨q0, q1, q2, q3, q4, q5, q6, q7⟩ := cells_8 H2.out
   go_wp2_with (go_at_call 43; refine (c4.out _ hb.out).mono ?_)
   rintro e w4 ⟨rfl, hq⟩
   have hb := hidIt (below_next hb.out hq)
   have H1 := hidIt (heap_on H1.out hq)
   have H2 := hidIt (heap_on H2.out hq)
   clear hq c4
   obtain ⟨p0, p1, p2, p3, p4, p5, p6, p7⟩ := cells_8 H1.out
   obtain ⟨q0, q1, q2, q3, q4, q5, q6, q7⟩ := cells_8 H2.out
   go_wp2_with (go_at_call 178; refine (c5.out _ hb.out).mono ?_)
   rintro e w5 ⟨rfl, hq⟩
   have hb := hidIt (below_next hb.out hq)
   have H1 := hidIt (heap_on H1.out hq)
   have H2 := hidIt (heap_on H2.out hq)
   clear hq c5
   obtain ⟨p0, p1, p2, p3, p4, p5, p6, p7⟩ := cells_8 H1.out
   obtain ⟨q0, q1, q2, q3, q4, q5, q6, q7⟩ := cells_8 H2.out
   go_wp2
   go_ret
   exact ⟨rfl, hb.out⟩
 go_enter Tryz.func145, Tryz.ntmps145
 go_upto_region 1 with fail
 generalize ((w.alloc (.cells #[.int .i64 x.at_, .int .i64 x.kind, .string x.to.loc, .slice x.to.sa x.to.steps.length x.to.sc, .string x.name, .slice x.aa x.args.length x.ac, .slice x.ba x.blocks.length x.bc, .slice x.ra x.arms.length x.rc] 61)).alloc (.cells #[.int .i64 y.at_, .int .i64 y.kind, .string y.to.loc, .slice y.to.sa y.to.steps.length y.to.sc, .string y.name, .slice y.aa y.args.length y.ac, .slice y.ba y.blocks.length y.bc, .slice y.ra y.arms.length y.rc] 61)) = W at hb H1 H2 ⊢
 obtain ⟨p0, p1, p2, p3, p4, p5, p6, p7⟩ := cells_8 H1.out
 obtain ⟨q0, q1, q2, q3, q4, q5, q6, q7⟩ := cells_8 H2.out
 go_wp2_with (go_at_call 15; refine (c2.out _ hb.out).mono ?_)
 rintro e w2 ⟨rfl, hq⟩
 have hb := hidIt (below_next hb.out hq)
 have H1 := hidIt (heap_on H1.out hq)
 have H2 := hidIt (heap_on H2.out hq)
 clear hq c2
 obtain ⟨p0, p1, p2, p3, p4, p5, p6, p7⟩ := cells_8 H1.out
 obtain ⟨q0, q1, q2, q3, q4, q5, q6, q7⟩ := cells_8 H2.out
 go_wp2_with (go_at_call 177; refine (c3.out _ hb.out).mono ?_)
 rintro e w3 ⟨rfl, hq⟩
 have hb := hidIt (below_next hb.out hq)
 have H1 := hidIt (heap_on H1.out hq)
 have H2 := hidIt (heap_on H2.out hq)
 clear hq c3
 obtain ⟨p0, p1, p2, p3, p4, p5, p6, p7⟩ := cells_8 H1.out
 obtain ⟨q0, q1, q2, q3, q4, q5, q6, q7⟩ := cells_8 H2.out
 go_wp2_with (go_at_call 43; refine (c4.out _ hb.out).mono ?_)
 rintro e w4 ⟨rfl, hq⟩
 have hb := hidIt (below_next hb.out hq)
 have H1 := hidIt (heap_on H1.out hq)
 have H2 := hidIt (heap_on H2.out hq)
 clear hq c4
 obtain ⟨p0, p1, p2, p3, p4, p5, p6, p7⟩ := cells_8 H1.out
 obtain ⟨q0, q1, q2, q3, q4, q5, q6, q7⟩ := cells_8 H2.out
 go_wp2_with (go_at_call 178; refine (c5.out _ hb.out).mono ?_)
 rintro e w5 ⟨rfl, hq⟩
 have hb := hidIt (below_next hb.out hq)
 have H1 := hidIt (heap_on H1.out hq)
 have H2 := hidIt (heap_on H2.out hq)
 clear hq c5
 obtain ⟨p0, p1, p2, p3, p4, p5, p6, p7⟩ := cells_8 H1.out
 obtain ⟨q0, q1, q2, q3, q4, q5, q6, q7⟩ := cells_8 H2.out
 go_wp2
 go_ret
 exact ⟨rfl, hb.out⟩

end Go.Proofs.YtlppbgmcoknliaaGreatDoor
