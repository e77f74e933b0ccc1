/-
  The walks of cloneBlock, cloneFunc, and Clone.
-/
import Derived.Test.YtlppbgmcoknliaaGreatDoorCln3
import Derived.Deep.RegionHeld3
namespace Go.Proofs.YtlppbgmcoknliaaGreatDoor
set_option linter.unusedVariables false
open Go.RowKit

set_option maxHeartbeats 2000000 in
set_option maxRecDepth 100000 in
theorem clone_b (x : BlockX) (w : World) (hx : x.At w) :
 Calls Tryz.prog 114 #[.agg #[.int .i64 x.at_, .string x.name, .slice x.sa x.stmts.length x.sc, .int .i64 x.term.at_, .int .i64 x.term.kind, .string x.term.to.loc, .slice x.term.to.sa x.term.to.steps.length x.term.to.sc, .string x.term.name, .slice x.term.aa x.term.args.length x.term.ac, .slice x.term.ba x.term.blocks.length x.term.bc, .slice x.term.ra x.term.arms.length x.term.rc]] w fun e w' => ∃ y : BlockX, e = .returned (.agg #[.int .i64 y.at_, .string y.name, .slice y.sa y.stmts.length y.sc, .int .i64 y.term.at_, .int .i64 y.term.kind, .string y.term.to.loc, .slice y.term.to.sa y.term.to.steps.length y.term.to.sc, .string y.term.name, .slice y.term.aa y.term.args.length y.term.ac, .slice y.term.ba y.term.blocks.length y.term.bc, .slice y.term.ra y.term.arms.length y.term.rc]) ∧ y.d = x.d ∧ (y.At w' ∧ y.New w.heap.size) ∧ Below w.heap.size w w' := by
 have c0c : Hid (∀ W, Below w.heap.size w W → Calls Tryz.prog 147 #[.slice x.sa x.stmts.length x.sc, .func (.func 148) #[] #[]] W fun e w' => ∃ a' c' ys, e = .returned (.slice a' x.stmts.length c') ∧ ys.length = x.stmts.length ∧ ys.map StmtX.d = x.stmts.map StmtX.d ∧ (Sts w' a' ys ∧ (NewA W.heap.size a' ys.length ∧ ∀ y ∈ ys, y.New W.heap.size)) ∧ Below W.heap.size W w') := hidIt fun W hW => (anew_stmt _ _ _ W (hx.1.on hW) fun W2 p hp hW2 => (clone_s p W2 ((StmtX.At.on (hx.1.2 p hp) hW).on hW2)).mono fun e w1 ⟨y, h1, h2, h3, h4⟩ => ⟨y, h1, h2, h3.1, h3.2, h4⟩).mono fun e w1 ⟨a, c, ys, h1, h2, h3, h4, h5, h6⟩ => ⟨a, c, ys, h1, h2, h3, ⟨h4, h5⟩, h6⟩
 have c1c : Hid (∀ W, Below w.heap.size w W → Calls Tryz.prog 149 #[.agg #[.int .i64 x.term.at_, .int .i64 x.term.kind, .string x.term.to.loc, .slice x.term.to.sa x.term.to.steps.length x.term.to.sc, .string x.term.name, .slice x.term.aa x.term.args.length x.term.ac, .slice x.term.ba x.term.blocks.length x.term.bc, .slice x.term.ra x.term.arms.length x.term.rc]] W fun e w' => ∃ y : TermX, e = .returned (.agg #[.int .i64 y.at_, .int .i64 y.kind, .string y.to.loc, .slice y.to.sa y.to.steps.length y.to.sc, .string y.name, .slice y.aa y.args.length y.ac, .slice y.ba y.blocks.length y.bc, .slice y.ra y.arms.length y.rc]) ∧ y.d = x.term.d ∧ (y.At w' ∧ y.New W.heap.size) ∧ Below W.heap.size W w') := hidIt fun W hW => clone_t x.term W (hx.2.on hW)
 clear hx
 have hb := hidIt (below_next (below_new w (.cells #[.int .i64 x.at_, .string x.name, .slice x.sa x.stmts.length x.sc, .int .i64 x.term.at_, .int .i64 x.term.kind, .string x.term.to.loc, .slice x.term.to.sa x.term.to.steps.length x.term.to.sc, .string x.term.name, .slice x.term.aa x.term.args.length x.term.ac, .slice x.term.ba x.term.blocks.length x.term.bc, .slice x.term.ra x.term.arms.length x.term.rc] 64)) (below_new _ (.cells #[.int .i64 0, .string ⟨#[]⟩, .slice none 0 0, .int .i64 0, .int .i64 0, .string ⟨#[]⟩, .slice none 0 0, .string ⟨#[]⟩, .slice none 0 0, .slice none 0 0, .slice none 0 0] 64)))
 obtain ⟨hh1, hh2⟩ := two_at (w := w) (cs := #[.int .i64 x.at_, .string x.name, .slice x.sa x.stmts.length x.sc, .int .i64 x.term.at_, .int .i64 x.term.kind, .string x.term.to.loc, .slice x.term.to.sa x.term.to.steps.length x.term.to.sc, .string x.term.name, .slice x.term.aa x.term.args.length x.term.ac, .slice x.term.ba x.term.blocks.length x.term.bc, .slice x.term.ra x.term.arms.length x.term.rc]) (ds := #[.int .i64 0, .string ⟨#[]⟩, .slice none 0 0, .int .i64 0, .int .i64 0, .string ⟨#[]⟩, .slice none 0 0, .string ⟨#[]⟩, .slice none 0 0, .slice none 0 0, .slice none 0 0]) (t := 64) (u := 64) rfl rfl (Below.refl _ _)
 have H1 := hidIt hh1
 have H2 := hidIt hh2
 clear hh1 hh2
 go_enter Tryz.func114, Tryz.ntmps114
 have SZ := hidIt (lt_of_block H2.out)
 go_wp2_with (go_at_call 147; refine (c0c.out _ hb.out).mono ?_)
 rintro e w0 ⟨a0, c0, ys0, rfl, l0, d0, ⟨s0, n0⟩, hq⟩
 have hb := hidIt (below_next hb.out hq)
 have H1 := hidIt (heap_on H1.out hq)
 have H2 := hidIt (heap_on H2.out hq)
 have A0 : Hid (Sts w0 a0 ys0 ∧ (NewA (w.heap.size + 2) a0 ys0.length ∧ ∀ y ∈ ys0, y.New (w.heap.size + 2))) := hidIt ⟨s0, And.intro (n0.1.mono SZ.out) fun y hy => (n0.2 y hy).mono SZ.out⟩
 have L0 := hidIt l0
 have D0 := hidIt d0
 clear hq c0c s0 n0 SZ l0 d0 
 obtain ⟨p0, p1, p2, p3, p4, p5, p6, p7, p8, p9, p10⟩ := cells_11 H1.out
 have k2 : w0.frozen? ⟨w.heap.size, 2, none⟩ = false := frozen_at H1.out 2
 have H2 : Hid ((w0.setCell ⟨w.heap.size, 2, none⟩ (.slice a0 x.stmts.length c0)).heap[w.heap.size + 1]? = some (.cells #[.int .i64 0, .string ⟨#[]⟩, .slice none 0 0, .int .i64 0, .int .i64 0, .string ⟨#[]⟩, .slice none 0 0, .string ⟨#[]⟩, .slice none 0 0, .slice none 0 0, .slice none 0 0] 64 (0, 0))) := hidIt ((Below.heap_setCell _ _ _ _ (by show w.heap.size + 1 ≠ w.heap.size; omega)).trans H2.out)
 have H1 : Hid ((w0.setCell ⟨w.heap.size, 2, none⟩ (.slice a0 x.stmts.length c0)).heap[w.heap.size]? = some (.cells #[.int .i64 x.at_, .string x.name, .slice a0 x.stmts.length c0, .int .i64 x.term.at_, .int .i64 x.term.kind, .string x.term.to.loc, .slice x.term.to.sa x.term.to.steps.length x.term.to.sc, .string x.term.name, .slice x.term.aa x.term.args.length x.term.ac, .slice x.term.ba x.term.blocks.length x.term.bc, .slice x.term.ra x.term.arms.length x.term.rc] 64 (0, 0))) := hidIt (by rw [block_set H1.out]; rfl)
 have hb := hidIt (below_put hb.out 2 (.slice a0 x.stmts.length c0))
 have HK : Hid (Kps (w.heap.size + 2) w0 (w0.setCell ⟨w.heap.size, 2, none⟩ (.slice a0 x.stmts.length c0))) := hidIt (Kps.set (Kps.refl _ _) (show w.heap.size < w.heap.size + 2 by omega) _)
 have SZ := hidIt (lt_of_block H2.out)
 go_wp2_with (go_at_call 149; refine (c1c.out _ hb.out).mono ?_)
 rintro e w1 ⟨y1, rfl, d1, ⟨s1, n1⟩, hq⟩
 have hb := hidIt (below_next hb.out hq)
 have H1 := hidIt (heap_on H1.out hq)
 have H2 := hidIt (heap_on H2.out hq)
 have A0 : Hid (Sts w1 a0 ys0 ∧ (NewA (w.heap.size + 2) a0 ys0.length ∧ ∀ y ∈ ys0, y.New (w.heap.size + 2))) := hidIt ⟨Sts.on (keepT A0.out.1 A0.out.2 HK.out) hq, A0.out.2⟩
 have A1 : Hid (y1.At w1 ∧ y1.New (w.heap.size + 2)) := hidIt ⟨s1, TermX.New.mono n1 SZ.out⟩
 have D1 := hidIt d1
 clear hq c1c s1 n1 SZ HK d1 
 obtain ⟨p0, p1, p2, p3, p4, p5, p6, p7, p8, p9, p10⟩ := cells_11 H1.out
 have k3 : w1.frozen? ⟨w.heap.size, 3, none⟩ = false := frozen_at H1.out 3
 have k4 : w1.frozen? ⟨w.heap.size, 4, none⟩ = false := frozen_at H1.out 4
 have k5 : w1.frozen? ⟨w.heap.size, 5, none⟩ = false := frozen_at H1.out 5
 have k6 : w1.frozen? ⟨w.heap.size, 6, none⟩ = false := frozen_at H1.out 6
 have k7 : w1.frozen? ⟨w.heap.size, 7, none⟩ = false := frozen_at H1.out 7
 have k8 : w1.frozen? ⟨w.heap.size, 8, none⟩ = false := frozen_at H1.out 8
 have k9 : w1.frozen? ⟨w.heap.size, 9, none⟩ = false := frozen_at H1.out 9
 have k10 : w1.frozen? ⟨w.heap.size, 10, none⟩ = false := frozen_at H1.out 10
 have H2 : Hid ((w1.setCell ⟨w.heap.size, 3, none⟩ (.int .i64 y1.at_)).heap[w.heap.size + 1]? = some (.cells #[.int .i64 0, .string ⟨#[]⟩, .slice none 0 0, .int .i64 0, .int .i64 0, .string ⟨#[]⟩, .slice none 0 0, .string ⟨#[]⟩, .slice none 0 0, .slice none 0 0, .slice none 0 0] 64 (0, 0))) := hidIt ((Below.heap_setCell _ _ _ _ (by show w.heap.size + 1 ≠ w.heap.size; omega)).trans H2.out)
 have H1 : Hid ((w1.setCell ⟨w.heap.size, 3, none⟩ (.int .i64 y1.at_)).heap[w.heap.size]? = some (.cells #[.int .i64 x.at_, .string x.name, .slice a0 x.stmts.length c0, .int .i64 y1.at_, .int .i64 x.term.kind, .string x.term.to.loc, .slice x.term.to.sa x.term.to.steps.length x.term.to.sc, .string x.term.name, .slice x.term.aa x.term.args.length x.term.ac, .slice x.term.ba x.term.blocks.length x.term.bc, .slice x.term.ra x.term.arms.length x.term.rc] 64 (0, 0))) := hidIt (by rw [block_set H1.out]; rfl)
 have hb := hidIt (below_put hb.out 3 (.int .i64 y1.at_))
 have H2 : Hid (((w1.setCell ⟨w.heap.size, 3, none⟩ (.int .i64 y1.at_)).setCell ⟨w.heap.size, 4, none⟩ (.int .i64 y1.kind)).heap[w.heap.size + 1]? = some (.cells #[.int .i64 0, .string ⟨#[]⟩, .slice none 0 0, .int .i64 0, .int .i64 0, .string ⟨#[]⟩, .slice none 0 0, .string ⟨#[]⟩, .slice none 0 0, .slice none 0 0, .slice none 0 0] 64 (0, 0))) := hidIt ((Below.heap_setCell _ _ _ _ (by show w.heap.size + 1 ≠ w.heap.size; omega)).trans H2.out)
 have H1 : Hid (((w1.setCell ⟨w.heap.size, 3, none⟩ (.int .i64 y1.at_)).setCell ⟨w.heap.size, 4, none⟩ (.int .i64 y1.kind)).heap[w.heap.size]? = some (.cells #[.int .i64 x.at_, .string x.name, .slice a0 x.stmts.length c0, .int .i64 y1.at_, .int .i64 y1.kind, .string x.term.to.loc, .slice x.term.to.sa x.term.to.steps.length x.term.to.sc, .string x.term.name, .slice x.term.aa x.term.args.length x.term.ac, .slice x.term.ba x.term.blocks.length x.term.bc, .slice x.term.ra x.term.arms.length x.term.rc] 64 (0, 0))) := hidIt (by rw [block_set H1.out]; rfl)
 have hb := hidIt (below_put hb.out 4 (.int .i64 y1.kind))
 have H2 : Hid ((((w1.setCell ⟨w.heap.size, 3, none⟩ (.int .i64 y1.at_)).setCell ⟨w.heap.size, 4, none⟩ (.int .i64 y1.kind)).setCell ⟨w.heap.size, 5, none⟩ (.string y1.to.loc)).heap[w.heap.size + 1]? = some (.cells #[.int .i64 0, .string ⟨#[]⟩, .slice none 0 0, .int .i64 0, .int .i64 0, .string ⟨#[]⟩, .slice none 0 0, .string ⟨#[]⟩, .slice none 0 0, .slice none 0 0, .slice none 0 0] 64 (0, 0))) := hidIt ((Below.heap_setCell _ _ _ _ (by show w.heap.size + 1 ≠ w.heap.size; omega)).trans H2.out)
 have H1 : Hid ((((w1.setCell ⟨w.heap.size, 3, none⟩ (.int .i64 y1.at_)).setCell ⟨w.heap.size, 4, none⟩ (.int .i64 y1.kind)).setCell ⟨w.heap.size, 5, none⟩ (.string y1.to.loc)).heap[w.heap.size]? = some (.cells #[.int .i64 x.at_, .string x.name, .slice a0 x.stmts.length c0, .int .i64 y1.at_, .int .i64 y1.kind, .string y1.to.loc, .slice x.term.to.sa x.term.to.steps.length x.term.to.sc, .string x.term.name, .slice x.term.aa x.term.args.length x.term.ac, .slice x.term.ba x.term.blocks.length x.term.bc, .slice x.term.ra x.term.arms.length x.term.rc] 64 (0, 0))) := hidIt (by rw [block_set H1.out]; rfl)
 have hb := hidIt (below_put hb.out 5 (.string y1.to.loc))
 have H2 : Hid (((((w1.setCell ⟨w.heap.size, 3, none⟩ (.int .i64 y1.at_)).setCell ⟨w.heap.size, 4, none⟩ (.int .i64 y1.kind)).setCell ⟨w.heap.size, 5, none⟩ (.string y1.to.loc)).setCell ⟨w.heap.size, 6, none⟩ (.slice y1.to.sa y1.to.steps.length y1.to.sc)).heap[w.heap.size + 1]? = some (.cells #[.int .i64 0, .string ⟨#[]⟩, .slice none 0 0, .int .i64 0, .int .i64 0, .string ⟨#[]⟩, .slice none 0 0, .string ⟨#[]⟩, .slice none 0 0, .slice none 0 0, .slice none 0 0] 64 (0, 0))) := hidIt ((Below.heap_setCell _ _ _ _ (by show w.heap.size + 1 ≠ w.heap.size; omega)).trans H2.out)
 have H1 : Hid (((((w1.setCell ⟨w.heap.size, 3, none⟩ (.int .i64 y1.at_)).setCell ⟨w.heap.size, 4, none⟩ (.int .i64 y1.kind)).setCell ⟨w.heap.size, 5, none⟩ (.string y1.to.loc)).setCell ⟨w.heap.size, 6, none⟩ (.slice y1.to.sa y1.to.steps.length y1.to.sc)).heap[w.heap.size]? = some (.cells #[.int .i64 x.at_, .string x.name, .slice a0 x.stmts.length c0, .int .i64 y1.at_, .int .i64 y1.kind, .string y1.to.loc, .slice y1.to.sa y1.to.steps.length y1.to.sc, .string x.term.name, .slice x.term.aa x.term.args.length x.term.ac, .slice x.term.ba x.term.blocks.length x.term.bc, .slice x.term.ra x.term.arms.length x.term.rc] 64 (0, 0))) := hidIt (by rw [block_set H1.out]; rfl)
 have hb := hidIt (below_put hb.out 6 (.slice y1.to.sa y1.to.steps.length y1.to.sc))
 have H2 : Hid ((((((w1.setCell ⟨w.heap.size, 3, none⟩ (.int .i64 y1.at_)).setCell ⟨w.heap.size, 4, none⟩ (.int .i64 y1.kind)).setCell ⟨w.heap.size, 5, none⟩ (.string y1.to.loc)).setCell ⟨w.heap.size, 6, none⟩ (.slice y1.to.sa y1.to.steps.length y1.to.sc)).setCell ⟨w.heap.size, 7, none⟩ (.string y1.name)).heap[w.heap.size + 1]? = some (.cells #[.int .i64 0, .string ⟨#[]⟩, .slice none 0 0, .int .i64 0, .int .i64 0, .string ⟨#[]⟩, .slice none 0 0, .string ⟨#[]⟩, .slice none 0 0, .slice none 0 0, .slice none 0 0] 64 (0, 0))) := hidIt ((Below.heap_setCell _ _ _ _ (by show w.heap.size + 1 ≠ w.heap.size; omega)).trans H2.out)
 have H1 : Hid ((((((w1.setCell ⟨w.heap.size, 3, none⟩ (.int .i64 y1.at_)).setCell ⟨w.heap.size, 4, none⟩ (.int .i64 y1.kind)).setCell ⟨w.heap.size, 5, none⟩ (.string y1.to.loc)).setCell ⟨w.heap.size, 6, none⟩ (.slice y1.to.sa y1.to.steps.length y1.to.sc)).setCell ⟨w.heap.size, 7, none⟩ (.string y1.name)).heap[w.heap.size]? = some (.cells #[.int .i64 x.at_, .string x.name, .slice a0 x.stmts.length c0, .int .i64 y1.at_, .int .i64 y1.kind, .string y1.to.loc, .slice y1.to.sa y1.to.steps.length y1.to.sc, .string y1.name, .slice x.term.aa x.term.args.length x.term.ac, .slice x.term.ba x.term.blocks.length x.term.bc, .slice x.term.ra x.term.arms.length x.term.rc] 64 (0, 0))) := hidIt (by rw [block_set H1.out]; rfl)
 have hb := hidIt (below_put hb.out 7 (.string y1.name))
 have H2 : Hid (((((((w1.setCell ⟨w.heap.size, 3, none⟩ (.int .i64 y1.at_)).setCell ⟨w.heap.size, 4, none⟩ (.int .i64 y1.kind)).setCell ⟨w.heap.size, 5, none⟩ (.string y1.to.loc)).setCell ⟨w.heap.size, 6, none⟩ (.slice y1.to.sa y1.to.steps.length y1.to.sc)).setCell ⟨w.heap.size, 7, none⟩ (.string y1.name)).setCell ⟨w.heap.size, 8, none⟩ (.slice y1.aa y1.args.length y1.ac)).heap[w.heap.size + 1]? = some (.cells #[.int .i64 0, .string ⟨#[]⟩, .slice none 0 0, .int .i64 0, .int .i64 0, .string ⟨#[]⟩, .slice none 0 0, .string ⟨#[]⟩, .slice none 0 0, .slice none 0 0, .slice none 0 0] 64 (0, 0))) := hidIt ((Below.heap_setCell _ _ _ _ (by show w.heap.size + 1 ≠ w.heap.size; omega)).trans H2.out)
 have H1 : Hid (((((((w1.setCell ⟨w.heap.size, 3, none⟩ (.int .i64 y1.at_)).setCell ⟨w.heap.size, 4, none⟩ (.int .i64 y1.kind)).setCell ⟨w.heap.size, 5, none⟩ (.string y1.to.loc)).setCell ⟨w.heap.size, 6, none⟩ (.slice y1.to.sa y1.to.steps.length y1.to.sc)).setCell ⟨w.heap.size, 7, none⟩ (.string y1.name)).setCell ⟨w.heap.size, 8, none⟩ (.slice y1.aa y1.args.length y1.ac)).heap[w.heap.size]? = some (.cells #[.int .i64 x.at_, .string x.name, .slice a0 x.stmts.length c0, .int .i64 y1.at_, .int .i64 y1.kind, .string y1.to.loc, .slice y1.to.sa y1.to.steps.length y1.to.sc, .string y1.name, .slice y1.aa y1.args.length y1.ac, .slice x.term.ba x.term.blocks.length x.term.bc, .slice x.term.ra x.term.arms.length x.term.rc] 64 (0, 0))) := hidIt (by rw [block_set H1.out]; rfl)
 have hb := hidIt (below_put hb.out 8 (.slice y1.aa y1.args.length y1.ac))
 have H2 : Hid ((((((((w1.setCell ⟨w.heap.size, 3, none⟩ (.int .i64 y1.at_)).setCell ⟨w.heap.size, 4, none⟩ (.int .i64 y1.kind)).setCell ⟨w.heap.size, 5, none⟩ (.string y1.to.loc)).setCell ⟨w.heap.size, 6, none⟩ (.slice y1.to.sa y1.to.steps.length y1.to.sc)).setCell ⟨w.heap.size, 7, none⟩ (.string y1.name)).setCell ⟨w.heap.size, 8, none⟩ (.slice y1.aa y1.args.length y1.ac)).setCell ⟨w.heap.size, 9, none⟩ (.slice y1.ba y1.blocks.length y1.bc)).heap[w.heap.size + 1]? = some (.cells #[.int .i64 0, .string ⟨#[]⟩, .slice none 0 0, .int .i64 0, .int .i64 0, .string ⟨#[]⟩, .slice none 0 0, .string ⟨#[]⟩, .slice none 0 0, .slice none 0 0, .slice none 0 0] 64 (0, 0))) := hidIt ((Below.heap_setCell _ _ _ _ (by show w.heap.size + 1 ≠ w.heap.size; omega)).trans H2.out)
 have H1 : Hid ((((((((w1.setCell ⟨w.heap.size, 3, none⟩ (.int .i64 y1.at_)).setCell ⟨w.heap.size, 4, none⟩ (.int .i64 y1.kind)).setCell ⟨w.heap.size, 5, none⟩ (.string y1.to.loc)).setCell ⟨w.heap.size, 6, none⟩ (.slice y1.to.sa y1.to.steps.length y1.to.sc)).setCell ⟨w.heap.size, 7, none⟩ (.string y1.name)).setCell ⟨w.heap.size, 8, none⟩ (.slice y1.aa y1.args.length y1.ac)).setCell ⟨w.heap.size, 9, none⟩ (.slice y1.ba y1.blocks.length y1.bc)).heap[w.heap.size]? = some (.cells #[.int .i64 x.at_, .string x.name, .slice a0 x.stmts.length c0, .int .i64 y1.at_, .int .i64 y1.kind, .string y1.to.loc, .slice y1.to.sa y1.to.steps.length y1.to.sc, .string y1.name, .slice y1.aa y1.args.length y1.ac, .slice y1.ba y1.blocks.length y1.bc, .slice x.term.ra x.term.arms.length x.term.rc] 64 (0, 0))) := hidIt (by rw [block_set H1.out]; rfl)
 have hb := hidIt (below_put hb.out 9 (.slice y1.ba y1.blocks.length y1.bc))
 have H2 : Hid (((((((((w1.setCell ⟨w.heap.size, 3, none⟩ (.int .i64 y1.at_)).setCell ⟨w.heap.size, 4, none⟩ (.int .i64 y1.kind)).setCell ⟨w.heap.size, 5, none⟩ (.string y1.to.loc)).setCell ⟨w.heap.size, 6, none⟩ (.slice y1.to.sa y1.to.steps.length y1.to.sc)).setCell ⟨w.heap.size, 7, none⟩ (.string y1.name)).setCell ⟨w.heap.size, 8, none⟩ (.slice y1.aa y1.args.length y1.ac)).setCell ⟨w.heap.size, 9, none⟩ (.slice y1.ba y1.blocks.length y1.bc)).setCell ⟨w.heap.size, 10, none⟩ (.slice y1.ra y1.arms.length y1.rc)).heap[w.heap.size + 1]? = some (.cells #[.int .i64 0, .string ⟨#[]⟩, .slice none 0 0, .int .i64 0, .int .i64 0, .string ⟨#[]⟩, .slice none 0 0, .string ⟨#[]⟩, .slice none 0 0, .slice none 0 0, .slice none 0 0] 64 (0, 0))) := hidIt ((Below.heap_setCell _ _ _ _ (by show w.heap.size + 1 ≠ w.heap.size; omega)).trans H2.out)
 have H1 : Hid (((((((((w1.setCell ⟨w.heap.size, 3, none⟩ (.int .i64 y1.at_)).setCell ⟨w.heap.size, 4, none⟩ (.int .i64 y1.kind)).setCell ⟨w.heap.size, 5, none⟩ (.string y1.to.loc)).setCell ⟨w.heap.size, 6, none⟩ (.slice y1.to.sa y1.to.steps.length y1.to.sc)).setCell ⟨w.heap.size, 7, none⟩ (.string y1.name)).setCell ⟨w.heap.size, 8, none⟩ (.slice y1.aa y1.args.length y1.ac)).setCell ⟨w.heap.size, 9, none⟩ (.slice y1.ba y1.blocks.length y1.bc)).setCell ⟨w.heap.size, 10, none⟩ (.slice y1.ra y1.arms.length y1.rc)).heap[w.heap.size]? = some (.cells #[.int .i64 x.at_, .string x.name, .slice a0 x.stmts.length c0, .int .i64 y1.at_, .int .i64 y1.kind, .string y1.to.loc, .slice y1.to.sa y1.to.steps.length y1.to.sc, .string y1.name, .slice y1.aa y1.args.length y1.ac, .slice y1.ba y1.blocks.length y1.bc, .slice y1.ra y1.arms.length y1.rc] 64 (0, 0))) := hidIt (by rw [block_set H1.out]; rfl)
 have hb := hidIt (below_put hb.out 10 (.slice y1.ra y1.arms.length y1.rc))
 have HK : Hid (Kps (w.heap.size + 2) w1 ((((((((w1.setCell ⟨w.heap.size, 3, none⟩ (.int .i64 y1.at_)).setCell ⟨w.heap.size, 4, none⟩ (.int .i64 y1.kind)).setCell ⟨w.heap.size, 5, none⟩ (.string y1.to.loc)).setCell ⟨w.heap.size, 6, none⟩ (.slice y1.to.sa y1.to.steps.length y1.to.sc)).setCell ⟨w.heap.size, 7, none⟩ (.string y1.name)).setCell ⟨w.heap.size, 8, none⟩ (.slice y1.aa y1.args.length y1.ac)).setCell ⟨w.heap.size, 9, none⟩ (.slice y1.ba y1.blocks.length y1.bc)).setCell ⟨w.heap.size, 10, none⟩ (.slice y1.ra y1.arms.length y1.rc))) := hidIt (Kps.set (Kps.set (Kps.set (Kps.set (Kps.set (Kps.set (Kps.set (Kps.set (Kps.refl _ _) (show w.heap.size < w.heap.size + 2 by omega) _) (show w.heap.size < w.heap.size + 2 by omega) _) (show w.heap.size < w.heap.size + 2 by omega) _) (show w.heap.size < w.heap.size + 2 by omega) _) (show w.heap.size < w.heap.size + 2 by omega) _) (show w.heap.size < w.heap.size + 2 by omega) _) (show w.heap.size < w.heap.size + 2 by omega) _) (show w.heap.size < w.heap.size + 2 by omega) _)
 go_upto_region 3 with fail
 generalize ((((((((w1.setCell ⟨w.heap.size, 3, none⟩ (.int .i64 y1.at_)).setCell ⟨w.heap.size, 4, none⟩ (.int .i64 y1.kind)).setCell ⟨w.heap.size, 5, none⟩ (.string y1.to.loc)).setCell ⟨w.heap.size, 6, none⟩ (.slice y1.to.sa y1.to.steps.length y1.to.sc)).setCell ⟨w.heap.size, 7, none⟩ (.string y1.name)).setCell ⟨w.heap.size, 8, none⟩ (.slice y1.aa y1.args.length y1.ac)).setCell ⟨w.heap.size, 9, none⟩ (.slice y1.ba y1.blocks.length y1.bc)).setCell ⟨w.heap.size, 10, none⟩ (.slice y1.ra y1.arms.length y1.rc)) = WF at H1 H2 hb HK ⊢
 clear p0 p1 p2 p3 p4 p5 p6 p7 p8 p9 p10 k3 k4 k5 k6 k7 k8 k9 k10
 have A0 : Hid (Sts WF a0 ys0 ∧ (NewA (w.heap.size + 2) a0 ys0.length ∧ ∀ y ∈ ys0, y.New (w.heap.size + 2))) := hidIt ⟨keepT A0.out.1 A0.out.2 HK.out, A0.out.2⟩
 have A1 : Hid (y1.At WF ∧ y1.New (w.heap.size + 2)) := hidIt ⟨TermX.At.keep A1.out.1 A1.out.2 HK.out, A1.out.2⟩
 obtain ⟨p0, p1, p2, p3, p4, p5, p6, p7, p8, p9, p10⟩ := cells_11 H1.out
 have r0 : WF.cell? ⟨w.heap.size + 1, 0, none⟩ = some (.int .i64 0) := cell_at H2.out 0
 have u0 : WF.frozen? ⟨w.heap.size + 1, 0, none⟩ = false := frozen_at H2.out 0
 have r1 : WF.cell? ⟨w.heap.size + 1, 1, none⟩ = some (.string ⟨#[]⟩) := cell_at H2.out 1
 have u1 : WF.frozen? ⟨w.heap.size + 1, 1, none⟩ = false := frozen_at H2.out 1
 have r2 : WF.cell? ⟨w.heap.size + 1, 2, none⟩ = some (.slice none 0 0) := cell_at H2.out 2
 have u2 : WF.frozen? ⟨w.heap.size + 1, 2, none⟩ = false := frozen_at H2.out 2
 have r3 : WF.cell? ⟨w.heap.size + 1, 3, none⟩ = some (.int .i64 0) := cell_at H2.out 3
 have u3 : WF.frozen? ⟨w.heap.size + 1, 3, none⟩ = false := frozen_at H2.out 3
 have r4 : WF.cell? ⟨w.heap.size + 1, 4, none⟩ = some (.int .i64 0) := cell_at H2.out 4
 have u4 : WF.frozen? ⟨w.heap.size + 1, 4, none⟩ = false := frozen_at H2.out 4
 have r5 : WF.cell? ⟨w.heap.size + 1, 5, none⟩ = some (.string ⟨#[]⟩) := cell_at H2.out 5
 have u5 : WF.frozen? ⟨w.heap.size + 1, 5, none⟩ = false := frozen_at H2.out 5
 have r6 : WF.cell? ⟨w.heap.size + 1, 6, none⟩ = some (.slice none 0 0) := cell_at H2.out 6
 have u6 : WF.frozen? ⟨w.heap.size + 1, 6, none⟩ = false := frozen_at H2.out 6
 have r7 : WF.cell? ⟨w.heap.size + 1, 7, none⟩ = some (.string ⟨#[]⟩) := cell_at H2.out 7
 have u7 : WF.frozen? ⟨w.heap.size + 1, 7, none⟩ = false := frozen_at H2.out 7
 have r8 : WF.cell? ⟨w.heap.size + 1, 8, none⟩ = some (.slice none 0 0) := cell_at H2.out 8
 have u8 : WF.frozen? ⟨w.heap.size + 1, 8, none⟩ = false := frozen_at H2.out 8
 have r9 : WF.cell? ⟨w.heap.size + 1, 9, none⟩ = some (.slice none 0 0) := cell_at H2.out 9
 have u9 : WF.frozen? ⟨w.heap.size + 1, 9, none⟩ = false := frozen_at H2.out 9
 have r10 : WF.cell? ⟨w.heap.size + 1, 10, none⟩ = some (.slice none 0 0) := cell_at H2.out 10
 have u10 : WF.frozen? ⟨w.heap.size + 1, 10, none⟩ = false := frozen_at H2.out 10
 go_wp2
 (try simp only [Exit.inBlock, Exit.then])
 refine bodyPost_ret (show _ = Result.ok (.agg #[.int .i64 x.at_, .string x.name, .slice a0 x.stmts.length c0, .int .i64 y1.at_, .int .i64 y1.kind, .string y1.to.loc, .slice y1.to.sa y1.to.steps.length y1.to.sc, .string y1.name, .slice y1.aa y1.args.length y1.ac, .slice y1.ba y1.blocks.length y1.bc, .slice y1.ra y1.arms.length y1.rc]) _ by simp [results, Tryz.results114, go_sem, r0, r1, r2, r3, r4, r5, r6, r7, r8, r9, r10]) rfl ?_
 clear p0 r0 u0 p1 r1 u1 p2 r2 u2 p3 r3 u3 p4 r4 u4 p5 r5 u5 p6 r6 u6 p7 r7 u7 p8 r8 u8 p9 r9 u9 p10 r10 u10  H1 H2
 have KF : ∀ W', Kps (w.heap.size + 2) WF W' → (Sts W' a0 ys0) ∧ (y1.At W') := fun W' hK => ⟨keepT A0.out.1 A0.out.2 hK, TermX.At.keep A1.out.1 A1.out.2 hK⟩
 have hle : w.heap.size ≤ w.heap.size + 2 := Nat.le_add_right _ _
 have AN : ∀ W', Kps (w.heap.size + 2) WF W' → ((⟨x.at_, x.name, a0, c0, ys0, y1⟩ : BlockX).At W' ∧ (⟨x.at_, x.name, a0, c0, ys0, y1⟩ : BlockX).New w.heap.size) := fun W' hK => by
  have := KF W' hK
  exact ⟨⟨this.1, this.2⟩, ⟨⟨A0.out.2.1.mono hle, fun y hy => (A0.out.2.2 y hy).mono hle⟩, A1.out.2.mono hle⟩⟩
 clear KF
 refine ⟨⟨x.at_, x.name, a0, c0, ys0, y1⟩, ?_, by simp only [BlockX.d, D0.out, D1.out], AN _ ?_, ?_⟩
 · exact by simp [L0.out]
 · skip
   refine Kps.set (a := ⟨w.heap.size + 1, 10, none⟩) ?_ (show w.heap.size + 1 < w.heap.size + 2 by omega) _
   refine Kps.set (a := ⟨w.heap.size + 1, 9, none⟩) ?_ (show w.heap.size + 1 < w.heap.size + 2 by omega) _
   refine Kps.set (a := ⟨w.heap.size + 1, 8, none⟩) ?_ (show w.heap.size + 1 < w.heap.size + 2 by omega) _
   refine Kps.set (a := ⟨w.heap.size + 1, 7, none⟩) ?_ (show w.heap.size + 1 < w.heap.size + 2 by omega) _
   refine Kps.set (a := ⟨w.heap.size + 1, 6, none⟩) ?_ (show w.heap.size + 1 < w.heap.size + 2 by omega) _
   refine Kps.set (a := ⟨w.heap.size + 1, 5, none⟩) ?_ (show w.heap.size + 1 < w.heap.size + 2 by omega) _
   refine Kps.set (a := ⟨w.heap.size + 1, 4, none⟩) ?_ (show w.heap.size + 1 < w.heap.size + 2 by omega) _
   refine Kps.set (a := ⟨w.heap.size + 1, 3, none⟩) ?_ (show w.heap.size + 1 < w.heap.size + 2 by omega) _
   refine Kps.set (a := ⟨w.heap.size + 1, 2, none⟩) ?_ (show w.heap.size + 1 < w.heap.size + 2 by omega) _
   refine Kps.set (a := ⟨w.heap.size + 1, 1, none⟩) ?_ (show w.heap.size + 1 < w.heap.size + 2 by omega) _
   refine Kps.set (a := ⟨w.heap.size + 1, 0, none⟩) ?_ (show w.heap.size + 1 < w.heap.size + 2 by omega) _
   exact Kps.refl _ _
 · skip
   refine Below.setCell (p := ⟨w.heap.size + 1, 10, none⟩) ?_ (Nat.le_succ _) _
   refine Below.setCell (p := ⟨w.heap.size + 1, 9, none⟩) ?_ (Nat.le_succ _) _
   refine Below.setCell (p := ⟨w.heap.size + 1, 8, none⟩) ?_ (Nat.le_succ _) _
   refine Below.setCell (p := ⟨w.heap.size + 1, 7, none⟩) ?_ (Nat.le_succ _) _
   refine Below.setCell (p := ⟨w.heap.size + 1, 6, none⟩) ?_ (Nat.le_succ _) _
   refine Below.setCell (p := ⟨w.heap.size + 1, 5, none⟩) ?_ (Nat.le_succ _) _
   refine Below.setCell (p := ⟨w.heap.size + 1, 4, none⟩) ?_ (Nat.le_succ _) _
   refine Below.setCell (p := ⟨w.heap.size + 1, 3, none⟩) ?_ (Nat.le_succ _) _
   refine Below.setCell (p := ⟨w.heap.size + 1, 2, none⟩) ?_ (Nat.le_succ _) _
   refine Below.setCell (p := ⟨w.heap.size + 1, 1, none⟩) ?_ (Nat.le_succ _) _
   refine Below.setCell (p := ⟨w.heap.size + 1, 0, none⟩) ?_ (Nat.le_succ _) _
   exact hb.out

set_option maxHeartbeats 2000000 in
set_option maxRecDepth 100000 in
theorem clone_f (x : FuncX) (w : World) (hx : x.At w) :
 Calls Tryz.prog 72 #[.agg #[.int .i64 x.at_, .string x.name, .slice x.pa x.params.length x.pc, .slice x.la x.locals.length x.lc, .string x.result, .slice x.ba x.blocks.length x.bc]] w fun e w' => ∃ y : FuncX, e = .returned (.agg #[.int .i64 y.at_, .string y.name, .slice y.pa y.params.length y.pc, .slice y.la y.locals.length y.lc, .string y.result, .slice y.ba y.blocks.length y.bc]) ∧ y.d = x.d ∧ (y.At w' ∧ y.New w.heap.size) ∧ Below w.heap.size w w' := by
 have c0c : Hid (∀ W, Below w.heap.size w W → Calls Tryz.prog 68 #[.slice x.pa x.params.length x.pc] W fun e w' => ∃ a' c', e = .returned (.slice a' x.params.length c') ∧ x.params.length ≤ c' ∧ (Vrs w' a' x.params ∧ NewA W.heap.size a' x.params.length) ∧ Below W.heap.size W w') := hidIt fun W hW => cv_any _ _ _ W (hx.1.on hW)
 have c1c : Hid (∀ W, Below w.heap.size w W → Calls Tryz.prog 68 #[.slice x.la x.locals.length x.lc] W fun e w' => ∃ a' c', e = .returned (.slice a' x.locals.length c') ∧ x.locals.length ≤ c' ∧ (Vrs w' a' x.locals ∧ NewA W.heap.size a' x.locals.length) ∧ Below W.heap.size W w') := hidIt fun W hW => cv_any _ _ _ W (hx.2.1.on hW)
 have c2c : Hid (∀ W, Below w.heap.size w W → Calls Tryz.prog 113 #[.slice x.ba x.blocks.length x.bc, .func (.func 114) #[] #[]] W fun e w' => ∃ a' c' ys, e = .returned (.slice a' x.blocks.length c') ∧ ys.length = x.blocks.length ∧ ys.map BlockX.d = x.blocks.map BlockX.d ∧ (Bls w' a' ys ∧ (NewA W.heap.size a' ys.length ∧ ∀ y ∈ ys, y.New W.heap.size)) ∧ Below W.heap.size W w') := hidIt fun W hW => (anew_block _ _ _ W (hx.2.2.on hW) fun W2 p hp hW2 => (clone_b p W2 ((BlockX.At.on (hx.2.2.2 p hp) hW).on hW2)).mono fun e w1 ⟨y, h1, h2, h3, h4⟩ => ⟨y, h1, h2, h3.1, h3.2, h4⟩).mono fun e w1 ⟨a, c, ys, h1, h2, h3, h4, h5, h6⟩ => ⟨a, c, ys, h1, h2, h3, ⟨h4, h5⟩, h6⟩
 clear hx
 have hb := hidIt (below_next (below_new w (.cells #[.int .i64 x.at_, .string x.name, .slice x.pa x.params.length x.pc, .slice x.la x.locals.length x.lc, .string x.result, .slice x.ba x.blocks.length x.bc] 45)) (below_new _ (.cells #[.int .i64 0, .string ⟨#[]⟩, .slice none 0 0, .slice none 0 0, .string ⟨#[]⟩, .slice none 0 0] 45)))
 obtain ⟨hh1, hh2⟩ := two_at (w := w) (cs := #[.int .i64 x.at_, .string x.name, .slice x.pa x.params.length x.pc, .slice x.la x.locals.length x.lc, .string x.result, .slice x.ba x.blocks.length x.bc]) (ds := #[.int .i64 0, .string ⟨#[]⟩, .slice none 0 0, .slice none 0 0, .string ⟨#[]⟩, .slice none 0 0]) (t := 45) (u := 45) rfl rfl (Below.refl _ _)
 have H1 := hidIt hh1
 have H2 := hidIt hh2
 clear hh1 hh2
 go_enter Tryz.func72, Tryz.ntmps72
 have SZ := hidIt (lt_of_block H2.out)
 go_wp2_with (go_at_call 68; refine (c0c.out _ hb.out).mono ?_)
 rintro e w0 ⟨a0, c0, rfl, l0, ⟨s0, n0⟩, hq⟩
 have hb := hidIt (below_next hb.out hq)
 have H1 := hidIt (heap_on H1.out hq)
 have H2 := hidIt (heap_on H2.out hq)
 have A0 : Hid (Vrs w0 a0 x.params ∧ NewA (w.heap.size + 2) a0 x.params.length) := hidIt ⟨s0, NewA.mono n0 SZ.out⟩
 clear hq c0c s0 n0 SZ  l0
 obtain ⟨p0, p1, p2, p3, p4, p5⟩ := cells_6 H1.out
 have k2 : w0.frozen? ⟨w.heap.size, 2, none⟩ = false := frozen_at H1.out 2
 have H2 : Hid ((w0.setCell ⟨w.heap.size, 2, none⟩ (.slice a0 x.params.length c0)).heap[w.heap.size + 1]? = some (.cells #[.int .i64 0, .string ⟨#[]⟩, .slice none 0 0, .slice none 0 0, .string ⟨#[]⟩, .slice none 0 0] 45 (0, 0))) := hidIt ((Below.heap_setCell _ _ _ _ (by show w.heap.size + 1 ≠ w.heap.size; omega)).trans H2.out)
 have H1 : Hid ((w0.setCell ⟨w.heap.size, 2, none⟩ (.slice a0 x.params.length c0)).heap[w.heap.size]? = some (.cells #[.int .i64 x.at_, .string x.name, .slice a0 x.params.length c0, .slice x.la x.locals.length x.lc, .string x.result, .slice x.ba x.blocks.length x.bc] 45 (0, 0))) := hidIt (by rw [block_set H1.out]; rfl)
 have hb := hidIt (below_put hb.out 2 (.slice a0 x.params.length c0))
 have HK : Hid (Kps (w.heap.size + 2) w0 (w0.setCell ⟨w.heap.size, 2, none⟩ (.slice a0 x.params.length c0))) := hidIt (Kps.set (Kps.refl _ _) (show w.heap.size < w.heap.size + 2 by omega) _)
 have SZ := hidIt (lt_of_block H2.out)
 go_wp2_with (go_at_call 68; refine (c1c.out _ hb.out).mono ?_)
 rintro e w1 ⟨a1, c1, rfl, l1, ⟨s1, n1⟩, hq⟩
 have hb := hidIt (below_next hb.out hq)
 have H1 := hidIt (heap_on H1.out hq)
 have H2 := hidIt (heap_on H2.out hq)
 have A0 : Hid (Vrs w1 a0 x.params ∧ NewA (w.heap.size + 2) a0 x.params.length) := hidIt ⟨Vrs.on (keepV A0.out.1 A0.out.2 HK.out) hq, A0.out.2⟩
 have A1 : Hid (Vrs w1 a1 x.locals ∧ NewA (w.heap.size + 2) a1 x.locals.length) := hidIt ⟨s1, NewA.mono n1 SZ.out⟩
 clear hq c1c s1 n1 SZ HK  l1
 obtain ⟨p0, p1, p2, p3, p4, p5⟩ := cells_6 H1.out
 have k3 : w1.frozen? ⟨w.heap.size, 3, none⟩ = false := frozen_at H1.out 3
 have H2 : Hid ((w1.setCell ⟨w.heap.size, 3, none⟩ (.slice a1 x.locals.length c1)).heap[w.heap.size + 1]? = some (.cells #[.int .i64 0, .string ⟨#[]⟩, .slice none 0 0, .slice none 0 0, .string ⟨#[]⟩, .slice none 0 0] 45 (0, 0))) := hidIt ((Below.heap_setCell _ _ _ _ (by show w.heap.size + 1 ≠ w.heap.size; omega)).trans H2.out)
 have H1 : Hid ((w1.setCell ⟨w.heap.size, 3, none⟩ (.slice a1 x.locals.length c1)).heap[w.heap.size]? = some (.cells #[.int .i64 x.at_, .string x.name, .slice a0 x.params.length c0, .slice a1 x.locals.length c1, .string x.result, .slice x.ba x.blocks.length x.bc] 45 (0, 0))) := hidIt (by rw [block_set H1.out]; rfl)
 have hb := hidIt (below_put hb.out 3 (.slice a1 x.locals.length c1))
 have HK : Hid (Kps (w.heap.size + 2) w1 (w1.setCell ⟨w.heap.size, 3, none⟩ (.slice a1 x.locals.length c1))) := hidIt (Kps.set (Kps.refl _ _) (show w.heap.size < w.heap.size + 2 by omega) _)
 have SZ := hidIt (lt_of_block H2.out)
 go_wp2_with (go_at_call 113; refine (c2c.out _ hb.out).mono ?_)
 rintro e w2 ⟨a2, c2, ys2, rfl, l2, d2, ⟨s2, n2⟩, hq⟩
 have hb := hidIt (below_next hb.out hq)
 have H1 := hidIt (heap_on H1.out hq)
 have H2 := hidIt (heap_on H2.out hq)
 have A0 : Hid (Vrs w2 a0 x.params ∧ NewA (w.heap.size + 2) a0 x.params.length) := hidIt ⟨Vrs.on (keepV A0.out.1 A0.out.2 HK.out) hq, A0.out.2⟩
 have A1 : Hid (Vrs w2 a1 x.locals ∧ NewA (w.heap.size + 2) a1 x.locals.length) := hidIt ⟨Vrs.on (keepV A1.out.1 A1.out.2 HK.out) hq, A1.out.2⟩
 have A2 : Hid (Bls w2 a2 ys2 ∧ (NewA (w.heap.size + 2) a2 ys2.length ∧ ∀ y ∈ ys2, y.New (w.heap.size + 2))) := hidIt ⟨s2, And.intro (n2.1.mono SZ.out) fun y hy => (n2.2 y hy).mono SZ.out⟩
 have L2 := hidIt l2
 have D2 := hidIt d2
 clear hq c2c s2 n2 SZ HK l2 d2 
 obtain ⟨p0, p1, p2, p3, p4, p5⟩ := cells_6 H1.out
 have k5 : w2.frozen? ⟨w.heap.size, 5, none⟩ = false := frozen_at H1.out 5
 have r0 : w2.cell? ⟨w.heap.size + 1, 0, none⟩ = some (.int .i64 0) := cell_at H2.out 0
 have u0 : w2.frozen? ⟨w.heap.size + 1, 0, none⟩ = false := frozen_at H2.out 0
 have r1 : w2.cell? ⟨w.heap.size + 1, 1, none⟩ = some (.string ⟨#[]⟩) := cell_at H2.out 1
 have u1 : w2.frozen? ⟨w.heap.size + 1, 1, none⟩ = false := frozen_at H2.out 1
 have r2 : w2.cell? ⟨w.heap.size + 1, 2, none⟩ = some (.slice none 0 0) := cell_at H2.out 2
 have u2 : w2.frozen? ⟨w.heap.size + 1, 2, none⟩ = false := frozen_at H2.out 2
 have r3 : w2.cell? ⟨w.heap.size + 1, 3, none⟩ = some (.slice none 0 0) := cell_at H2.out 3
 have u3 : w2.frozen? ⟨w.heap.size + 1, 3, none⟩ = false := frozen_at H2.out 3
 have r4 : w2.cell? ⟨w.heap.size + 1, 4, none⟩ = some (.string ⟨#[]⟩) := cell_at H2.out 4
 have u4 : w2.frozen? ⟨w.heap.size + 1, 4, none⟩ = false := frozen_at H2.out 4
 have r5 : w2.cell? ⟨w.heap.size + 1, 5, none⟩ = some (.slice none 0 0) := cell_at H2.out 5
 have u5 : w2.frozen? ⟨w.heap.size + 1, 5, none⟩ = false := frozen_at H2.out 5
 go_wp2
 (try simp only [Exit.inBlock, Exit.then])
 refine bodyPost_ret (show _ = Result.ok (.agg #[.int .i64 x.at_, .string x.name, .slice a0 x.params.length c0, .slice a1 x.locals.length c1, .string x.result, .slice a2 x.blocks.length c2]) _ by simp [results, Tryz.results72, go_sem, r0, r1, r2, r3, r4, r5]) rfl ?_
 clear p0 r0 u0 p1 r1 u1 p2 r2 u2 p3 r3 u3 p4 r4 u4 p5 r5 u5 k5 H1 H2
 have KF : ∀ W', Kps (w.heap.size + 2) w2 W' → (Vrs W' a0 x.params) ∧ (Vrs W' a1 x.locals) ∧ (Bls W' a2 ys2) := fun W' hK => ⟨keepV A0.out.1 A0.out.2 hK, keepV A1.out.1 A1.out.2 hK, keepB A2.out.1 A2.out.2 hK⟩
 have hle : w.heap.size ≤ w.heap.size + 2 := Nat.le_add_right _ _
 have AN : ∀ W', Kps (w.heap.size + 2) w2 W' → ((⟨x.at_, x.name, a0, c0, x.params, a1, c1, x.locals, x.result, a2, c2, ys2⟩ : FuncX).At W' ∧ (⟨x.at_, x.name, a0, c0, x.params, a1, c1, x.locals, x.result, a2, c2, ys2⟩ : FuncX).New w.heap.size) := fun W' hK => by
  have := KF W' hK
  exact ⟨⟨this.1, this.2.1, this.2.2⟩, ⟨A0.out.2.mono hle, A1.out.2.mono hle, ⟨A2.out.2.1.mono hle, fun y hy => (A2.out.2.2 y hy).mono hle⟩⟩⟩
 clear KF
 refine ⟨⟨x.at_, x.name, a0, c0, x.params, a1, c1, x.locals, x.result, a2, c2, ys2⟩, ?_, by simp only [FuncX.d, D2.out], AN _ ?_, ?_⟩
 · exact by simp [L2.out]
 · skip
   refine Kps.set (a := ⟨w.heap.size + 1, 5, none⟩) ?_ (show w.heap.size + 1 < w.heap.size + 2 by omega) _
   refine Kps.set (a := ⟨w.heap.size + 1, 4, none⟩) ?_ (show w.heap.size + 1 < w.heap.size + 2 by omega) _
   refine Kps.set (a := ⟨w.heap.size + 1, 3, none⟩) ?_ (show w.heap.size + 1 < w.heap.size + 2 by omega) _
   refine Kps.set (a := ⟨w.heap.size + 1, 2, none⟩) ?_ (show w.heap.size + 1 < w.heap.size + 2 by omega) _
   refine Kps.set (a := ⟨w.heap.size + 1, 1, none⟩) ?_ (show w.heap.size + 1 < w.heap.size + 2 by omega) _
   refine Kps.set (a := ⟨w.heap.size + 1, 0, none⟩) ?_ (show w.heap.size + 1 < w.heap.size + 2 by omega) _
   refine Kps.set (a := ⟨w.heap.size, 5, none⟩) ?_ (show w.heap.size < w.heap.size + 2 by omega) _
   exact Kps.refl _ _
 · skip
   refine Below.setCell (p := ⟨w.heap.size + 1, 5, none⟩) ?_ (Nat.le_succ _) _
   refine Below.setCell (p := ⟨w.heap.size + 1, 4, none⟩) ?_ (Nat.le_succ _) _
   refine Below.setCell (p := ⟨w.heap.size + 1, 3, none⟩) ?_ (Nat.le_succ _) _
   refine Below.setCell (p := ⟨w.heap.size + 1, 2, none⟩) ?_ (Nat.le_succ _) _
   refine Below.setCell (p := ⟨w.heap.size + 1, 1, none⟩) ?_ (Nat.le_succ _) _
   refine Below.setCell (p := ⟨w.heap.size + 1, 0, none⟩) ?_ (Nat.le_succ _) _
   refine below_put ?_ 5 _
   exact hb.out

set_option maxHeartbeats 2000000 in
set_option maxRecDepth 100000 in
theorem clone_u (x : StructX) (w : World) (hx : x.At w) :
 Calls Tryz.prog 67 #[.agg #[.int .i64 x.at_, .string x.name, .bool x.safe, .bool x.hook, .slice x.fa x.fields.length x.fc]] w fun e w' => ∃ y : StructX, e = .returned (.agg #[.int .i64 y.at_, .string y.name, .bool y.safe, .bool y.hook, .slice y.fa y.fields.length y.fc]) ∧ y.d = x.d ∧ (y.At w' ∧ y.New w.heap.size) ∧ Below w.heap.size w w' := by
 have c0c : Hid (∀ W, Below w.heap.size w W → Calls Tryz.prog 68 #[.slice x.fa x.fields.length x.fc] W fun e w' => ∃ a' c', e = .returned (.slice a' x.fields.length c') ∧ x.fields.length ≤ c' ∧ (Vrs w' a' x.fields ∧ NewA W.heap.size a' x.fields.length) ∧ Below W.heap.size W w') := hidIt fun W hW => cv_any _ _ _ W (Vrs.on hx hW)
 clear hx
 have hb := hidIt (below_next (below_new w (.cells #[.int .i64 x.at_, .string x.name, .bool x.safe, .bool x.hook, .slice x.fa x.fields.length x.fc] 58)) (below_new _ (.cells #[.int .i64 0, .string ⟨#[]⟩, .bool false, .bool false, .slice none 0 0] 58)))
 obtain ⟨hh1, hh2⟩ := two_at (w := w) (cs := #[.int .i64 x.at_, .string x.name, .bool x.safe, .bool x.hook, .slice x.fa x.fields.length x.fc]) (ds := #[.int .i64 0, .string ⟨#[]⟩, .bool false, .bool false, .slice none 0 0]) (t := 58) (u := 58) rfl rfl (Below.refl _ _)
 have H1 := hidIt hh1
 have H2 := hidIt hh2
 clear hh1 hh2
 go_enter Tryz.func67, Tryz.ntmps67
 have SZ := hidIt (lt_of_block H2.out)
 go_wp2_with (go_at_call 68; refine (c0c.out _ hb.out).mono ?_)
 rintro e w0 ⟨a0, c0, rfl, l0, ⟨s0, n0⟩, hq⟩
 have hb := hidIt (below_next hb.out hq)
 have H1 := hidIt (heap_on H1.out hq)
 have H2 := hidIt (heap_on H2.out hq)
 have A0 : Hid (Vrs w0 a0 x.fields ∧ NewA (w.heap.size + 2) a0 x.fields.length) := hidIt ⟨s0, NewA.mono n0 SZ.out⟩
 clear hq c0c s0 n0 SZ  l0
 obtain ⟨p0, p1, p2, p3, p4⟩ := cells_5 H1.out
 have k4 : w0.frozen? ⟨w.heap.size, 4, none⟩ = false := frozen_at H1.out 4
 have r0 : w0.cell? ⟨w.heap.size + 1, 0, none⟩ = some (.int .i64 0) := cell_at H2.out 0
 have u0 : w0.frozen? ⟨w.heap.size + 1, 0, none⟩ = false := frozen_at H2.out 0
 have r1 : w0.cell? ⟨w.heap.size + 1, 1, none⟩ = some (.string ⟨#[]⟩) := cell_at H2.out 1
 have u1 : w0.frozen? ⟨w.heap.size + 1, 1, none⟩ = false := frozen_at H2.out 1
 have r2 : w0.cell? ⟨w.heap.size + 1, 2, none⟩ = some (.bool false) := cell_at H2.out 2
 have u2 : w0.frozen? ⟨w.heap.size + 1, 2, none⟩ = false := frozen_at H2.out 2
 have r3 : w0.cell? ⟨w.heap.size + 1, 3, none⟩ = some (.bool false) := cell_at H2.out 3
 have u3 : w0.frozen? ⟨w.heap.size + 1, 3, none⟩ = false := frozen_at H2.out 3
 have r4 : w0.cell? ⟨w.heap.size + 1, 4, none⟩ = some (.slice none 0 0) := cell_at H2.out 4
 have u4 : w0.frozen? ⟨w.heap.size + 1, 4, none⟩ = false := frozen_at H2.out 4
 go_wp2
 (try simp only [Exit.inBlock, Exit.then])
 refine bodyPost_ret (show _ = Result.ok (.agg #[.int .i64 x.at_, .string x.name, .bool x.safe, .bool x.hook, .slice a0 x.fields.length c0]) _ by simp [results, Tryz.results67, go_sem, r0, r1, r2, r3, r4]) rfl ?_
 clear p0 r0 u0 p1 r1 u1 p2 r2 u2 p3 r3 u3 p4 r4 u4 k4 H1 H2
 have KF : ∀ W', Kps (w.heap.size + 2) w0 W' → (Vrs W' a0 x.fields) := fun W' hK => keepV A0.out.1 A0.out.2 hK
 have hle : w.heap.size ≤ w.heap.size + 2 := Nat.le_add_right _ _
 have AN : ∀ W', Kps (w.heap.size + 2) w0 W' → ((⟨x.at_, x.name, x.safe, x.hook, a0, c0, x.fields⟩ : StructX).At W' ∧ (⟨x.at_, x.name, x.safe, x.hook, a0, c0, x.fields⟩ : StructX).New w.heap.size) := fun W' hK => by
  have := KF W' hK
  exact ⟨this, A0.out.2.mono hle⟩
 clear KF
 refine ⟨⟨x.at_, x.name, x.safe, x.hook, a0, c0, x.fields⟩, ?_, rfl, AN _ ?_, ?_⟩
 · exact rfl
 · skip
   refine Kps.set (a := ⟨w.heap.size + 1, 4, none⟩) ?_ (show w.heap.size + 1 < w.heap.size + 2 by omega) _
   refine Kps.set (a := ⟨w.heap.size + 1, 3, none⟩) ?_ (show w.heap.size + 1 < w.heap.size + 2 by omega) _
   refine Kps.set (a := ⟨w.heap.size + 1, 2, none⟩) ?_ (show w.heap.size + 1 < w.heap.size + 2 by omega) _
   refine Kps.set (a := ⟨w.heap.size + 1, 1, none⟩) ?_ (show w.heap.size + 1 < w.heap.size + 2 by omega) _
   refine Kps.set (a := ⟨w.heap.size + 1, 0, none⟩) ?_ (show w.heap.size + 1 < w.heap.size + 2 by omega) _
   refine Kps.set (a := ⟨w.heap.size, 4, none⟩) ?_ (show w.heap.size < w.heap.size + 2 by omega) _
   exact Kps.refl _ _
 · skip
   refine Below.setCell (p := ⟨w.heap.size + 1, 4, none⟩) ?_ (Nat.le_succ _) _
   refine Below.setCell (p := ⟨w.heap.size + 1, 3, none⟩) ?_ (Nat.le_succ _) _
   refine Below.setCell (p := ⟨w.heap.size + 1, 2, none⟩) ?_ (Nat.le_succ _) _
   refine Below.setCell (p := ⟨w.heap.size + 1, 1, none⟩) ?_ (Nat.le_succ _) _
   refine Below.setCell (p := ⟨w.heap.size + 1, 0, none⟩) ?_ (Nat.le_succ _) _
   refine below_put ?_ 4 _
   exact hb.out

set_option maxHeartbeats 2000000 in
set_option maxRecDepth 100000 in
theorem clone_e (x : EnumX) (w : World) (hx : x.At w) :
 Calls Tryz.prog 70 #[.agg #[.int .i64 x.at_, .string x.name, .slice x.va x.variants.length x.vc]] w fun e w' => ∃ y : EnumX, e = .returned (.agg #[.int .i64 y.at_, .string y.name, .slice y.va y.variants.length y.vc]) ∧ y.d = x.d ∧ (y.At w' ∧ y.New w.heap.size) ∧ Below w.heap.size w w' := by
 have c0c : Hid (∀ W, Below w.heap.size w W → Calls Tryz.prog 68 #[.slice x.va x.variants.length x.vc] W fun e w' => ∃ a' c', e = .returned (.slice a' x.variants.length c') ∧ x.variants.length ≤ c' ∧ (Vrs w' a' x.variants ∧ NewA W.heap.size a' x.variants.length) ∧ Below W.heap.size W w') := hidIt fun W hW => cv_any _ _ _ W (Vrs.on hx hW)
 clear hx
 have hb := hidIt (below_next (below_new w (.cells #[.int .i64 x.at_, .string x.name, .slice x.va x.variants.length x.vc] 70)) (below_new _ (.cells #[.int .i64 0, .string ⟨#[]⟩, .slice none 0 0] 70)))
 obtain ⟨hh1, hh2⟩ := two_at (w := w) (cs := #[.int .i64 x.at_, .string x.name, .slice x.va x.variants.length x.vc]) (ds := #[.int .i64 0, .string ⟨#[]⟩, .slice none 0 0]) (t := 70) (u := 70) rfl rfl (Below.refl _ _)
 have H1 := hidIt hh1
 have H2 := hidIt hh2
 clear hh1 hh2
 go_enter Tryz.func70, Tryz.ntmps70
 have SZ := hidIt (lt_of_block H2.out)
 go_wp2_with (go_at_call 68; refine (c0c.out _ hb.out).mono ?_)
 rintro e w0 ⟨a0, c0, rfl, l0, ⟨s0, n0⟩, hq⟩
 have hb := hidIt (below_next hb.out hq)
 have H1 := hidIt (heap_on H1.out hq)
 have H2 := hidIt (heap_on H2.out hq)
 have A0 : Hid (Vrs w0 a0 x.variants ∧ NewA (w.heap.size + 2) a0 x.variants.length) := hidIt ⟨s0, NewA.mono n0 SZ.out⟩
 clear hq c0c s0 n0 SZ  l0
 obtain ⟨p0, p1, p2⟩ := cells_3 H1.out
 have k2 : w0.frozen? ⟨w.heap.size, 2, none⟩ = false := frozen_at H1.out 2
 have r0 : w0.cell? ⟨w.heap.size + 1, 0, none⟩ = some (.int .i64 0) := cell_at H2.out 0
 have u0 : w0.frozen? ⟨w.heap.size + 1, 0, none⟩ = false := frozen_at H2.out 0
 have r1 : w0.cell? ⟨w.heap.size + 1, 1, none⟩ = some (.string ⟨#[]⟩) := cell_at H2.out 1
 have u1 : w0.frozen? ⟨w.heap.size + 1, 1, none⟩ = false := frozen_at H2.out 1
 have r2 : w0.cell? ⟨w.heap.size + 1, 2, none⟩ = some (.slice none 0 0) := cell_at H2.out 2
 have u2 : w0.frozen? ⟨w.heap.size + 1, 2, none⟩ = false := frozen_at H2.out 2
 go_wp2
 (try simp only [Exit.inBlock, Exit.then])
 refine bodyPost_ret (show _ = Result.ok (.agg #[.int .i64 x.at_, .string x.name, .slice a0 x.variants.length c0]) _ by simp [results, Tryz.results70, go_sem, r0, r1, r2]) rfl ?_
 clear p0 r0 u0 p1 r1 u1 p2 r2 u2 k2 H1 H2
 have KF : ∀ W', Kps (w.heap.size + 2) w0 W' → (Vrs W' a0 x.variants) := fun W' hK => keepV A0.out.1 A0.out.2 hK
 have hle : w.heap.size ≤ w.heap.size + 2 := Nat.le_add_right _ _
 have AN : ∀ W', Kps (w.heap.size + 2) w0 W' → ((⟨x.at_, x.name, a0, c0, x.variants⟩ : EnumX).At W' ∧ (⟨x.at_, x.name, a0, c0, x.variants⟩ : EnumX).New w.heap.size) := fun W' hK => by
  have := KF W' hK
  exact ⟨this, A0.out.2.mono hle⟩
 clear KF
 refine ⟨⟨x.at_, x.name, a0, c0, x.variants⟩, ?_, rfl, AN _ ?_, ?_⟩
 · exact rfl
 · skip
   refine Kps.set (a := ⟨w.heap.size + 1, 2, none⟩) ?_ (show w.heap.size + 1 < w.heap.size + 2 by omega) _
   refine Kps.set (a := ⟨w.heap.size + 1, 1, none⟩) ?_ (show w.heap.size + 1 < w.heap.size + 2 by omega) _
   refine Kps.set (a := ⟨w.heap.size + 1, 0, none⟩) ?_ (show w.heap.size + 1 < w.heap.size + 2 by omega) _
   refine Kps.set (a := ⟨w.heap.size, 2, none⟩) ?_ (show w.heap.size < w.heap.size + 2 by omega) _
   exact Kps.refl _ _
 · skip
   refine Below.setCell (p := ⟨w.heap.size + 1, 2, none⟩) ?_ (Nat.le_succ _) _
   refine Below.setCell (p := ⟨w.heap.size + 1, 1, none⟩) ?_ (Nat.le_succ _) _
   refine Below.setCell (p := ⟨w.heap.size + 1, 0, none⟩) ?_ (Nat.le_succ _) _
   refine below_put ?_ 2 _
   exact hb.out

set_option maxHeartbeats 2000000 in
set_option maxRecDepth 100000 in
theorem cloneprog_any (x : ProgX) (w : World) (hx : x.At w) :
 Calls Tryz.prog 24 #[.agg #[.slice x.sa x.structs.length x.sc, .slice x.ea x.enums.length x.ec, .slice x.fa x.funcs.length x.fc]] w fun e w' => ∃ y : ProgX, e = .returned (.agg #[.slice y.sa y.structs.length y.sc, .slice y.ea y.enums.length y.ec, .slice y.fa y.funcs.length y.fc]) ∧ y.d = x.d ∧ (y.At w' ∧ y.New w.heap.size) ∧ Below w.heap.size w w' := by
 have c0c : Hid (∀ W, Below w.heap.size w W → Calls Tryz.prog 66 #[.slice x.sa x.structs.length x.sc, .func (.func 67) #[] #[]] W fun e w' => ∃ a' c' ys, e = .returned (.slice a' x.structs.length c') ∧ ys.length = x.structs.length ∧ ys.map StructX.d = x.structs.map StructX.d ∧ (Strs w' a' ys ∧ (NewA W.heap.size a' ys.length ∧ ∀ y ∈ ys, y.New W.heap.size)) ∧ Below W.heap.size W w') := hidIt fun W hW => (anew_struct _ _ _ W (hx.1.on hW) fun W2 p hp hW2 => (clone_u p W2 ((StructX.At.on (hx.1.2 p hp) hW).on hW2)).mono fun e w1 ⟨y, h1, h2, h3, h4⟩ => ⟨y, h1, h2, h3.1, h3.2, h4⟩).mono fun e w1 ⟨a, c, ys, h1, h2, h3, h4, h5, h6⟩ => ⟨a, c, ys, h1, h2, h3, ⟨h4, h5⟩, h6⟩
 have c1c : Hid (∀ W, Below w.heap.size w W → Calls Tryz.prog 69 #[.slice x.ea x.enums.length x.ec, .func (.func 70) #[] #[]] W fun e w' => ∃ a' c' ys, e = .returned (.slice a' x.enums.length c') ∧ ys.length = x.enums.length ∧ ys.map EnumX.d = x.enums.map EnumX.d ∧ (Ens w' a' ys ∧ (NewA W.heap.size a' ys.length ∧ ∀ y ∈ ys, y.New W.heap.size)) ∧ Below W.heap.size W w') := hidIt fun W hW => (anew_enum _ _ _ W (hx.2.1.on hW) fun W2 p hp hW2 => (clone_e p W2 ((EnumX.At.on (hx.2.1.2 p hp) hW).on hW2)).mono fun e w1 ⟨y, h1, h2, h3, h4⟩ => ⟨y, h1, h2, h3.1, h3.2, h4⟩).mono fun e w1 ⟨a, c, ys, h1, h2, h3, h4, h5, h6⟩ => ⟨a, c, ys, h1, h2, h3, ⟨h4, h5⟩, h6⟩
 have c2c : Hid (∀ W, Below w.heap.size w W → Calls Tryz.prog 71 #[.slice x.fa x.funcs.length x.fc, .func (.func 72) #[] #[]] W fun e w' => ∃ a' c' ys, e = .returned (.slice a' x.funcs.length c') ∧ ys.length = x.funcs.length ∧ ys.map FuncX.d = x.funcs.map FuncX.d ∧ (Fns w' a' ys ∧ (NewA W.heap.size a' ys.length ∧ ∀ y ∈ ys, y.New W.heap.size)) ∧ Below W.heap.size W w') := hidIt fun W hW => (anew_func _ _ _ W (hx.2.2.on hW) fun W2 p hp hW2 => (clone_f p W2 ((FuncX.At.on (hx.2.2.2 p hp) hW).on hW2)).mono fun e w1 ⟨y, h1, h2, h3, h4⟩ => ⟨y, h1, h2, h3.1, h3.2, h4⟩).mono fun e w1 ⟨a, c, ys, h1, h2, h3, h4, h5, h6⟩ => ⟨a, c, ys, h1, h2, h3, ⟨h4, h5⟩, h6⟩
 clear hx
 have hb := hidIt (below_next (below_new w (.cells #[.slice x.sa x.structs.length x.sc, .slice x.ea x.enums.length x.ec, .slice x.fa x.funcs.length x.fc] 36)) (below_new _ (.cells #[.slice none 0 0, .slice none 0 0, .slice none 0 0] 36)))
 obtain ⟨hh1, hh2⟩ := two_at (w := w) (cs := #[.slice x.sa x.structs.length x.sc, .slice x.ea x.enums.length x.ec, .slice x.fa x.funcs.length x.fc]) (ds := #[.slice none 0 0, .slice none 0 0, .slice none 0 0]) (t := 36) (u := 36) rfl rfl (Below.refl _ _)
 have H1 := hidIt hh1
 have H2 := hidIt hh2
 clear hh1 hh2
 go_enter Tryz.func24, Tryz.ntmps24
 go_wp2_with fail
 generalize ((w.alloc (.cells #[.slice x.sa x.structs.length x.sc, .slice x.ea x.enums.length x.ec, .slice x.fa x.funcs.length x.fc] 36)).alloc (.cells #[.slice none 0 0, .slice none 0 0, .slice none 0 0] 36)) = W0 at hb H1 H2 ⊢
 have SZ : Hid (w.heap.size + 2 ≤ W0.heap.size) := hidIt (lt_of_block H2.out)
 have hso : Hid (∀ W, Below W0.heap.size W0 W → W.cell? ⟨w.heap.size, 0, none⟩ = some (.slice x.sa x.structs.length x.sc) ∧ W.cell? ⟨w.heap.size, 1, none⟩ = some (.slice x.ea x.enums.length x.ec) ∧ W.cell? ⟨w.heap.size, 2, none⟩ = some (.slice x.fa x.funcs.length x.fc)) := hidIt fun W hW => ⟨cell_at (heap_on H1.out hW) 0, cell_at (heap_on H1.out hW) 1, cell_at (heap_on H1.out hW) 2⟩
 have sw := hso.out W0 (Below.refl _ _)
 have HD0 : Hid (Below W0.heap.size W0 W0.drew) := hidIt (Below.refl _ _).drew
 go_region_held3 (fun W => W.cell? ⟨w.heap.size, 0, none⟩ = some (.slice x.sa x.structs.length x.sc) ∧ W.cell? ⟨w.heap.size, 1, none⟩ = some (.slice x.ea x.enums.length x.ec) ∧ W.cell? ⟨w.heap.size, 2, none⟩ = some (.slice x.fa x.funcs.length x.fc)) (go_keep)
  (first
  | (go_at_call 66; refine (c0c.out _ (below_next hb.out HD0.out)).mono ?_; rintro e w1 ⟨a0, c0, ys0, rfl, l0, d0, ⟨s0, n0⟩, hq⟩; have hb1 := hidIt (below_next HD0.out hq); have s1 := hso.out _ hb1.out; have K0 : Hid (ys0.length = x.structs.length ∧ ys0.map StructX.d = x.structs.map StructX.d ∧ Strs w1 a0 ys0 ∧ (NewA (w.heap.size + 2) a0 ys0.length ∧ ∀ y ∈ ys0, y.New (w.heap.size + 2))) := hidIt ⟨l0, d0, s0, n0.1.mono (Nat.le_trans SZ.out HD0.out.size), fun y hy => (n0.2 y hy).mono (Nat.le_trans SZ.out HD0.out.size)⟩; clear l0 d0 s0 n0 hq)
  | (go_at_call 69; refine (c1c.out _ (below_next hb.out hb1.out)).mono ?_; rintro e w2 ⟨a1, c1, ys1, rfl, l1, d1, ⟨s2, n1⟩, hq⟩; have hb2 := hidIt (below_next hb1.out hq); have s2' := hso.out _ hb2.out; have K1 : Hid (Strs w2 a0 ys0 ∧ ys1.length = x.enums.length ∧ ys1.map EnumX.d = x.enums.map EnumX.d ∧ Ens w2 a1 ys1 ∧ (NewA (w.heap.size + 2) a1 ys1.length ∧ ∀ y ∈ ys1, y.New (w.heap.size + 2))) := hidIt ⟨K0.out.2.2.1.on hq, l1, d1, s2, n1.1.mono (Nat.le_trans SZ.out hb1.out.size), fun y hy => (n1.2 y hy).mono (Nat.le_trans SZ.out hb1.out.size)⟩; clear l1 d1 s2 n1 hq)
  | (go_at_call 71; refine (c2c.out _ (below_next hb.out hb2.out)).mono ?_; rintro e w3 ⟨a2, c2, ys2, rfl, l2, d2, ⟨s3, n2⟩, hq⟩; have hb3 := hidIt (below_next hb2.out hq); have s3' := hso.out _ hb3.out; have K2 : Hid (Strs w3 a0 ys0 ∧ Ens w3 a1 ys1 ∧ ys2.length = x.funcs.length ∧ ys2.map FuncX.d = x.funcs.map FuncX.d ∧ Fns w3 a2 ys2 ∧ (NewA (w.heap.size + 2) a2 ys2.length ∧ ∀ y ∈ ys2, y.New (w.heap.size + 2))) := hidIt ⟨K1.out.1.on hq, K1.out.2.2.2.1.on hq, l2, d2, s3, n2.1.mono (Nat.le_trans SZ.out hb2.out.size), fun y hy => (n2.2 y hy).mono (Nat.le_trans SZ.out hb2.out.size)⟩; have H5 := hidIt (heap_on H2.out hb3.out); clear l2 d2 s3 n2 hq; have r0 : w3.cell? ⟨w.heap.size + 1, 0, none⟩ = some (.slice none 0 0) := cell_at H5.out 0; have r1 : w3.cell? ⟨w.heap.size + 1, 1, none⟩ = some (.slice none 0 0) := cell_at H5.out 1; have r2 : w3.cell? ⟨w.heap.size + 1, 2, none⟩ = some (.slice none 0 0) := cell_at H5.out 2; have u0 : w3.frozen? ⟨w.heap.size + 1, 0, none⟩ = false := frozen_at H5.out 0; have u1 : w3.frozen? ⟨w.heap.size + 1, 1, none⟩ = false := frozen_at H5.out 1; have u2 : w3.frozen? ⟨w.heap.size + 1, 2, none⟩ = false := frozen_at H5.out 2))
 all_goals
  go_wp2
  (try simp only [Exit.inBlock, Exit.then])
  refine bodyPost_ret (show _ = Result.ok (.agg #[.slice a0 x.structs.length c0, .slice a1 x.enums.length c1, .slice a2 x.funcs.length c2]) _ by simp [results, Tryz.results24, go_sem, r0, r1, r2]) rfl ?_
  clear r0 r1 r2 u0 u1 u2 s1 s2' s3'
  have hle : w.heap.size ≤ w.heap.size + 2 := Nat.le_add_right _ _
  have AN : ∀ W', Kps (w.heap.size + 2) w3 W' → ((⟨a0, c0, ys0, a1, c1, ys1, a2, c2, ys2⟩ : ProgX).At W' ∧ (⟨a0, c0, ys0, a1, c1, ys1, a2, c2, ys2⟩ : ProgX).New w.heap.size) := fun W' hK => ⟨⟨keepU K2.out.1 K0.out.2.2.2 hK, keepE K2.out.2.1 K1.out.2.2.2.2 hK, keepF K2.out.2.2.2.2.1 K2.out.2.2.2.2.2 hK⟩, ⟨⟨K0.out.2.2.2.1.mono hle, fun y hy => (K0.out.2.2.2.2 y hy).mono hle⟩, ⟨K1.out.2.2.2.2.1.mono hle, fun y hy => (K1.out.2.2.2.2.2 y hy).mono hle⟩, K2.out.2.2.2.2.2.1.mono hle, fun y hy => (K2.out.2.2.2.2.2.2 y hy).mono hle⟩⟩
  refine ⟨⟨a0, c0, ys0, a1, c1, ys1, a2, c2, ys2⟩, ?_, by simp only [ProgX.d, K0.out.2.1, K1.out.2.2.1, K2.out.2.2.2.1], AN _ ?_, ?_⟩
  · simp [K0.out.1, K1.out.2.1, K2.out.2.2.1]
  · refine Kps.set (a := ⟨w.heap.size + 1, 2, none⟩) ?_ (show w.heap.size + 1 < w.heap.size + 2 by omega) _
    refine Kps.set (a := ⟨w.heap.size + 1, 1, none⟩) ?_ (show w.heap.size + 1 < w.heap.size + 2 by omega) _
    refine Kps.set (a := ⟨w.heap.size + 1, 0, none⟩) ?_ (show w.heap.size + 1 < w.heap.size + 2 by omega) _
    exact Kps.refl _ _
  · refine Below.setCell (p := ⟨w.heap.size + 1, 2, none⟩) ?_ (Nat.le_succ _) _
    refine Below.setCell (p := ⟨w.heap.size + 1, 1, none⟩) ?_ (Nat.le_succ _) _
    refine Below.setCell (p := ⟨w.heap.size + 1, 0, none⟩) ?_ (Nat.le_succ _) _
    exact below_next hb.out hb3.out

end Go.Proofs.YtlppbgmcoknliaaGreatDoor
