/-
  The walks of rightBlock, rightStruct, rightEnum, rightFunc, Right.
-/
import Derived.Test.YtlppbgmcoknliaaGreatDoorRgt2
namespace Go.Proofs.YtlppbgmcoknliaaGreatDoor
set_option linter.unusedVariables false
open Go.RowKit

set_option maxHeartbeats 1000000 in
set_option maxRecDepth 100000 in
theorem block_right (x : BlockX) (w : World) (hx : x.At w) (hf : x.d.Fit) :
 Calls Tryz.prog 102 #[.agg #[.int .i64 x.at_, .string x.name, .slice x.sa x.stmts.length x.sc, .int .i64 x.term.at_, .int .i64 x.term.kind, .string x.term.to.loc, .slice x.term.to.sa x.term.to.steps.length x.term.to.sc, .string x.term.name, .slice x.term.aa x.term.args.length x.term.ac, .slice x.term.ba x.term.blocks.length x.term.bc, .slice x.term.ra x.term.arms.length x.term.rc]] w fun e w' => e = .returned (.bool (blockR x.d)) ∧ Below w.heap.size w w' := by
 have c0 : Hid (∀ W, Below w.heap.size w W → Calls Tryz.prog 82 #[.string x.name] W fun e w' => e = .returned (.bool (nameS x.name)) ∧ Below W.heap.size W w') := hidIt fun W hW => isName_any x.name (fit_le hf.1) W
 have c1 : Hid (∀ W, Below w.heap.size w W → Calls Tryz.prog 136 #[.slice x.sa x.stmts.length x.sc, .agg #[.int .i64 0, .int .i64 64], .func (.func 137) #[] #[]] W fun e w' => e = .returned (.bool (everyL 0 64 (fun s => stmtR s.d) x.stmts)) ∧ Below W.heap.size W w') := hidIt fun W hW => every0_stmt _ _ _ _ _ _ _ _ (fun args w => by kernel_rfl) (Sts.on hx.1 hW) fun W2 p hp hW2 => stmt_right p W2 (((hx.1.2 p hp).on hW).on hW2) (hf.2.1 p.d (List.mem_map_of_mem hp))
 have c2 : Hid (∀ W, Below w.heap.size w W → Calls Tryz.prog 138 #[.agg #[.int .i64 x.term.at_, .int .i64 x.term.kind, .string x.term.to.loc, .slice x.term.to.sa x.term.to.steps.length x.term.to.sc, .string x.term.name, .slice x.term.aa x.term.args.length x.term.ac, .slice x.term.ba x.term.blocks.length x.term.bc, .slice x.term.ra x.term.arms.length x.term.rc]] W fun e w' => e = .returned (.bool (termR x.term.d)) ∧ Below W.heap.size W w') := hidIt fun W hW => term_right x.term W (hx.2.on hW) hf.2.2
 obtain ⟨v0, v1, v2, e0, e1, e2, eR⟩ : ∃ v0 v1 v2 : Bool, (nameS x.name) = v0 ∧ (everyL 0 64 (fun s => stmtR s.d) x.stmts) = v1 ∧ (termR x.term.d) = v2 ∧ (blockR x.d) = (v0 && (v1 && (v2))) := ⟨_, _, _, rfl, rfl, rfl, by simp only [blockR, BlockX.d, everyL_map]⟩
 rw [eR]
 clear eR hx hf
 rw [e0] at c0
 clear e0
 rw [e1] at c1
 clear e1
 rw [e2] at c2
 clear e2
 have hb := hidIt (below_new w (.cells #[.int .i64 x.at_, .string x.name, .slice x.sa x.stmts.length x.sc, .int .i64 x.term.at_, .int .i64 x.term.kind, .string x.term.to.loc, .slice x.term.to.sa x.term.to.steps.length x.term.to.sc, .string x.term.name, .slice x.term.aa x.term.args.length x.term.ac, .slice x.term.ba x.term.blocks.length x.term.bc, .slice x.term.ra x.term.arms.length x.term.rc] 64))
 have H1 := hidIt (heap_alloc_new w (.cells #[.int .i64 x.at_, .string x.name, .slice x.sa x.stmts.length x.sc, .int .i64 x.term.at_, .int .i64 x.term.kind, .string x.term.to.loc, .slice x.term.to.sa x.term.to.steps.length x.term.to.sc, .string x.term.name, .slice x.term.aa x.term.args.length x.term.ac, .slice x.term.ba x.term.blocks.length x.term.bc, .slice x.term.ra x.term.arms.length x.term.rc] 64))
 cases v0
 · clear c1 c2
   go_enter Tryz.func102, Tryz.ntmps102
   go_wp2_with (go_at_call 82; refine (c0.out _ hb.out).mono ?_)
   rintro e w0 ⟨rfl, hq⟩
   have hb := hidIt (below_next hb.out hq)
   have H1 := hidIt (heap_on H1.out hq)
   clear hq c0
   obtain ⟨p0, p1, p2, p3, p4, p5, p6, p7, p8, p9, p10⟩ := cells_11 H1.out
   go_wp2
   go_ret
   exact ⟨rfl, hb.out⟩
 cases v1
 · clear c2
   go_enter Tryz.func102, Tryz.ntmps102
   go_wp2_with (go_at_call 82; refine (c0.out _ hb.out).mono ?_)
   rintro e w0 ⟨rfl, hq⟩
   have hb := hidIt (below_next hb.out hq)
   have H1 := hidIt (heap_on H1.out hq)
   clear hq c0
   obtain ⟨p0, p1, p2, p3, p4, p5, p6, p7, p8, p9, p10⟩ := cells_11 H1.out
   go_wp2_with (go_at_call 136; refine (c1.out _ hb.out).mono ?_)
   rintro e w1 ⟨rfl, hq⟩
   have hb := hidIt (below_next hb.out hq)
   have H1 := hidIt (heap_on H1.out hq)
   clear hq c1
   obtain ⟨p0, p1, p2, p3, p4, p5, p6, p7, p8, p9, p10⟩ := cells_11 H1.out
   go_wp2
   go_ret
   exact ⟨rfl, hb.out⟩
 cases v2
 · go_enter Tryz.func102, Tryz.ntmps102
   go_wp2_with (go_at_call 82; refine (c0.out _ hb.out).mono ?_)
   rintro e w0 ⟨rfl, hq⟩
   have hb := hidIt (below_next hb.out hq)
   have H1 := hidIt (heap_on H1.out hq)
   clear hq c0
   obtain ⟨p0, p1, p2, p3, p4, p5, p6, p7, p8, p9, p10⟩ := cells_11 H1.out
   go_wp2_with (go_at_call 136; refine (c1.out _ hb.out).mono ?_)
   rintro e w1 ⟨rfl, hq⟩
   have hb := hidIt (below_next hb.out hq)
   have H1 := hidIt (heap_on H1.out hq)
   clear hq c1
   obtain ⟨p0, p1, p2, p3, p4, p5, p6, p7, p8, p9, p10⟩ := cells_11 H1.out
   go_wp2_with (go_at_call 138; refine (c2.out _ hb.out).mono ?_)
   rintro e w2 ⟨rfl, hq⟩
   have hb := hidIt (below_next hb.out hq)
   have H1 := hidIt (heap_on H1.out hq)
   clear hq c2
   obtain ⟨p0, p1, p2, p3, p4, p5, p6, p7, p8, p9, p10⟩ := cells_11 H1.out
   go_wp2
   go_ret
   exact ⟨rfl, hb.out⟩
 go_enter Tryz.func102, Tryz.ntmps102
 go_wp2_with (go_at_call 82; refine (c0.out _ hb.out).mono ?_)
 rintro e w0 ⟨rfl, hq⟩
 have hb := hidIt (below_next hb.out hq)
 have H1 := hidIt (heap_on H1.out hq)
 clear hq c0
 obtain ⟨p0, p1, p2, p3, p4, p5, p6, p7, p8, p9, p10⟩ := cells_11 H1.out
 go_wp2_with (go_at_call 136; refine (c1.out _ hb.out).mono ?_)
 rintro e w1 ⟨rfl, hq⟩
 have hb := hidIt (below_next hb.out hq)
 have H1 := hidIt (heap_on H1.out hq)
 clear hq c1
 obtain ⟨p0, p1, p2, p3, p4, p5, p6, p7, p8, p9, p10⟩ := cells_11 H1.out
 go_wp2_with (go_at_call 138; refine (c2.out _ hb.out).mono ?_)
 rintro e w2 ⟨rfl, hq⟩
 have hb := hidIt (below_next hb.out hq)
 have H1 := hidIt (heap_on H1.out hq)
 clear hq c2
 obtain ⟨p0, p1, p2, p3, p4, p5, p6, p7, p8, p9, p10⟩ := cells_11 H1.out
 go_wp2
 go_ret
 exact ⟨rfl, hb.out⟩

set_option maxHeartbeats 1000000 in
set_option maxRecDepth 100000 in
theorem struct_right (x : StructX) (w : World) (hx : x.At w) (hf : x.d.Fit) :
 Calls Tryz.prog 46 #[.agg #[.int .i64 x.at_, .string x.name, .bool x.safe, .bool x.hook, .slice x.fa x.fields.length x.fc]] w fun e w' => e = .returned (.bool (structR x.d)) ∧ Below w.heap.size w w' := by
 have c0 : Hid (∀ W, Below w.heap.size w W → Calls Tryz.prog 82 #[.string x.name] W fun e w' => e = .returned (.bool (nameS x.name)) ∧ Below W.heap.size W w') := hidIt fun W hW => isName_any x.name (fit_le hf.1) W
 have c1 : Hid (∀ W, Below w.heap.size w W → Calls Tryz.prog 92 #[.slice x.fa x.fields.length x.fc, .agg #[.int .i64 0, .int .i64 16], .func (.func 93) #[] #[]] W fun e w' => e = .returned (.bool (everyL 0 16 (varR plainS) x.fields)) ∧ Below W.heap.size W w') := hidIt fun W hW => vars_right _ _ _ _ _ _ _ _ (fun args w => by kernel_rfl) (Vrs.on hx hW) hf.2 fun W2 s hs => plain_any s (fit_le hs) W2
 obtain ⟨v0, v1, e0, e1, eR⟩ : ∃ v0 v1 : Bool, (nameS x.name) = v0 ∧ (everyL 0 16 (varR plainS) x.fields) = v1 ∧ (structR x.d) = (v0 && (v1)) := ⟨_, _, rfl, rfl, rfl⟩
 rw [eR]
 clear eR hx hf
 rw [e0] at c0
 clear e0
 rw [e1] at c1
 clear e1
 have hb := hidIt (below_new w (.cells #[.int .i64 x.at_, .string x.name, .bool x.safe, .bool x.hook, .slice x.fa x.fields.length x.fc] 58))
 have H1 := hidIt (heap_alloc_new w (.cells #[.int .i64 x.at_, .string x.name, .bool x.safe, .bool x.hook, .slice x.fa x.fields.length x.fc] 58))
 cases v0
 · clear c1
   go_enter Tryz.func46, Tryz.ntmps46
   go_wp2_with (go_at_call 82; refine (c0.out _ hb.out).mono ?_)
   rintro e w0 ⟨rfl, hq⟩
   have hb := hidIt (below_next hb.out hq)
   have H1 := hidIt (heap_on H1.out hq)
   clear hq c0
   obtain ⟨p0, p1, p2, p3, p4⟩ := cells_5 H1.out
   go_wp2
   go_ret
   exact ⟨rfl, hb.out⟩
 cases v1
 · go_enter Tryz.func46, Tryz.ntmps46
   go_wp2_with (go_at_call 82; refine (c0.out _ hb.out).mono ?_)
   rintro e w0 ⟨rfl, hq⟩
   have hb := hidIt (below_next hb.out hq)
   have H1 := hidIt (heap_on H1.out hq)
   clear hq c0
   obtain ⟨p0, p1, p2, p3, p4⟩ := cells_5 H1.out
   go_wp2_with (go_at_call 92; refine (c1.out _ hb.out).mono ?_)
   rintro e w1 ⟨rfl, hq⟩
   have hb := hidIt (below_next hb.out hq)
   have H1 := hidIt (heap_on H1.out hq)
   clear hq c1
   obtain ⟨p0, p1, p2, p3, p4⟩ := cells_5 H1.out
   go_wp2
   go_ret
   exact ⟨rfl, hb.out⟩
 go_enter Tryz.func46, Tryz.ntmps46
 go_wp2_with (go_at_call 82; refine (c0.out _ hb.out).mono ?_)
 rintro e w0 ⟨rfl, hq⟩
 have hb := hidIt (below_next hb.out hq)
 have H1 := hidIt (heap_on H1.out hq)
 clear hq c0
 obtain ⟨p0, p1, p2, p3, p4⟩ := cells_5 H1.out
 go_wp2_with (go_at_call 92; refine (c1.out _ hb.out).mono ?_)
 rintro e w1 ⟨rfl, hq⟩
 have hb := hidIt (below_next hb.out hq)
 have H1 := hidIt (heap_on H1.out hq)
 clear hq c1
 obtain ⟨p0, p1, p2, p3, p4⟩ := cells_5 H1.out
 go_wp2
 go_ret
 exact ⟨rfl, hb.out⟩

set_option maxHeartbeats 1000000 in
set_option maxRecDepth 100000 in
theorem enum_right (x : EnumX) (w : World) (hx : x.At w) (hf : x.d.Fit) :
 Calls Tryz.prog 48 #[.agg #[.int .i64 x.at_, .string x.name, .slice x.va x.variants.length x.vc]] w fun e w' => e = .returned (.bool (enumR x.d)) ∧ Below w.heap.size w w' := by
 have c0 : Hid (∀ W, Below w.heap.size w W → Calls Tryz.prog 82 #[.string x.name] W fun e w' => e = .returned (.bool (nameS x.name)) ∧ Below W.heap.size W w') := hidIt fun W hW => isName_any x.name (fit_le hf.1) W
 have c1 : Hid (∀ W, Below w.heap.size w W → Calls Tryz.prog 92 #[.slice x.va x.variants.length x.vc, .agg #[.int .i64 1, .int .i64 16], .func (.func 96) #[] #[]] W fun e w' => e = .returned (.bool (everyL 1 16 (varR payS) x.variants)) ∧ Below W.heap.size W w') := hidIt fun W hW => vars_right _ _ _ _ _ _ _ _ (fun args w => by kernel_rfl) (Vrs.on hx hW) hf.2 fun W2 s hs => pay_any s hs W2
 obtain ⟨v0, v1, e0, e1, eR⟩ : ∃ v0 v1 : Bool, (nameS x.name) = v0 ∧ (everyL 1 16 (varR payS) x.variants) = v1 ∧ (enumR x.d) = (v0 && (v1)) := ⟨_, _, rfl, rfl, rfl⟩
 rw [eR]
 clear eR hx hf
 rw [e0] at c0
 clear e0
 rw [e1] at c1
 clear e1
 have hb := hidIt (below_new w (.cells #[.int .i64 x.at_, .string x.name, .slice x.va x.variants.length x.vc] 70))
 have H1 := hidIt (heap_alloc_new w (.cells #[.int .i64 x.at_, .string x.name, .slice x.va x.variants.length x.vc] 70))
 cases v0
 · clear c1
   go_enter Tryz.func48, Tryz.ntmps48
   go_wp2_with (go_at_call 82; refine (c0.out _ hb.out).mono ?_)
   rintro e w0 ⟨rfl, hq⟩
   have hb := hidIt (below_next hb.out hq)
   have H1 := hidIt (heap_on H1.out hq)
   clear hq c0
   obtain ⟨p0, p1, p2⟩ := cells_3 H1.out
   go_wp2
   go_ret
   exact ⟨rfl, hb.out⟩
 cases v1
 · go_enter Tryz.func48, Tryz.ntmps48
   go_wp2_with (go_at_call 82; refine (c0.out _ hb.out).mono ?_)
   rintro e w0 ⟨rfl, hq⟩
   have hb := hidIt (below_next hb.out hq)
   have H1 := hidIt (heap_on H1.out hq)
   clear hq c0
   obtain ⟨p0, p1, p2⟩ := cells_3 H1.out
   go_wp2_with (go_at_call 92; refine (c1.out _ hb.out).mono ?_)
   rintro e w1 ⟨rfl, hq⟩
   have hb := hidIt (below_next hb.out hq)
   have H1 := hidIt (heap_on H1.out hq)
   clear hq c1
   obtain ⟨p0, p1, p2⟩ := cells_3 H1.out
   go_wp2
   go_ret
   exact ⟨rfl, hb.out⟩
 go_enter Tryz.func48, Tryz.ntmps48
 go_wp2_with (go_at_call 82; refine (c0.out _ hb.out).mono ?_)
 rintro e w0 ⟨rfl, hq⟩
 have hb := hidIt (below_next hb.out hq)
 have H1 := hidIt (heap_on H1.out hq)
 clear hq c0
 obtain ⟨p0, p1, p2⟩ := cells_3 H1.out
 go_wp2_with (go_at_call 92; refine (c1.out _ hb.out).mono ?_)
 rintro e w1 ⟨rfl, hq⟩
 have hb := hidIt (below_next hb.out hq)
 have H1 := hidIt (heap_on H1.out hq)
 clear hq c1
 obtain ⟨p0, p1, p2⟩ := cells_3 H1.out
 go_wp2
 go_ret
 exact ⟨rfl, hb.out⟩

set_option maxHeartbeats 1000000 in
set_option maxRecDepth 100000 in
theorem func_right (x : FuncX) (w : World) (hx : x.At w) (hf : x.d.Fit) :
 Calls Tryz.prog 50 #[.agg #[.int .i64 x.at_, .string x.name, .slice x.pa x.params.length x.pc, .slice x.la x.locals.length x.lc, .string x.result, .slice x.ba x.blocks.length x.bc]] w fun e w' => e = .returned (.bool (funcR x.d)) ∧ Below w.heap.size w w' := by
 have n1 := Sl.big hx.1
 rw [List.length_map] at n1
 have c0 : Hid (∀ W, Below w.heap.size w W → Calls Tryz.prog 82 #[.string x.name] W fun e w' => e = .returned (.bool (nameS x.name)) ∧ Below W.heap.size W w') := hidIt fun W hW => isName_any x.name (fit_le hf.1) W
 have c1 : Hid (∀ W, Below w.heap.size w W → Calls Tryz.prog 93 #[.string x.result] W fun e w' => e = .returned (.bool (plainS x.result)) ∧ Below W.heap.size W w') := hidIt fun W hW => plain_any x.result (fit_le hf.2.1) W
 have c2 : Hid (∀ W, Below w.heap.size w W → Calls Tryz.prog 92 #[.slice x.pa x.params.length x.pc, .agg #[.int .i64 0, .int .i64 16], .func (.func 99) #[] #[]] W fun e w' => e = .returned (.bool (everyL 0 16 (varR typeS) x.params)) ∧ Below W.heap.size W w') := hidIt fun W hW => vars_right _ _ _ _ _ _ _ _ (fun args w => by kernel_rfl) (Vrs.on hx.1 hW) hf.2.2.1 fun W2 s hs => type_any s hs W2
 have c3 : Hid (∀ W, Below w.heap.size w W → Calls Tryz.prog 92 #[.slice x.la x.locals.length x.lc, .agg #[.int .i64 0, .int .i64 (24 - (x.params.length : Int))], .func (.func 99) #[] #[]] W fun e w' => e = .returned (.bool (everyL 0 (24 - (x.params.length : Int)) (varR typeS) x.locals)) ∧ Below W.heap.size W w') := hidIt fun W hW => vars_right _ _ _ _ _ _ _ _ (fun args w => by kernel_rfl) (Vrs.on hx.2.1 hW) hf.2.2.2.1 fun W2 s hs => type_any s hs W2
 have c4 : Hid (∀ W, Below w.heap.size w W → Calls Tryz.prog 101 #[.slice x.ba x.blocks.length x.bc, .agg #[.int .i64 1, .int .i64 64], .func (.func 102) #[] #[]] W fun e w' => e = .returned (.bool (everyL 1 64 (fun s => blockR s.d) x.blocks)) ∧ Below W.heap.size W w') := hidIt fun W hW => every0_block _ _ _ _ _ _ _ _ (fun args w => by kernel_rfl) (Bls.on hx.2.2 hW) fun W2 p hp hW2 => block_right p W2 (((hx.2.2.2 p hp).on hW).on hW2) (hf.2.2.2.2 p.d (List.mem_map_of_mem hp))
 obtain ⟨v0, v1, v2, v3, v4, e0, e1, e2, e3, e4, eR⟩ : ∃ v0 v1 v2 v3 v4 : Bool, (nameS x.name) = v0 ∧ (plainS x.result) = v1 ∧ (everyL 0 16 (varR typeS) x.params) = v2 ∧ (everyL 0 (24 - (x.params.length : Int)) (varR typeS) x.locals) = v3 ∧ (everyL 1 64 (fun s => blockR s.d) x.blocks) = v4 ∧ (funcR x.d) = (v0 && (v1 && (v2 && (v3 && (v4))))) := ⟨_, _, _, _, _, rfl, rfl, rfl, rfl, rfl, by simp only [funcR, FuncX.d, everyL_map]⟩
 rw [eR]
 clear eR hx hf
 rw [e0] at c0
 clear e0
 rw [e1] at c1
 clear e1
 rw [e2] at c2
 clear e2
 rw [e3] at c3
 clear e3
 rw [e4] at c4
 clear e4
 have hb := hidIt (below_new w (.cells #[.int .i64 x.at_, .string x.name, .slice x.pa x.params.length x.pc, .slice x.la x.locals.length x.lc, .string x.result, .slice x.ba x.blocks.length x.bc] 45))
 have H1 := hidIt (heap_alloc_new w (.cells #[.int .i64 x.at_, .string x.name, .slice x.pa x.params.length x.pc, .slice x.la x.locals.length x.lc, .string x.result, .slice x.ba x.blocks.length x.bc] 45))
 cases v0
 · clear c1 c2 c3 c4
   go_enter Tryz.func50, Tryz.ntmps50
   go_wp2_with (go_at_call 82; refine (c0.out _ hb.out).mono ?_)
   rintro e w0 ⟨rfl, hq⟩
   have hb := hidIt (below_next hb.out hq)
   have H1 := hidIt (heap_on H1.out hq)
   clear hq c0
   obtain ⟨p0, p1, p2, p3, p4, p5⟩ := cells_6 H1.out
   go_wp2
   go_ret
   exact ⟨rfl, hb.out⟩
 cases v1
 · clear c2 c3 c4
   go_enter Tryz.func50, Tryz.ntmps50
   go_wp2_with (go_at_call 82; refine (c0.out _ hb.out).mono ?_)
   rintro e w0 ⟨rfl, hq⟩
   have hb := hidIt (below_next hb.out hq)
   have H1 := hidIt (heap_on H1.out hq)
   clear hq c0
   obtain ⟨p0, p1, p2, p3, p4, p5⟩ := cells_6 H1.out
   go_wp2_with (go_at_call 93; refine (c1.out _ hb.out).mono ?_)
   rintro e w1 ⟨rfl, hq⟩
   have hb := hidIt (below_next hb.out hq)
   have H1 := hidIt (heap_on H1.out hq)
   clear hq c1
   obtain ⟨p0, p1, p2, p3, p4, p5⟩ := cells_6 H1.out
   go_wp2
   go_ret
   exact ⟨rfl, hb.out⟩
 cases v2
 · clear c3 c4
   go_enter Tryz.func50, Tryz.ntmps50
   go_wp2_with (go_at_call 82; refine (c0.out _ hb.out).mono ?_)
   rintro e w0 ⟨rfl, hq⟩
   have hb := hidIt (below_next hb.out hq)
   have H1 := hidIt (heap_on H1.out hq)
   clear hq c0
   obtain ⟨p0, p1, p2, p3, p4, p5⟩ := cells_6 H1.out
   go_wp2_with (go_at_call 93; refine (c1.out _ hb.out).mono ?_)
   rintro e w1 ⟨rfl, hq⟩
   have hb := hidIt (below_next hb.out hq)
   have H1 := hidIt (heap_on H1.out hq)
   clear hq c1
   obtain ⟨p0, p1, p2, p3, p4, p5⟩ := cells_6 H1.out
   go_wp2_with (go_at_call 92; refine (c2.out _ hb.out).mono ?_)
   rintro e w2 ⟨rfl, hq⟩
   have hb := hidIt (below_next hb.out hq)
   have H1 := hidIt (heap_on H1.out hq)
   clear hq c2
   obtain ⟨p0, p1, p2, p3, p4, p5⟩ := cells_6 H1.out
   go_wp2
   go_ret
   exact ⟨rfl, hb.out⟩
 cases v3
 · clear c4
   go_enter Tryz.func50, Tryz.ntmps50
   go_wp2_with (go_at_call 82; refine (c0.out _ hb.out).mono ?_)
   rintro e w0 ⟨rfl, hq⟩
   have hb := hidIt (below_next hb.out hq)
   have H1 := hidIt (heap_on H1.out hq)
   clear hq c0
   obtain ⟨p0, p1, p2, p3, p4, p5⟩ := cells_6 H1.out
   go_wp2_with (go_at_call 93; refine (c1.out _ hb.out).mono ?_)
   rintro e w1 ⟨rfl, hq⟩
   have hb := hidIt (below_next hb.out hq)
   have H1 := hidIt (heap_on H1.out hq)
   clear hq c1
   obtain ⟨p0, p1, p2, p3, p4, p5⟩ := cells_6 H1.out
   go_wp2_with (go_at_call 92; refine (c2.out _ hb.out).mono ?_)
   rintro e w2 ⟨rfl, hq⟩
   have hb := hidIt (below_next hb.out hq)
   have H1 := hidIt (heap_on H1.out hq)
   clear hq c2
   obtain ⟨p0, p1, p2, p3, p4, p5⟩ := cells_6 H1.out
   go_wp2_with (go_at_call 92; refine (c3.out _ hb.out).mono ?_)
   rintro e w3 ⟨rfl, hq⟩
   have hb := hidIt (below_next hb.out hq)
   have H1 := hidIt (heap_on H1.out hq)
   clear hq c3
   obtain ⟨p0, p1, p2, p3, p4, p5⟩ := cells_6 H1.out
   go_wp2
   go_ret
   exact ⟨rfl, hb.out⟩
 cases v4
 · go_enter Tryz.func50, Tryz.ntmps50
   go_wp2_with (go_at_call 82; refine (c0.out _ hb.out).mono ?_)
   rintro e w0 ⟨rfl, hq⟩
   have hb := hidIt (below_next hb.out hq)
   have H1 := hidIt (heap_on H1.out hq)
   clear hq c0
   obtain ⟨p0, p1, p2, p3, p4, p5⟩ := cells_6 H1.out
   go_wp2_with (go_at_call 93; refine (c1.out _ hb.out).mono ?_)
   rintro e w1 ⟨rfl, hq⟩
   have hb := hidIt (below_next hb.out hq)
   have H1 := hidIt (heap_on H1.out hq)
   clear hq c1
   obtain ⟨p0, p1, p2, p3, p4, p5⟩ := cells_6 H1.out
   go_wp2_with (go_at_call 92; refine (c2.out _ hb.out).mono ?_)
   rintro e w2 ⟨rfl, hq⟩
   have hb := hidIt (below_next hb.out hq)
   have H1 := hidIt (heap_on H1.out hq)
   clear hq c2
   obtain ⟨p0, p1, p2, p3, p4, p5⟩ := cells_6 H1.out
   go_wp2_with (go_at_call 92; refine (c3.out _ hb.out).mono ?_)
   rintro e w3 ⟨rfl, hq⟩
   have hb := hidIt (below_next hb.out hq)
   have H1 := hidIt (heap_on H1.out hq)
   clear hq c3
   obtain ⟨p0, p1, p2, p3, p4, p5⟩ := cells_6 H1.out
   go_wp2_with (go_at_call 101; refine (c4.out _ hb.out).mono ?_)
   rintro e w4 ⟨rfl, hq⟩
   have hb := hidIt (below_next hb.out hq)
   have H1 := hidIt (heap_on H1.out hq)
   clear hq c4
   obtain ⟨p0, p1, p2, p3, p4, p5⟩ := cells_6 H1.out
   go_wp2
   go_ret
   exact ⟨rfl, hb.out⟩
 go_enter Tryz.func50, Tryz.ntmps50
 go_wp2_with (go_at_call 82; refine (c0.out _ hb.out).mono ?_)
 rintro e w0 ⟨rfl, hq⟩
 have hb := hidIt (below_next hb.out hq)
 have H1 := hidIt (heap_on H1.out hq)
 clear hq c0
 obtain ⟨p0, p1, p2, p3, p4, p5⟩ := cells_6 H1.out
 go_wp2_with (go_at_call 93; refine (c1.out _ hb.out).mono ?_)
 rintro e w1 ⟨rfl, hq⟩
 have hb := hidIt (below_next hb.out hq)
 have H1 := hidIt (heap_on H1.out hq)
 clear hq c1
 obtain ⟨p0, p1, p2, p3, p4, p5⟩ := cells_6 H1.out
 go_wp2_with (go_at_call 92; refine (c2.out _ hb.out).mono ?_)
 rintro e w2 ⟨rfl, hq⟩
 have hb := hidIt (below_next hb.out hq)
 have H1 := hidIt (heap_on H1.out hq)
 clear hq c2
 obtain ⟨p0, p1, p2, p3, p4, p5⟩ := cells_6 H1.out
 go_wp2_with (go_at_call 92; refine (c3.out _ hb.out).mono ?_)
 rintro e w3 ⟨rfl, hq⟩
 have hb := hidIt (below_next hb.out hq)
 have H1 := hidIt (heap_on H1.out hq)
 clear hq c3
 obtain ⟨p0, p1, p2, p3, p4, p5⟩ := cells_6 H1.out
 go_wp2_with (go_at_call 101; refine (c4.out _ hb.out).mono ?_)
 rintro e w4 ⟨rfl, hq⟩
 have hb := hidIt (below_next hb.out hq)
 have H1 := hidIt (heap_on H1.out hq)
 clear hq c4
 obtain ⟨p0, p1, p2, p3, p4, p5⟩ := cells_6 H1.out
 go_wp2
 go_ret
 exact ⟨rfl, hb.out⟩

set_option maxHeartbeats 1000000 in
set_option maxRecDepth 100000 in
theorem right_any (x : ProgX) (w : World) (hx : x.At w) (hf : x.d.Fit) :
 Calls Tryz.prog 20 #[.agg #[.slice x.sa x.structs.length x.sc, .slice x.ea x.enums.length x.ec, .slice x.fa x.funcs.length x.fc]] w fun e w' => e = .returned (.bool (progR x.d)) ∧ Below w.heap.size w w' := by
 have c0 : Hid (∀ W, Below w.heap.size w W → Calls Tryz.prog 45 #[.slice x.sa x.structs.length x.sc, .agg #[.int .i64 0, .int .i64 16], .func (.func 46) #[] #[]] W fun e w' => e = .returned (.bool (everyL 0 16 (fun s => structR s.d) x.structs)) ∧ Below W.heap.size W w') := hidIt fun W hW => every0_struct _ _ _ _ _ _ _ _ (fun args w => by kernel_rfl) (hx.1.on hW) fun W2 p hp hW2 => struct_right p W2 (((hx.1.2 p hp).on hW).on hW2) (hf.1 p.d (List.mem_map_of_mem hp))
 have c1 : Hid (∀ W, Below w.heap.size w W → Calls Tryz.prog 47 #[.slice x.ea x.enums.length x.ec, .agg #[.int .i64 0, .int .i64 16], .func (.func 48) #[] #[]] W fun e w' => e = .returned (.bool (everyL 0 16 (fun s => enumR s.d) x.enums)) ∧ Below W.heap.size W w') := hidIt fun W hW => every0_enum _ _ _ _ _ _ _ _ (fun args w => by kernel_rfl) (hx.2.1.on hW) fun W2 p hp hW2 => enum_right p W2 (((hx.2.1.2 p hp).on hW).on hW2) (hf.2.1 p.d (List.mem_map_of_mem hp))
 have c2 : Hid (∀ W, Below w.heap.size w W → Calls Tryz.prog 49 #[.slice x.fa x.funcs.length x.fc, .agg #[.int .i64 0, .int .i64 16], .func (.func 50) #[] #[]] W fun e w' => e = .returned (.bool (everyL 0 16 (fun s => funcR s.d) x.funcs)) ∧ Below W.heap.size W w') := hidIt fun W hW => every0_func _ _ _ _ _ _ _ _ (fun args w => by kernel_rfl) (hx.2.2.on hW) fun W2 p hp hW2 => func_right p W2 (((hx.2.2.2 p hp).on hW).on hW2) (hf.2.2 p.d (List.mem_map_of_mem hp))
 obtain ⟨v0, v1, v2, e0, e1, e2, eR⟩ : ∃ v0 v1 v2 : Bool, (everyL 0 16 (fun s => structR s.d) x.structs) = v0 ∧ (everyL 0 16 (fun s => enumR s.d) x.enums) = v1 ∧ (everyL 0 16 (fun s => funcR s.d) x.funcs) = v2 ∧ (progR x.d) = (v0 && (v1 && (v2))) := ⟨_, _, _, rfl, rfl, rfl, by simp only [progR, ProgX.d, everyL_map]⟩
 rw [eR]
 clear eR hx hf
 rw [e0] at c0
 clear e0
 rw [e1] at c1
 clear e1
 rw [e2] at c2
 clear e2
 have hb := hidIt (below_next (below_new w (.cells #[.slice x.sa x.structs.length x.sc, .slice x.ea x.enums.length x.ec, .slice x.fa x.funcs.length x.fc] 36)) (below_new _ (.cells #[.int .i64 0, .int .i64 16] 87)))
 obtain ⟨hh1, hh2⟩ := two_at (w := w) (cs := #[.slice x.sa x.structs.length x.sc, .slice x.ea x.enums.length x.ec, .slice x.fa x.funcs.length x.fc]) (ds := #[.int .i64 0, .int .i64 16]) (t := 36) (u := 87) rfl rfl (Below.refl _ _)
 have H1 := hidIt hh1
 have H2 := hidIt hh2
 clear hh1 hh2
 cases v0
 · clear c1 c2
   go_enter Tryz.func20, Tryz.ntmps20
   go_wp2_with (go_at_call 45; refine (c0.out _ hb.out).mono ?_)
   rintro e w0 ⟨rfl, hq⟩
   have hb := hidIt (below_next hb.out hq)
   have H1 := hidIt (heap_on H1.out hq)
   have H2 := hidIt (heap_on H2.out hq)
   clear hq c0
   obtain ⟨p0, p1, p2⟩ := cells_3 H1.out
   obtain ⟨q0, q1⟩ := cells_2 H2.out
   go_wp2
   go_ret
   exact ⟨rfl, hb.out⟩
 cases v1
 · clear c2
   go_enter Tryz.func20, Tryz.ntmps20
   go_wp2_with (go_at_call 45; refine (c0.out _ hb.out).mono ?_)
   rintro e w0 ⟨rfl, hq⟩
   have hb := hidIt (below_next hb.out hq)
   have H1 := hidIt (heap_on H1.out hq)
   have H2 := hidIt (heap_on H2.out hq)
   clear hq c0
   obtain ⟨p0, p1, p2⟩ := cells_3 H1.out
   obtain ⟨q0, q1⟩ := cells_2 H2.out
   go_wp2_with (go_at_call 47; refine (c1.out _ hb.out).mono ?_)
   rintro e w1 ⟨rfl, hq⟩
   have hb := hidIt (below_next hb.out hq)
   have H1 := hidIt (heap_on H1.out hq)
   have H2 := hidIt (heap_on H2.out hq)
   clear hq c1
   obtain ⟨p0, p1, p2⟩ := cells_3 H1.out
   obtain ⟨q0, q1⟩ := cells_2 H2.out
   go_wp2
   go_ret
   exact ⟨rfl, hb.out⟩
 cases v2
 · go_enter Tryz.func20, Tryz.ntmps20
   go_wp2_with (go_at_call 45; refine (c0.out _ hb.out).mono ?_)
   rintro e w0 ⟨rfl, hq⟩
   have hb := hidIt (below_next hb.out hq)
   have H1 := hidIt (heap_on H1.out hq)
   have H2 := hidIt (heap_on H2.out hq)
   clear hq c0
   obtain ⟨p0, p1, p2⟩ := cells_3 H1.out
   obtain ⟨q0, q1⟩ := cells_2 H2.out
   go_wp2_with (go_at_call 47; refine (c1.out _ hb.out).mono ?_)
   rintro e w1 ⟨rfl, hq⟩
   have hb := hidIt (below_next hb.out hq)
   have H1 := hidIt (heap_on H1.out hq)
   have H2 := hidIt (heap_on H2.out hq)
   clear hq c1
   obtain ⟨p0, p1, p2⟩ := cells_3 H1.out
   obtain ⟨q0, q1⟩ := cells_2 H2.out
   go_wp2_with (go_at_call 49; refine (c2.out _ hb.out).mono ?_)
   rintro e w2 ⟨rfl, hq⟩
   have hb := hidIt (below_next hb.out hq)
   have H1 := hidIt (heap_on H1.out hq)
   have H2 := hidIt (heap_on H2.out hq)
   clear hq c2
   obtain ⟨p0, p1, p2⟩ := cells_3 H1.out
   obtain ⟨q0, q1⟩ := cells_2 H2.out
   go_wp2
   go_ret
   exact ⟨rfl, hb.out⟩
 go_enter Tryz.func20, Tryz.ntmps20
 go_wp2_with (go_at_call 45; refine (c0.out _ hb.out).mono ?_)
 rintro e w0 ⟨rfl, hq⟩
 have hb := hidIt (below_next hb.out hq)
 have H1 := hidIt (heap_on H1.out hq)
 have H2 := hidIt (heap_on H2.out hq)
 clear hq c0
 obtain ⟨p0, p1, p2⟩ := cells_3 H1.out
 obtain ⟨q0, q1⟩ := cells_2 H2.out
 go_wp2_with (go_at_call 47; refine (c1.out _ hb.out).mono ?_)
 rintro e w1 ⟨rfl, hq⟩
 have hb := hidIt (below_next hb.out hq)
 have H1 := hidIt (heap_on H1.out hq)
 have H2 := hidIt (heap_on H2.out hq)
 clear hq c1
 obtain ⟨p0, p1, p2⟩ := cells_3 H1.out
 obtain ⟨q0, q1⟩ := cells_2 H2.out
 go_wp2_with (go_at_call 49; refine (c2.out _ hb.out).mono ?_)
 rintro e w2 ⟨rfl, hq⟩
 have hb := hidIt (below_next hb.out hq)
 have H1 := hidIt (heap_on H1.out hq)
 have H2 := hidIt (heap_on H2.out hq)
 clear hq c2
 obtain ⟨p0, p1, p2⟩ := cells_3 H1.out
 obtain ⟨q0, q1⟩ := cells_2 H2.out
 go_wp2
 go_ret
 exact ⟨rfl, hb.out⟩

end Go.Proofs.YtlppbgmcoknliaaGreatDoor
