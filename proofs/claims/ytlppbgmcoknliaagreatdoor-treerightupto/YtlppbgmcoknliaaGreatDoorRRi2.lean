/-
  The document's own Func: is a function one?
  The document's own Func answers what the program's does.
  The document's own Right: is a program shaped?
  The document's own Right answers what the program's does.
-/
import Derived.Test.YtlppbgmcoknliaaGreatDoorRSm
import Derived.Test.YtlppbgmcoknliaaGreatDoorRTm
import Derived.Test.YtlppbgmcoknliaaGreatDoorRRt6
namespace Go.Proofs.YtlppbgmcoknliaaGreatDoor
set_option linter.unusedVariables false
open Go.RowKit

/-- A function in its box. -/
structure FM (w : World) (q0 q1 q2 q3 q4 q5 : Value) (W : World) : Prop where
 bel : Below w.heap.size w W
 box : W.heap[w.heap.size]? = some (.cells #[q0, q1, q2, q3, q4, q5] 45 (0, 0))
theorem FM.on {w W W' : World} {q0 q1 q2 q3 q4 q5 : Value} (h : FM w q0 q1 q2 q3 q4 q5 W) (hb : Below W.heap.size W W') : FM w q0 q1 q2 q3 q4 q5 W' := ⟨below_next h.bel hb, heap_on h.box hb⟩
theorem FM.cells {w W : World} {q0 q1 q2 q3 q4 q5 : Value} (h : FM w q0 q1 q2 q3 q4 q5 W) : W.cell? ⟨w.heap.size, 1, none⟩ = some q1 ∧ W.cell? ⟨w.heap.size, 2, none⟩ = some q2 ∧ W.cell? ⟨w.heap.size, 3, none⟩ = some q3 ∧ W.cell? ⟨w.heap.size, 4, none⟩ = some q4 ∧ W.cell? ⟨w.heap.size, 5, none⟩ = some q5 :=
 ⟨cell_at h.box 1, cell_at h.box 2, cell_at h.box 3, cell_at h.box 4, cell_at h.box 5⟩
theorem blk_cells {w W : World} {q0 q1 q2 q3 q4 q5 q6 q7 q8 q9 q10 : Value} (h : Kept w [(w.heap.size, Obj.cells #[q0, q1, q2, q3, q4, q5, q6, q7, q8, q9, q10] 64 (0, 0))] W) : W.cell? ⟨w.heap.size, 1, none⟩ = some q1 ∧ W.cell? ⟨w.heap.size, 2, none⟩ = some q2 ∧ W.cell? ⟨w.heap.size, 3, none⟩ = some q3 ∧ W.cell? ⟨w.heap.size, 4, none⟩ = some q4 ∧ W.cell? ⟨w.heap.size, 5, none⟩ = some q5 ∧ W.cell? ⟨w.heap.size, 6, none⟩ = some q6 ∧ W.cell? ⟨w.heap.size, 7, none⟩ = some q7 ∧ W.cell? ⟨w.heap.size, 8, none⟩ = some q8 ∧ W.cell? ⟨w.heap.size, 9, none⟩ = some q9 ∧ W.cell? ⟨w.heap.size, 10, none⟩ = some q10 :=
 ⟨cell_at (h.get 0 rfl) 1, cell_at (h.get 0 rfl) 2, cell_at (h.get 0 rfl) 3, cell_at (h.get 0 rfl) 4, cell_at (h.get 0 rfl) 5, cell_at (h.get 0 rfl) 6, cell_at (h.get 0 rfl) 7, cell_at (h.get 0 rfl) 8, cell_at (h.get 0 rfl) 9, cell_at (h.get 0 rfl) 10⟩

set_option maxHeartbeats 8000000 in
set_option maxRecDepth 100000 in
theorem docfunc_core (zat : Int) (znm : ByteArray) (zpa : Option Addr) (np zpc : Nat) (zla : Option Addr) (nl zlc : Nat) (zres : ByteArray) (zba : Option Addr) (nb zbc : Nat) (w : World) (bl : List BlockX) (zk : Int) (nB pB vB uB : Bool)
 (hpb : np ≤ 1048576) (hlb : nl ≤ 1048576) (hbb : nb ≤ 1048576)
 (HB : Hid (Bls w zba bl)) (LB : Hid (bl.length = nb)) (FB : Hid (∀ b ∈ bl, b.d.Fit))
 (C103 : Hid (∀ W, Below w.heap.size w W → Calls Tryz.prog 103 #[.string zres] W fun e w' => e = .returned (.tuple #[.int .i64 zk, .bool pB]) ∧ Below W.heap.size W w'))
 (C44 : Hid (∀ W, Below w.heap.size w W → Calls Tryz.prog 44 #[.string znm] W fun e w' => e = .returned (.bool nB) ∧ Below W.heap.size W w'))
 (CV : Hid (∀ W, Below w.heap.size w W → Calls Tryz.prog 51 #[.slice zpa np zpc, .bool false, .bool false] W fun e w' => e = .returned (.bool vB) ∧ Below W.heap.size W w'))
 (CU : Hid (∀ W, Below w.heap.size w W → Calls Tryz.prog 51 #[.slice zla nl zlc, .bool false, .bool false] W fun e w' => e = .returned (.bool uB) ∧ Below W.heap.size W w')) :
 Calls Tryz.prog 52 #[.agg #[.int .i64 zat, .string znm, .slice zpa np zpc, .slice zla nl zlc, .string zres, .slice zba nb zbc]] w fun e w' => e = .returned (.bool (nB && (pB && (decide (np ≤ 16) && (decide (np + nl ≤ 24) && (decide (1 ≤ nb) && (decide (nb ≤ 64) && (vB && (uB && bl.all fun b => blockR b.d))))))))) ∧ Below w.heap.size w w' := by
 obtain ⟨R, hR⟩ : ∃ R, (nB && (pB && (decide (np ≤ 16) && (decide (np + nl ≤ 24) && (decide (1 ≤ nb) && (decide (nb ≤ 64) && (vB && (uB && bl.all fun b => blockR b.d)))))))) = R := ⟨_, rfl⟩
 rw [hR]
 have HR := hidIt hR
 clear hR
 have M : Hid (FM w (.int .i64 zat) (.string znm) (.slice zpa np zpc) (.slice zla nl zlc) (.string zres) (.slice zba nb zbc) (w.alloc (.cells #[.int .i64 zat, .string znm, .slice zpa np zpc, .slice zla nl zlc, .string zres, .slice zba nb zbc] 45))) := hidIt ⟨below_new w _, heap_alloc_new w _⟩
 go_enter Tryz.func52, Tryz.ntmps52
 go_upto_region 1 with fail
 generalize w.alloc (.cells #[.int .i64 zat, .string znm, .slice zpa np zpc, .slice zla nl zlc, .string zres, .slice zba nb zbc] 45) = W0 at M ⊢
 obtain ⟨c1, c2, c3, c4, c5⟩ := M.out.cells
 go_upto_region 2 with (go_at_call 103; refine (C103.out _ M.out.bel).mono ?_; rintro e y ⟨rfl, hq⟩; have M := hidIt (M.out.on hq); clear hq c1 c2 c3 c4 c5; obtain ⟨c1, c2, c3, c4, c5⟩ := M.out.cells)
 clear C103
 cases nB with
 | false =>
  as_aux_lemma =>
  obtain rfl : false = R := by rw [← HR.out]; rfl
  go_wp2_with (go_at_call 44; refine (C44.out _ M.out.bel).mono ?_; rintro e y ⟨rfl, hq⟩; have M := hidIt (M.out.on hq); clear hq c1 c2 c3 c4 c5; obtain ⟨c1, c2, c3, c4, c5⟩ := M.out.cells)
  go_ret
  exact ⟨rfl, M.out.bel⟩
 | true =>
  cases pB with
  | false =>
   as_aux_lemma =>
   obtain rfl : false = R := by rw [← HR.out]; rfl
   go_wp2_with (go_at_call 44; refine (C44.out _ M.out.bel).mono ?_; rintro e y ⟨rfl, hq⟩; have M := hidIt (M.out.on hq); clear hq c1 c2 c3 c4 c5; obtain ⟨c1, c2, c3, c4, c5⟩ := M.out.cells)
   go_ret
   exact ⟨rfl, M.out.bel⟩
  | true =>
   by_cases d1 : np ≤ 16
   rotate_left
   · rw [decide_eq_false d1] at HR
     as_aux_lemma =>
     obtain rfl : false = R := by rw [← HR.out]; rfl
     go_wp2_with (go_at_call 44; refine (C44.out _ M.out.bel).mono ?_; rintro e y ⟨rfl, hq⟩; have M := hidIt (M.out.on hq); clear hq c1 c2 c3 c4 c5; obtain ⟨c1, c2, c3, c4, c5⟩ := M.out.cells)
     go_ret
     exact ⟨rfl, M.out.bel⟩
   rw [decide_eq_true d1] at HR
   by_cases d2 : np + nl ≤ 24
   rotate_left
   · rw [decide_eq_false d2] at HR
     as_aux_lemma =>
     obtain rfl : false = R := by rw [← HR.out]; rfl
     go_wp2_with (go_at_call 44; refine (C44.out _ M.out.bel).mono ?_; rintro e y ⟨rfl, hq⟩; have M := hidIt (M.out.on hq); clear hq c1 c2 c3 c4 c5; obtain ⟨c1, c2, c3, c4, c5⟩ := M.out.cells)
     go_ret
     exact ⟨rfl, M.out.bel⟩
   rw [decide_eq_true d2] at HR
   by_cases d3 : 1 ≤ nb
   rotate_left
   · rw [decide_eq_false d3] at HR
     as_aux_lemma =>
     obtain rfl : false = R := by rw [← HR.out]; rfl
     go_wp2_with (go_at_call 44; refine (C44.out _ M.out.bel).mono ?_; rintro e y ⟨rfl, hq⟩; have M := hidIt (M.out.on hq); clear hq c1 c2 c3 c4 c5; obtain ⟨c1, c2, c3, c4, c5⟩ := M.out.cells)
     go_ret
     exact ⟨rfl, M.out.bel⟩
   rw [decide_eq_true d3] at HR
   by_cases d4 : nb ≤ 64
   rotate_left
   · rw [decide_eq_false d4] at HR
     as_aux_lemma =>
     obtain rfl : false = R := by rw [← HR.out]; rfl
     go_wp2_with (go_at_call 44; refine (C44.out _ M.out.bel).mono ?_; rintro e y ⟨rfl, hq⟩; have M := hidIt (M.out.on hq); clear hq c1 c2 c3 c4 c5; obtain ⟨c1, c2, c3, c4, c5⟩ := M.out.cells)
     go_ret
     exact ⟨rfl, M.out.bel⟩
   rw [decide_eq_true d4] at HR
   go_upto_region 4 with (go_at_call 44; refine (C44.out _ M.out.bel).mono ?_; rintro e y ⟨rfl, hq⟩; have M := hidIt (M.out.on hq); clear hq c1 c2 c3 c4 c5; obtain ⟨c1, c2, c3, c4, c5⟩ := M.out.cells)
   clear C44 d1 d2 d3 hpb hlb
   have T1 : Hid True := hidIt trivial
   cases vB with
   | false =>
    as_aux_lemma =>
    obtain rfl : false = R := by rw [← HR.out]; rfl
    go_wp2_with (first | (go_at_call 51; have tk := T1; clear tk T1; refine (CV.out _ M.out.bel).mono ?_; rintro e y ⟨rfl, hq⟩; have M := hidIt (M.out.on hq); clear hq c1 c2 c3 c4 c5; obtain ⟨c1, c2, c3, c4, c5⟩ := M.out.cells) | (go_at_call 51; refine (CU.out _ M.out.bel).mono ?_; rintro e y ⟨rfl, hq⟩; have M := hidIt (M.out.on hq); clear hq c1 c2 c3 c4 c5; obtain ⟨c1, c2, c3, c4, c5⟩ := M.out.cells))
    go_ret
    exact ⟨rfl, M.out.bel⟩
   | true =>
    cases uB with
    | false =>
     as_aux_lemma =>
     obtain rfl : false = R := by rw [← HR.out]; rfl
     go_wp2_with (first | (go_at_call 51; have tk := T1; clear tk T1; refine (CV.out _ M.out.bel).mono ?_; rintro e y ⟨rfl, hq⟩; have M := hidIt (M.out.on hq); clear hq c1 c2 c3 c4 c5; obtain ⟨c1, c2, c3, c4, c5⟩ := M.out.cells) | (go_at_call 51; refine (CU.out _ M.out.bel).mono ?_; rintro e y ⟨rfl, hq⟩; have M := hidIt (M.out.on hq); clear hq c1 c2 c3 c4 c5; obtain ⟨c1, c2, c3, c4, c5⟩ := M.out.cells))
     go_ret
     exact ⟨rfl, M.out.bel⟩
    | true =>
     as_aux_lemma =>
     have HR : Hid ((bl.all fun b => blockR b.d) = R) := HR
     go_wp2_with (first | (go_at_call 51; have tk := T1; clear tk T1; refine (CV.out _ M.out.bel).mono ?_; rintro e y ⟨rfl, hq⟩; have M := hidIt (M.out.on hq); clear hq c1 c2 c3 c4 c5; obtain ⟨c1, c2, c3, c4, c5⟩ := M.out.cells) | (go_at_call 51; refine (CU.out _ M.out.bel).mono ?_; rintro e y ⟨rfl, hq⟩; have M := hidIt (M.out.on hq); clear hq c1 c2 c3 c4 c5; obtain ⟨c1, c2, c3, c4, c5⟩ := M.out.cells))
     clear CV CU
     go_loopg [5, 6, 7] nb (fun g s5 _ _ wr => ∃ k : Nat, k ≤ nb ∧ nb - k ≤ g ∧ s5 = .int .i64 k ∧ Hid (FM w (.int .i64 zat) (.string znm) (.slice zpa np zpc) (.slice zla nl zlc) (.string zres) (.slice zba nb zbc) wr) ∧ Hid (∀ (j : Nat) (x : BlockX), j < k → bl[j]? = some x → blockR x.d = true))
     case atStart => exact ⟨0, Nat.zero_le _, by omega, rfl, M, hidIt fun j x hj => absurd hj (Nat.not_lt_zero _)⟩
     case round =>
      clear M c1 c2 c3 c4 c5
      obtain ⟨k, hk, hg, rfl, M, A⟩ := hrel
      by_cases hlt : k < nb
      · obtain ⟨x, hx⟩ : ∃ x, bl[k]? = some x := ⟨_, List.getElem?_eq_getElem (by rw [LB.out]; exact hlt)⟩
        obtain ⟨b1, o1, rfl, g1⟩ := Sl.cell HB.out.1 (j := k) (r := x.row) (by rw [List.getElem?_map, hx]; rfl)
        obtain ⟨c1, c2, c3, c4, c5⟩ := M.out.cells
        have hm := List.mem_of_getElem? hx
        have cn : Hid (∀ W, Below w.heap.size w W → Calls Tryz.prog 44 #[.string x.name] W fun e w' => e = .returned (.bool (nameS x.name)) ∧ Below W.heap.size W w') := hidIt fun W hW => rname_any x.name (fit_le (FB.out x hm).1) W
        have ct : Hid (∀ W, Below w.heap.size w W → Calls Tryz.prog 105 #[.agg #[.int .i64 x.term.at_, .int .i64 x.term.kind, .string x.term.to.loc, .slice x.term.to.sa x.term.to.steps.length x.term.to.sc, .string x.term.name, .slice x.term.aa x.term.args.length x.term.ac, .slice x.term.ba x.term.blocks.length x.term.bc, .slice x.term.ra x.term.arms.length x.term.rc]] W fun e w' => e = .returned (.bool (termR x.term.d)) ∧ Below W.heap.size W w') := hidIt fun W hW => docterm_any x.term W ((HB.out.2 x hm).2.on hW) (FB.out x hm).2.2
        have HS : Hid (Sts w x.sa x.stmts) := hidIt (HB.out.2 x hm).1
        have FS : Hid (∀ s ∈ x.stmts, s.d.Fit) := hidIt fun s hs => (FB.out x hm).2.1 s.d (List.mem_map_of_mem hs)
        have hsb : x.stmts.length ≤ 1048576 := by have := HS.out.1.big; rwa [List.length_map] at this
        have Hx := hidIt hx
        have p0 := g1 wr M.out.bel 0 _ rfl
        have p1 := g1 wr M.out.bel 1 _ rfl
        have p2 := g1 wr M.out.bel 2 _ rfl
        have p3 := g1 wr M.out.bel 3 _ rfl
        have p4 := g1 wr M.out.bel 4 _ rfl
        have p5 := g1 wr M.out.bel 5 _ rfl
        have p6 := g1 wr M.out.bel 6 _ rfl
        have p7 := g1 wr M.out.bel 7 _ rfl
        have p8 := g1 wr M.out.bel 8 _ rfl
        have p9 := g1 wr M.out.bel 9 _ rfl
        have p10 := g1 wr M.out.bel 10 _ rfl
        rw [Nat.add_zero] at p0
        clear g1 hx hm
        go_upto_region 10 with fail
        have K1 : Hid (Kept wr [(wr.heap.size, Obj.cells #[.int .i64 x.at_, .string x.name, .slice x.sa x.stmts.length x.sc, .int .i64 x.term.at_, .int .i64 x.term.kind, .string x.term.to.loc, .slice x.term.to.sa x.term.to.steps.length x.term.to.sc, .string x.term.name, .slice x.term.aa x.term.args.length x.term.ac, .slice x.term.ba x.term.blocks.length x.term.bc, .slice x.term.ra x.term.arms.length x.term.rc] 64 (0, 0))] (wr.alloc (.cells #[.int .i64 x.at_, .string x.name, .slice x.sa x.stmts.length x.sc, .int .i64 x.term.at_, .int .i64 x.term.kind, .string x.term.to.loc, .slice x.term.to.sa x.term.to.steps.length x.term.to.sc, .string x.term.name, .slice x.term.aa x.term.args.length x.term.ac, .slice x.term.ba x.term.blocks.length x.term.bc, .slice x.term.ra x.term.arms.length x.term.rc] 64))) := hidIt (Kept.new (L := []) ⟨Below.refl _ wr, fun x hx => by cases hx⟩ _ 64)
        have M9 := hidIt (M.out.on (below_new wr (.cells #[.int .i64 x.at_, .string x.name, .slice x.sa x.stmts.length x.sc, .int .i64 x.term.at_, .int .i64 x.term.kind, .string x.term.to.loc, .slice x.term.to.sa x.term.to.steps.length x.term.to.sc, .string x.term.name, .slice x.term.aa x.term.args.length x.term.ac, .slice x.term.ba x.term.blocks.length x.term.bc, .slice x.term.ra x.term.arms.length x.term.rc] 64)))
        clear M
        have M := M9
        clear M9
        clear p0 p1 p2 p3 p4 p5 p6 p7 p8 p9 p10 c1 c2 c3 c4 c5
        generalize wr.alloc (.cells #[.int .i64 x.at_, .string x.name, .slice x.sa x.stmts.length x.sc, .int .i64 x.term.at_, .int .i64 x.term.kind, .string x.term.to.loc, .slice x.term.to.sa x.term.to.steps.length x.term.to.sc, .string x.term.name, .slice x.term.aa x.term.args.length x.term.ac, .slice x.term.ba x.term.blocks.length x.term.bc, .slice x.term.ra x.term.arms.length x.term.rc] 64) = W2 at K1 M ⊢
        obtain ⟨v1, v2, v3, v4, v5, v6, v7, v8, v9, v10⟩ := blk_cells K1.out
        have eB : blockR x.d = (nameS x.name && ((decide (x.stmts.length ≤ 64) && x.stmts.all fun s => stmtR s.d) && termR x.term.d)) := by
         unfold blockR BlockX.d
         simp only
         rw [everyL_map]
         unfold everyL
         rw [decide_eq_true (show (0 : Int) ≤ x.stmts.length by omega), Bool.true_and, show decide ((x.stmts.length : Int) ≤ 64) = decide (x.stmts.length ≤ 64) from decide_eq_decide.2 (by omega)]
        have EB := hidIt eB
        clear eB
        cases hv : nameS x.name with
        | false =>
         rw [hv] at cn
         as_aux_lemma =>
         have hf : blockR x.d = false := by rw [EB.out, hv]; rfl
         obtain rfl : false = R := by rw [← HR.out, all_hit (r := fun b : BlockX => blockR b.d) Hx.out hf]
         go_wp2_with (first | (go_at_call 44; refine (cn.out _ M.out.bel).mono ?_; rintro e y ⟨rfl, hq⟩; have K1 := hidIt (K1.out.on hq); have M := hidIt (M.out.on hq); clear hq v1 v2 v3 v4 v5 v6 v7 v8 v9 v10; obtain ⟨v1, v2, v3, v4, v5, v6, v7, v8, v9, v10⟩ := blk_cells K1.out) | (go_at_call 105; refine (ct.out _ M.out.bel).mono ?_; rintro e y ⟨rfl, hq⟩; have K1 := hidIt (K1.out.on hq); have M := hidIt (M.out.on hq); clear hq v1 v2 v3 v4 v5 v6 v7 v8 v9 v10; obtain ⟨v1, v2, v3, v4, v5, v6, v7, v8, v9, v10⟩ := blk_cells K1.out))
         go_ret
         exact ⟨rfl, M.out.bel⟩
        | true =>
         rw [hv] at cn
         by_cases d5 : x.stmts.length ≤ 64
         rotate_left
         · as_aux_lemma =>
           have hf : blockR x.d = false := by rw [EB.out, decide_eq_false d5, Bool.false_and, Bool.false_and, Bool.and_false]
           obtain rfl : false = R := by rw [← HR.out, all_hit (r := fun b : BlockX => blockR b.d) Hx.out hf]
           go_wp2_with (first | (go_at_call 44; refine (cn.out _ M.out.bel).mono ?_; rintro e y ⟨rfl, hq⟩; have K1 := hidIt (K1.out.on hq); have M := hidIt (M.out.on hq); clear hq v1 v2 v3 v4 v5 v6 v7 v8 v9 v10; obtain ⟨v1, v2, v3, v4, v5, v6, v7, v8, v9, v10⟩ := blk_cells K1.out) | (go_at_call 105; refine (ct.out _ M.out.bel).mono ?_; rintro e y ⟨rfl, hq⟩; have K1 := hidIt (K1.out.on hq); have M := hidIt (M.out.on hq); clear hq v1 v2 v3 v4 v5 v6 v7 v8 v9 v10; obtain ⟨v1, v2, v3, v4, v5, v6, v7, v8, v9, v10⟩ := blk_cells K1.out))
           go_ret
           exact ⟨rfl, M.out.bel⟩
         cases ht : termR x.term.d with
         | false =>
          rw [ht] at ct
          as_aux_lemma =>
          have hf : blockR x.d = false := by rw [EB.out, ht, Bool.and_false, Bool.and_false]
          obtain rfl : false = R := by rw [← HR.out, all_hit (r := fun b : BlockX => blockR b.d) Hx.out hf]
          go_wp2_with (first | (go_at_call 44; refine (cn.out _ M.out.bel).mono ?_; rintro e y ⟨rfl, hq⟩; have K1 := hidIt (K1.out.on hq); have M := hidIt (M.out.on hq); clear hq v1 v2 v3 v4 v5 v6 v7 v8 v9 v10; obtain ⟨v1, v2, v3, v4, v5, v6, v7, v8, v9, v10⟩ := blk_cells K1.out) | (go_at_call 105; refine (ct.out _ M.out.bel).mono ?_; rintro e y ⟨rfl, hq⟩; have K1 := hidIt (K1.out.on hq); have M := hidIt (M.out.on hq); clear hq v1 v2 v3 v4 v5 v6 v7 v8 v9 v10; obtain ⟨v1, v2, v3, v4, v5, v6, v7, v8, v9, v10⟩ := blk_cells K1.out))
          go_ret
          exact ⟨rfl, M.out.bel⟩
         | true =>
          rw [ht] at ct
          as_aux_lemma =>
          have ES : Hid (blockR x.d = x.stmts.all fun s => stmtR s.d) := hidIt (by rw [EB.out, hv, ht, decide_eq_true d5, Bool.true_and, Bool.true_and, Bool.and_true])
          clear hv ht EB
          obtain ⟨ns, hns⟩ : ∃ ns, x.stmts.length = ns := ⟨_, rfl⟩
          rw [hns] at d5 hsb K1 v2
          go_wp2_with (first | (go_at_call 44; refine (cn.out _ M.out.bel).mono ?_; rintro e y ⟨rfl, hq⟩; have K1 := hidIt (K1.out.on hq); have M := hidIt (M.out.on hq); clear hq v1 v2 v3 v4 v5 v6 v7 v8 v9 v10; obtain ⟨v1, v2, v3, v4, v5, v6, v7, v8, v9, v10⟩ := blk_cells K1.out) | (go_at_call 105; refine (ct.out _ M.out.bel).mono ?_; rintro e y ⟨rfl, hq⟩; have K1 := hidIt (K1.out.on hq); have M := hidIt (M.out.on hq); clear hq v1 v2 v3 v4 v5 v6 v7 v8 v9 v10; obtain ⟨v1, v2, v3, v4, v5, v6, v7, v8, v9, v10⟩ := blk_cells K1.out))
          clear cn ct
          have HN := hidIt hns
          clear hns
          obtain ⟨wo, rfl⟩ : ∃ wo, wo = wr := ⟨_, rfl⟩
          go_loopg [7] ns (fun g s7 wr => ∃ i : Nat, i ≤ ns ∧ ns - i ≤ g ∧ s7 = .int .i64 i ∧ Hid (FM w (.int .i64 zat) (.string znm) (.slice zpa np zpc) (.slice zla nl zlc) (.string zres) (.slice (some ⟨b1, o1, none⟩) nb zbc) wr) ∧ Hid (Kept wo [(wo.heap.size, Obj.cells #[.int .i64 x.at_, .string x.name, .slice x.sa ns x.sc, .int .i64 x.term.at_, .int .i64 x.term.kind, .string x.term.to.loc, .slice x.term.to.sa x.term.to.steps.length x.term.to.sc, .string x.term.name, .slice x.term.aa x.term.args.length x.term.ac, .slice x.term.ba x.term.blocks.length x.term.bc, .slice x.term.ra x.term.arms.length x.term.rc] 64 (0, 0))] wr) ∧ Hid (∀ (j : Nat) (s : StmtX), j < i → x.stmts[j]? = some s → stmtR s.d = true))
          case atStart => exact ⟨0, Nat.zero_le _, by omega, rfl, M, K1, hidIt fun j x hj => absurd hj (Nat.not_lt_zero _)⟩
          case round =>
           clear M K1 v1 v2 v3 v4 v5 v6 v7 v8 v9 v10
           obtain ⟨i, hi, hgi, rfl, M, K1, AS⟩ := hrel
           by_cases hli : i < ns
           · obtain ⟨s, hs⟩ : ∃ s, x.stmts[i]? = some s := ⟨_, List.getElem?_eq_getElem (by rw [HN.out]; exact hli)⟩
             obtain ⟨b2, o2, e2, g2⟩ := Sl.cell HS.out.1 (j := i) (r := s.row) (by rw [List.getElem?_map, hs]; rfl)
             rw [e2] at K1
             have E2 := hidIt e2
             clear e2
             obtain ⟨v1, v2, v3, v4, v5, v6, v7, v8, v9, v10⟩ := blk_cells K1.out
             have hm := List.mem_of_getElem? hs
             have cs : Hid (∀ W, Below w.heap.size w W → Calls Tryz.prog 106 #[.agg #[.int .i64 s.at_, .int .i64 s.kind, .string s.to.loc, .slice s.to.sa s.to.steps.length s.to.sc, .int .i64 s.n, .string s.name, .string s.variant, .slice s.aa s.args.length s.ac]] W fun e w' => e = .returned (.bool (stmtR s.d)) ∧ Below W.heap.size W w') := hidIt fun W hW => docstmt_any s W ((HS.out.2 s hm).on hW) (FS.out s hm)
             have Hs := hidIt hs
             have p0 := g2 wr M.out.bel 0 _ rfl
             have p1 := g2 wr M.out.bel 1 _ rfl
             have p2 := g2 wr M.out.bel 2 _ rfl
             have p3 := g2 wr M.out.bel 3 _ rfl
             have p4 := g2 wr M.out.bel 4 _ rfl
             have p5 := g2 wr M.out.bel 5 _ rfl
             have p6 := g2 wr M.out.bel 6 _ rfl
             have p7 := g2 wr M.out.bel 7 _ rfl
             rw [Nat.add_zero] at p0
             clear g2 hs hm
             cases hv : stmtR s.d with
             | false =>
              as_aux_lemma =>
              have hf : blockR x.d = false := by rw [ES.out, all_hit (r := fun s : StmtX => stmtR s.d) Hs.out hv]
              obtain rfl : false = R := by rw [← HR.out, all_hit (r := fun b : BlockX => blockR b.d) Hx.out hf]
              rw [hv] at cs
              go_wp2_with (go_at_call 106; refine (cs.out _ M.out.bel).mono ?_; rintro e y ⟨rfl, hq⟩)
              go_ret
              exact ⟨rfl, below_next M.out.bel hq⟩
             | true =>
              as_aux_lemma =>
              rw [hv] at cs
              have HV := hidIt hv
              clear hv
              rw [← E2.out] at K1
              go_wp2_with (go_at_call 106; refine (cs.out _ M.out.bel).mono ?_; rintro e y ⟨rfl, hq⟩)
              go_roundg (ns - (i + 1))
              case measure => omega
              case rel =>
               refine ⟨i + 1, by omega, by omega, by go_num, hidIt (M.out.on hq), hidIt (K1.out.on hq), hidIt fun j u hj hu => ?_⟩
               by_cases e : j = i
               · subst e
                 obtain rfl : s = u := Option.some.inj (Hs.out.symm.trans hu)
                 exact HV.out
               · exact AS.out j u (by omega) hu
           · as_aux_lemma =>
             have : i = ns := by omega
             subst this
             have HY : Hid (blockR x.d = true) := hidIt (by rw [ES.out]; exact all_none (r := fun s : StmtX => stmtR s.d) fun j s hj => AS.out j s (by have := (List.getElem?_eq_some_iff.1 hj).1; rw [HN.out] at this; exact this) hj)
             obtain ⟨v1, v2, v3, v4, v5, v6, v7, v8, v9, v10⟩ := blk_cells K1.out
             go_wp2
             go_roundg (nb - (k + 1))
             case measure => omega
             case rel =>
              refine ⟨k + 1, by omega, by omega, by go_num, M, hidIt fun j u hj hu => ?_⟩
              by_cases e : j = k
              · subst e
                obtain rfl : x = u := Option.some.inj (Hx.out.symm.trans hu)
                exact HY.out
              · exact A.out j u (by omega) hu
      · as_aux_lemma =>
        have : k = nb := by omega
        subst this
        obtain rfl : true = R := by rw [← HR.out]; exact (all_none (r := fun b : BlockX => blockR b.d) (xs := bl) fun j x hj => A.out j x (by have := (List.getElem?_eq_some_iff.1 hj).1; rw [LB.out] at this; exact this) hj).symm
        obtain ⟨c1, c2, c3, c4, c5⟩ := M.out.cells
        go_wp2
        go_ret
        exact ⟨rfl, M.out.bel⟩
end Go.Proofs.YtlppbgmcoknliaaGreatDoor
namespace Go.Proofs.YtlppbgmcoknliaaGreatDoor
set_option linter.unusedVariables false
open Go.RowKit

theorem and9 (n p d1 d2 d3 d4 v u b : Bool) : (n && (p && ((d1 && v) && ((d2 && u) && (d3 && (d4 && b)))))) = (n && (p && (d1 && (d2 && (d3 && (d4 && (v && (u && b)))))))) := by
 cases n <;> cases p <;> cases d1 <;> cases d2 <;> cases v <;> cases u <;> cases d3 <;> cases d4 <;> rfl

set_option maxRecDepth 100000 in
set_option maxHeartbeats 4000000 in
theorem docfunc_any (x : FuncX) (w : World) (hx : x.At w) (hf : x.d.Fit) :
 Calls Tryz.prog 52 #[.agg #[.int .i64 x.at_, .string x.name, .slice x.pa x.params.length x.pc, .slice x.la x.locals.length x.lc, .string x.result, .slice x.ba x.blocks.length x.bc]] w fun e w' => e = .returned (.bool (funcR x.d)) ∧ Below w.heap.size w w' := by
 have hpb : x.params.length ≤ 1048576 := by have := Sl.big hx.1; rwa [List.length_map] at this
 have hlb : x.locals.length ≤ 1048576 := by have := Sl.big hx.2.1; rwa [List.length_map] at this
 have hbb : x.blocks.length ≤ 1048576 := by have := hx.2.2.1.big; rwa [List.length_map] at this
 obtain ⟨zk, pb, e1, e2⟩ := plain_split x.result.data.toList
 have C103 : Hid (∀ W, Below w.heap.size w W → Calls Tryz.prog 103 #[.string x.result] W fun e w' => e = .returned (.tuple #[.int .i64 zk, .bool pb]) ∧ Below W.heap.size W w') := hidIt fun W hW => by
  have h := rplain_any _ x.result (Nat.le_refl _) (fit_le hf.2.1) W
  rwa [e1] at h
 have C44 : Hid (∀ W, Below w.heap.size w W → Calls Tryz.prog 44 #[.string x.name] W fun e w' => e = .returned (.bool (nameS x.name)) ∧ Below W.heap.size W w') := hidIt fun W hW => rname_any x.name (fit_le hf.1) W
 have CV : Hid (∀ W, Below w.heap.size w W → Calls Tryz.prog 51 #[.slice x.pa x.params.length x.pc, .bool false, .bool false] W fun e w' => e = .returned (.bool (x.params.all (varR typeS))) ∧ Below W.heap.size W w') := hidIt fun W hW => docvars_all x.pa x.params x.pc false false (fun _ => rfl) W (Vrs.on hx.1 hW) hf.2.2.1
 have CU : Hid (∀ W, Below w.heap.size w W → Calls Tryz.prog 51 #[.slice x.la x.locals.length x.lc, .bool false, .bool false] W fun e w' => e = .returned (.bool (x.locals.all (varR typeS))) ∧ Below W.heap.size W w') := hidIt fun W hW => docvars_all x.la x.locals x.lc false false (fun _ => rfl) W (Vrs.on hx.2.1 hW) hf.2.2.2.1
 have eR : funcR x.d = (nameS x.name && (pb && (decide (x.params.length ≤ 16) && (decide (x.params.length + x.locals.length ≤ 24) && (decide (1 ≤ x.blocks.length) && (decide (x.blocks.length ≤ 64) && (x.params.all (varR typeS) && (x.locals.all (varR typeS) && x.blocks.all fun b => blockR b.d)))))))) := by
  rw [← and9, e2]
  unfold funcR FuncX.d plainS
  simp only
  rw [everyL_map]
  unfold everyL
  rw [decide_eq_true (show (0 : Int) ≤ x.params.length by omega), decide_eq_true (show (0 : Int) ≤ x.locals.length by omega), Bool.true_and, Bool.true_and, show decide ((x.params.length : Int) ≤ 16) = decide (x.params.length ≤ 16) from decide_eq_decide.2 (by omega), show decide ((x.locals.length : Int) ≤ 24 - (x.params.length : Int)) = decide (x.params.length + x.locals.length ≤ 24) from decide_eq_decide.2 (by omega), show decide ((1 : Int) ≤ x.blocks.length) = decide (1 ≤ x.blocks.length) from decide_eq_decide.2 (by omega), show decide ((x.blocks.length : Int) ≤ 64) = decide (x.blocks.length ≤ 64) from decide_eq_decide.2 (by omega)]
 rw [eR]
 have FB : Hid (∀ b ∈ x.blocks, b.d.Fit) := hidIt fun b hb => hf.2.2.2.2 b.d (List.mem_map_of_mem hb)
 exact docfunc_core x.at_ x.name x.pa x.params.length x.pc x.la x.locals.length x.lc x.result x.ba x.blocks.length x.bc w x.blocks zk _ pb _ _ hpb hlb hbb (hidIt hx.2.2) (hidIt rfl) FB C103 C44 CV CU
end Go.Proofs.YtlppbgmcoknliaaGreatDoor
namespace Go.Proofs.YtlppbgmcoknliaaGreatDoor
set_option linter.unusedVariables false
open Go.RowKit

/-- A program in its box. -/
structure PM (w : World) (q0 q1 q2 : Value) (W : World) : Prop where
 bel : Below w.heap.size w W
 box : W.heap[w.heap.size]? = some (.cells #[q0, q1, q2] 36 (0, 0))
theorem PM.on {w W W' : World} {q0 q1 q2 : Value} (h : PM w q0 q1 q2 W) (hb : Below W.heap.size W W') : PM w q0 q1 q2 W' := ⟨below_next h.bel hb, heap_on h.box hb⟩
theorem PM.cells {w W : World} {q0 q1 q2 : Value} (h : PM w q0 q1 q2 W) : W.cell? ⟨w.heap.size, 0, none⟩ = some q0 ∧ W.cell? ⟨w.heap.size, 1, none⟩ = some q1 ∧ W.cell? ⟨w.heap.size, 2, none⟩ = some q2 :=
 ⟨cell_at h.box 0, cell_at h.box 1, cell_at h.box 2⟩
theorem st_cells {w W : World} {q0 q1 q2 q3 q4 : Value} (h : Kept w [(w.heap.size, Obj.cells #[q0, q1, q2, q3, q4] 58 (0, 0))] W) : W.cell? ⟨w.heap.size, 1, none⟩ = some q1 ∧ W.cell? ⟨w.heap.size, 2, none⟩ = some q2 ∧ W.cell? ⟨w.heap.size, 3, none⟩ = some q3 ∧ W.cell? ⟨w.heap.size, 4, none⟩ = some q4 :=
 ⟨cell_at (h.get 0 rfl) 1, cell_at (h.get 0 rfl) 2, cell_at (h.get 0 rfl) 3, cell_at (h.get 0 rfl) 4⟩
theorem en_cells {w W : World} {q0 q1 q2 : Value} (h : Kept w [(w.heap.size, Obj.cells #[q0, q1, q2] 70 (0, 0))] W) : W.cell? ⟨w.heap.size, 1, none⟩ = some q1 ∧ W.cell? ⟨w.heap.size, 2, none⟩ = some q2 :=
 ⟨cell_at (h.get 0 rfl) 1, cell_at (h.get 0 rfl) 2⟩

set_option maxHeartbeats 8000000 in
set_option maxRecDepth 100000 in
theorem docright_core (zsa : Option Addr) (ns zsc : Nat) (zea : Option Addr) (ne zec : Nat) (zfa : Option Addr) (nf zfc : Nat) (w : World) (sl : List StructX) (el : List EnumX) (fl : List FuncX)
 (hsb : ns ≤ 1048576) (heb : ne ≤ 1048576) (hfb : nf ≤ 1048576)
 (HS : Hid (Strs w zsa sl)) (HE : Hid (Ens w zea el)) (HF : Hid (Fns w zfa fl)) (LS : Hid (sl.length = ns)) (LE : Hid (el.length = ne)) (LF : Hid (fl.length = nf))
 (FS : Hid (∀ x ∈ sl, x.d.Fit)) (FE : Hid (∀ x ∈ el, x.d.Fit)) (FF : Hid (∀ x ∈ fl, x.d.Fit)) :
 Calls Tryz.prog 21 #[.agg #[.slice zsa ns zsc, .slice zea ne zec, .slice zfa nf zfc]] w fun e w' => e = .returned (.bool (decide (ns ≤ 16) && (decide (ne ≤ 16) && (decide (nf ≤ 16) && ((sl.all fun x => structR x.d) && ((el.all fun x => enumR x.d) && (fl.all fun x => funcR x.d))))))) ∧ Below w.heap.size w w' := by
 obtain ⟨R, hR⟩ : ∃ R, (decide (ns ≤ 16) && (decide (ne ≤ 16) && (decide (nf ≤ 16) && ((sl.all fun x => structR x.d) && ((el.all fun x => enumR x.d) && (fl.all fun x => funcR x.d)))))) = R := ⟨_, rfl⟩
 rw [hR]
 have HR := hidIt hR
 clear hR
 have M : Hid (PM w (.slice zsa ns zsc) (.slice zea ne zec) (.slice zfa nf zfc) (w.alloc (.cells #[.slice zsa ns zsc, .slice zea ne zec, .slice zfa nf zfc] 36))) := hidIt ⟨below_new w _, heap_alloc_new w _⟩
 go_enter Tryz.func21, Tryz.ntmps21
 go_upto_region 1 with fail
 generalize w.alloc (.cells #[.slice zsa ns zsc, .slice zea ne zec, .slice zfa nf zfc] 36) = W0 at M ⊢
 obtain ⟨c0, c1, c2⟩ := M.out.cells
 by_cases d1 : ns ≤ 16
 rotate_left
 · rw [decide_eq_false d1] at HR
   obtain rfl : false = R := by rw [← HR.out]; rfl
   go_wp2
   go_ret
   exact ⟨rfl, M.out.bel⟩
 rw [decide_eq_true d1] at HR
 by_cases d2 : ne ≤ 16
 rotate_left
 · rw [decide_eq_false d2] at HR
   obtain rfl : false = R := by rw [← HR.out]; rfl
   go_wp2
   go_ret
   exact ⟨rfl, M.out.bel⟩
 rw [decide_eq_true d2] at HR
 by_cases d3 : nf ≤ 16
 rotate_left
 · rw [decide_eq_false d3] at HR
   obtain rfl : false = R := by rw [← HR.out]; rfl
   go_wp2
   go_ret
   exact ⟨rfl, M.out.bel⟩
 rw [decide_eq_true d3] at HR
 have HR : Hid (((sl.all fun x => structR x.d) && ((el.all fun x => enumR x.d) && (fl.all fun x => funcR x.d))) = R) := HR
 go_wp2
 go_loopg [3, 4] ns (fun g si _ wr => ∃ k : Nat, k ≤ ns ∧ ns - k ≤ g ∧ si = .int .i64 k ∧ Hid (PM w (.slice zsa ns zsc) (.slice zea ne zec) (.slice zfa nf zfc) wr) ∧ Hid (∀ (j : Nat) (x : StructX), j < k → sl[j]? = some x → structR x.d = true))
 case atStart => exact ⟨0, Nat.zero_le _, by omega, rfl, M, hidIt fun j x hj => absurd hj (Nat.not_lt_zero _)⟩
 case round =>
  clear M c0 c1 c2
  obtain ⟨k, hk, hg, rfl, M, A⟩ := hrel
  by_cases hlt : k < ns
  · obtain ⟨x, hx⟩ : ∃ x, sl[k]? = some x := ⟨_, List.getElem?_eq_getElem (by rw [LS.out]; exact hlt)⟩
    obtain ⟨b1, o1, rfl, g1⟩ := Sl.cell HS.out.1 (j := k) (r := x.row) (by rw [List.getElem?_map, hx]; rfl)
    obtain ⟨c0, c1, c2⟩ := M.out.cells
    have hm := List.mem_of_getElem? hx
    have cn : Hid (∀ W, Below w.heap.size w W → Calls Tryz.prog 44 #[.string x.name] W fun e w' => e = .returned (.bool (nameS x.name)) ∧ Below W.heap.size W w') := hidIt fun W hW => rname_any x.name (fit_le (FS.out x hm).1) W
    have cv : Hid (∀ W, Below w.heap.size w W → Calls Tryz.prog 51 #[.slice x.fa x.fields.length x.fc, .bool true, .bool false] W fun e w' => e = .returned (.bool (x.fields.all (varR plainS))) ∧ Below W.heap.size W w') := hidIt fun W hW => docvars_all _ x.fields _ true false (fun h => by cases h) W (Vrs.on (HS.out.2 x hm) hW) (FS.out x hm).2
    have hsb : x.fields.length ≤ 1048576 := by have := Sl.big (HS.out.2 x hm); rwa [List.length_map] at this
    have Hx := hidIt hx
    have p0 := g1 wr M.out.bel 0 _ rfl
    have p1 := g1 wr M.out.bel 1 _ rfl
    have p2 := g1 wr M.out.bel 2 _ rfl
    have p3 := g1 wr M.out.bel 3 _ rfl
    have p4 := g1 wr M.out.bel 4 _ rfl
    rw [Nat.add_zero] at p0
    clear g1 hx hm
    go_upto_region 7 with fail
    have K1 : Hid (Kept wr [(wr.heap.size, Obj.cells #[.int .i64 x.at_, .string x.name, .bool x.safe, .bool x.hook, .slice x.fa x.fields.length x.fc] 58 (0, 0))] (wr.alloc (.cells #[.int .i64 x.at_, .string x.name, .bool x.safe, .bool x.hook, .slice x.fa x.fields.length x.fc] 58))) := hidIt (Kept.new (L := []) ⟨Below.refl _ wr, fun x hx => by cases hx⟩ _ 58)
    have M9 := hidIt (M.out.on (below_new wr (.cells #[.int .i64 x.at_, .string x.name, .bool x.safe, .bool x.hook, .slice x.fa x.fields.length x.fc] 58)))
    clear M
    have M := M9
    clear M9 p0 p1 p2 p3 p4 c0 c1 c2
    generalize wr.alloc (.cells #[.int .i64 x.at_, .string x.name, .bool x.safe, .bool x.hook, .slice x.fa x.fields.length x.fc] 58) = W2 at K1 M ⊢
    obtain ⟨v1, v2, v3, v4⟩ := st_cells K1.out
    have eB : structR x.d = (nameS x.name && (decide (x.fields.length ≤ 16) && x.fields.all (varR plainS))) := by
     unfold structR StructX.d
     simp only
     unfold everyL
     rw [decide_eq_true (show (0 : Int) ≤ x.fields.length by omega), Bool.true_and, show decide ((x.fields.length : Int) ≤ 16) = decide (x.fields.length ≤ 16) from decide_eq_decide.2 (by omega)]
    have EB := hidIt eB
    clear eB
    cases hn : nameS x.name with
    | false =>
     rw [hn] at cn
     as_aux_lemma =>
     have hf : structR x.d = false := by rw [EB.out, hn]; rfl
     obtain rfl : false = R := by rw [← HR.out, all_hit (r := fun x : StructX => structR x.d) Hx.out hf]; rfl
     go_wp2_with (first | (go_at_call 44; refine (cn.out _ M.out.bel).mono ?_; rintro e y ⟨rfl, hq⟩; have K1 := hidIt (K1.out.on hq); have M := hidIt (M.out.on hq); clear hq v1 v2 v3 v4; obtain ⟨v1, v2, v3, v4⟩ := st_cells K1.out) | (go_at_call 51; refine (cv.out _ M.out.bel).mono ?_; rintro e y ⟨rfl, hq⟩; have K1 := hidIt (K1.out.on hq); have M := hidIt (M.out.on hq); clear hq v1 v2 v3 v4; obtain ⟨v1, v2, v3, v4⟩ := st_cells K1.out))
     go_ret
     exact ⟨rfl, M.out.bel⟩
    | true =>
    rw [hn] at cn
    by_cases d8 : x.fields.length ≤ 16
    rotate_left
    · as_aux_lemma =>
      have hf : structR x.d = false := by rw [EB.out, decide_eq_false d8, Bool.false_and, Bool.and_false]
      obtain rfl : false = R := by rw [← HR.out, all_hit (r := fun x : StructX => structR x.d) Hx.out hf]; rfl
      go_wp2_with (first | (go_at_call 44; refine (cn.out _ M.out.bel).mono ?_; rintro e y ⟨rfl, hq⟩; have K1 := hidIt (K1.out.on hq); have M := hidIt (M.out.on hq); clear hq v1 v2 v3 v4; obtain ⟨v1, v2, v3, v4⟩ := st_cells K1.out) | (go_at_call 51; refine (cv.out _ M.out.bel).mono ?_; rintro e y ⟨rfl, hq⟩; have K1 := hidIt (K1.out.on hq); have M := hidIt (M.out.on hq); clear hq v1 v2 v3 v4; obtain ⟨v1, v2, v3, v4⟩ := st_cells K1.out))
      go_ret
      exact ⟨rfl, M.out.bel⟩
    cases hv : x.fields.all (varR plainS) with
    | false =>
     rw [hv] at cv
     as_aux_lemma =>
     have hf : structR x.d = false := by rw [EB.out, hv, Bool.and_false, Bool.and_false]
     obtain rfl : false = R := by rw [← HR.out, all_hit (r := fun x : StructX => structR x.d) Hx.out hf]; rfl
     go_wp2_with (first | (go_at_call 44; refine (cn.out _ M.out.bel).mono ?_; rintro e y ⟨rfl, hq⟩; have K1 := hidIt (K1.out.on hq); have M := hidIt (M.out.on hq); clear hq v1 v2 v3 v4; obtain ⟨v1, v2, v3, v4⟩ := st_cells K1.out) | (go_at_call 51; refine (cv.out _ M.out.bel).mono ?_; rintro e y ⟨rfl, hq⟩; have K1 := hidIt (K1.out.on hq); have M := hidIt (M.out.on hq); clear hq v1 v2 v3 v4; obtain ⟨v1, v2, v3, v4⟩ := st_cells K1.out))
     go_ret
     exact ⟨rfl, M.out.bel⟩
    | true =>
     rw [hv] at cv
     as_aux_lemma =>
     have HY : Hid (structR x.d = true) := hidIt (by rw [EB.out, hn, hv, decide_eq_true d8]; rfl)
     clear hn hv EB
     go_wp2_with (first | (go_at_call 44; refine (cn.out _ M.out.bel).mono ?_; rintro e y ⟨rfl, hq⟩; have K1 := hidIt (K1.out.on hq); have M := hidIt (M.out.on hq); clear hq v1 v2 v3 v4; obtain ⟨v1, v2, v3, v4⟩ := st_cells K1.out) | (go_at_call 51; refine (cv.out _ M.out.bel).mono ?_; rintro e y ⟨rfl, hq⟩; have K1 := hidIt (K1.out.on hq); have M := hidIt (M.out.on hq); clear hq v1 v2 v3 v4; obtain ⟨v1, v2, v3, v4⟩ := st_cells K1.out))
     go_roundg (ns - (k + 1))
     case measure => omega
     case rel =>
      refine ⟨k + 1, by omega, by omega, by go_num, M, hidIt fun j u hj hu => ?_⟩
      by_cases e : j = k
      · subst e
        obtain rfl : x = u := Option.some.inj (Hx.out.symm.trans hu)
        exact HY.out
      · exact A.out j u (by omega) hu
  as_aux_lemma =>
  obtain rfl : ns = k := by omega
  have e0 := all_none (r := fun x : StructX => structR x.d) (xs := sl) fun j x hj => A.out j x (by have := (List.getElem?_eq_some_iff.1 hj).1; rw [LS.out] at this; exact this) hj
  have HR := hidIt (by have := HR.out; rwa [e0, Bool.true_and] at this)
  clear e0 A hk hg hlt
  obtain ⟨c0, c1, c2⟩ := M.out.cells
  go_wp2
  go_loopg [5, 6] ne (fun g si _ wr => ∃ k : Nat, k ≤ ne ∧ ne - k ≤ g ∧ si = .int .i64 k ∧ Hid (PM w (.slice zsa ns zsc) (.slice zea ne zec) (.slice zfa nf zfc) wr) ∧ Hid (∀ (j : Nat) (x : EnumX), j < k → el[j]? = some x → enumR x.d = true))
  case atStart => exact ⟨0, Nat.zero_le _, by omega, rfl, M, hidIt fun j x hj => absurd hj (Nat.not_lt_zero _)⟩
  case round =>
   clear M c0 c1 c2
   obtain ⟨k, hk, hg, rfl, M, A⟩ := hrel
   by_cases hlt : k < ne
   · obtain ⟨x, hx⟩ : ∃ x, el[k]? = some x := ⟨_, List.getElem?_eq_getElem (by rw [LE.out]; exact hlt)⟩
     obtain ⟨b1, o1, rfl, g1⟩ := Sl.cell HE.out.1 (j := k) (r := x.row) (by rw [List.getElem?_map, hx]; rfl)
     obtain ⟨c0, c1, c2⟩ := M.out.cells
     have hm := List.mem_of_getElem? hx
     have cn : Hid (∀ W, Below w.heap.size w W → Calls Tryz.prog 44 #[.string x.name] W fun e w' => e = .returned (.bool (nameS x.name)) ∧ Below W.heap.size W w') := hidIt fun W hW => rname_any x.name (fit_le (FE.out x hm).1) W
     have cv : Hid (∀ W, Below w.heap.size w W → Calls Tryz.prog 51 #[.slice x.va x.variants.length x.vc, .bool true, .bool true] W fun e w' => e = .returned (.bool (x.variants.all (varR payS))) ∧ Below W.heap.size W w') := hidIt fun W hW => docvars_all _ x.variants _ true true (fun h => by cases h) W (Vrs.on (HE.out.2 x hm) hW) (FE.out x hm).2
     have hsb : x.variants.length ≤ 1048576 := by have := Sl.big (HE.out.2 x hm); rwa [List.length_map] at this
     have Hx := hidIt hx
     have p0 := g1 wr M.out.bel 0 _ rfl
     have p1 := g1 wr M.out.bel 1 _ rfl
     have p2 := g1 wr M.out.bel 2 _ rfl
     rw [Nat.add_zero] at p0
     clear g1 hx hm
     go_upto_region 13 with fail
     have K1 : Hid (Kept wr [(wr.heap.size, Obj.cells #[.int .i64 x.at_, .string x.name, .slice x.va x.variants.length x.vc] 70 (0, 0))] (wr.alloc (.cells #[.int .i64 x.at_, .string x.name, .slice x.va x.variants.length x.vc] 70))) := hidIt (Kept.new (L := []) ⟨Below.refl _ wr, fun x hx => by cases hx⟩ _ 70)
     have M9 := hidIt (M.out.on (below_new wr (.cells #[.int .i64 x.at_, .string x.name, .slice x.va x.variants.length x.vc] 70)))
     clear M
     have M := M9
     clear M9 p0 p1 p2 c0 c1 c2
     generalize wr.alloc (.cells #[.int .i64 x.at_, .string x.name, .slice x.va x.variants.length x.vc] 70) = W2 at K1 M ⊢
     obtain ⟨v1, v2⟩ := en_cells K1.out
     have eB : enumR x.d = (nameS x.name && (decide (1 ≤ x.variants.length) && (decide (x.variants.length ≤ 16) && x.variants.all (varR payS)))) := by
      unfold enumR EnumX.d
      simp only
      unfold everyL
      rw [show decide ((1 : Int) ≤ x.variants.length) = decide (1 ≤ x.variants.length) from decide_eq_decide.2 (by omega), show decide ((x.variants.length : Int) ≤ 16) = decide (x.variants.length ≤ 16) from decide_eq_decide.2 (by omega)]
     have EB := hidIt eB
     clear eB
     cases hn : nameS x.name with
     | false =>
      rw [hn] at cn
      as_aux_lemma =>
      have hf : enumR x.d = false := by rw [EB.out, hn]; rfl
      obtain rfl : false = R := by rw [← HR.out, all_hit (r := fun x : EnumX => enumR x.d) Hx.out hf]; rfl
      go_wp2_with (first | (go_at_call 44; refine (cn.out _ M.out.bel).mono ?_; rintro e y ⟨rfl, hq⟩; have K1 := hidIt (K1.out.on hq); have M := hidIt (M.out.on hq); clear hq v1 v2; obtain ⟨v1, v2⟩ := en_cells K1.out) | (go_at_call 51; refine (cv.out _ M.out.bel).mono ?_; rintro e y ⟨rfl, hq⟩; have K1 := hidIt (K1.out.on hq); have M := hidIt (M.out.on hq); clear hq v1 v2; obtain ⟨v1, v2⟩ := en_cells K1.out))
      go_ret
      exact ⟨rfl, M.out.bel⟩
     | true =>
     rw [hn] at cn
     by_cases d7 : 1 ≤ x.variants.length
     rotate_left
     · as_aux_lemma =>
       have hf : enumR x.d = false := by rw [EB.out, decide_eq_false d7, Bool.false_and, Bool.and_false]
       obtain rfl : false = R := by rw [← HR.out, all_hit (r := fun x : EnumX => enumR x.d) Hx.out hf]; rfl
       go_wp2_with (first | (go_at_call 44; refine (cn.out _ M.out.bel).mono ?_; rintro e y ⟨rfl, hq⟩; have K1 := hidIt (K1.out.on hq); have M := hidIt (M.out.on hq); clear hq v1 v2; obtain ⟨v1, v2⟩ := en_cells K1.out) | (go_at_call 51; refine (cv.out _ M.out.bel).mono ?_; rintro e y ⟨rfl, hq⟩; have K1 := hidIt (K1.out.on hq); have M := hidIt (M.out.on hq); clear hq v1 v2; obtain ⟨v1, v2⟩ := en_cells K1.out))
       go_ret
       exact ⟨rfl, M.out.bel⟩
     by_cases d8 : x.variants.length ≤ 16
     rotate_left
     · as_aux_lemma =>
       have hf : enumR x.d = false := by rw [EB.out, decide_eq_false d8, Bool.false_and, Bool.and_false, Bool.and_false]
       obtain rfl : false = R := by rw [← HR.out, all_hit (r := fun x : EnumX => enumR x.d) Hx.out hf]; rfl
       go_wp2_with (first | (go_at_call 44; refine (cn.out _ M.out.bel).mono ?_; rintro e y ⟨rfl, hq⟩; have K1 := hidIt (K1.out.on hq); have M := hidIt (M.out.on hq); clear hq v1 v2; obtain ⟨v1, v2⟩ := en_cells K1.out) | (go_at_call 51; refine (cv.out _ M.out.bel).mono ?_; rintro e y ⟨rfl, hq⟩; have K1 := hidIt (K1.out.on hq); have M := hidIt (M.out.on hq); clear hq v1 v2; obtain ⟨v1, v2⟩ := en_cells K1.out))
       go_ret
       exact ⟨rfl, M.out.bel⟩
     cases hv : x.variants.all (varR payS) with
     | false =>
      rw [hv] at cv
      as_aux_lemma =>
      have hf : enumR x.d = false := by rw [EB.out, hv, Bool.and_false, Bool.and_false, Bool.and_false]
      obtain rfl : false = R := by rw [← HR.out, all_hit (r := fun x : EnumX => enumR x.d) Hx.out hf]; rfl
      go_wp2_with (first | (go_at_call 44; refine (cn.out _ M.out.bel).mono ?_; rintro e y ⟨rfl, hq⟩; have K1 := hidIt (K1.out.on hq); have M := hidIt (M.out.on hq); clear hq v1 v2; obtain ⟨v1, v2⟩ := en_cells K1.out) | (go_at_call 51; refine (cv.out _ M.out.bel).mono ?_; rintro e y ⟨rfl, hq⟩; have K1 := hidIt (K1.out.on hq); have M := hidIt (M.out.on hq); clear hq v1 v2; obtain ⟨v1, v2⟩ := en_cells K1.out))
      go_ret
      exact ⟨rfl, M.out.bel⟩
     | true =>
      rw [hv] at cv
      as_aux_lemma =>
      have HY : Hid (enumR x.d = true) := hidIt (by rw [EB.out, hn, hv, decide_eq_true d7, decide_eq_true d8]; rfl)
      clear hn hv EB
      go_wp2_with (first | (go_at_call 44; refine (cn.out _ M.out.bel).mono ?_; rintro e y ⟨rfl, hq⟩; have K1 := hidIt (K1.out.on hq); have M := hidIt (M.out.on hq); clear hq v1 v2; obtain ⟨v1, v2⟩ := en_cells K1.out) | (go_at_call 51; refine (cv.out _ M.out.bel).mono ?_; rintro e y ⟨rfl, hq⟩; have K1 := hidIt (K1.out.on hq); have M := hidIt (M.out.on hq); clear hq v1 v2; obtain ⟨v1, v2⟩ := en_cells K1.out))
      go_roundg (ne - (k + 1))
      case measure => omega
      case rel =>
       refine ⟨k + 1, by omega, by omega, by go_num, M, hidIt fun j u hj hu => ?_⟩
       by_cases e : j = k
       · subst e
         obtain rfl : x = u := Option.some.inj (Hx.out.symm.trans hu)
         exact HY.out
       · exact A.out j u (by omega) hu
   as_aux_lemma =>
   obtain rfl : ne = k := by omega
   have e0 := all_none (r := fun x : EnumX => enumR x.d) (xs := el) fun j x hj => A.out j x (by have := (List.getElem?_eq_some_iff.1 hj).1; rw [LE.out] at this; exact this) hj
   have HR := hidIt (by have := HR.out; rwa [e0, Bool.true_and] at this)
   clear e0 A hk hg hlt
   obtain ⟨c0, c1, c2⟩ := M.out.cells
   go_wp2
   go_loopg [7] nf (fun g si wr => ∃ k : Nat, k ≤ nf ∧ nf - k ≤ g ∧ si = .int .i64 k ∧ Hid (PM w (.slice zsa ns zsc) (.slice zea ne zec) (.slice zfa nf zfc) wr) ∧ Hid (∀ (j : Nat) (x : FuncX), j < k → fl[j]? = some x → funcR x.d = true))
   case atStart => exact ⟨0, Nat.zero_le _, by omega, rfl, M, hidIt fun j x hj => absurd hj (Nat.not_lt_zero _)⟩
   case round =>
    clear M c0 c1 c2
    obtain ⟨k, hk, hg, rfl, M, A⟩ := hrel
    by_cases hlt : k < nf
    · obtain ⟨x, hx⟩ : ∃ x, fl[k]? = some x := ⟨_, List.getElem?_eq_getElem (by rw [LF.out]; exact hlt)⟩
      obtain ⟨b1, o1, rfl, g1⟩ := Sl.cell HF.out.1 (j := k) (r := x.row) (by rw [List.getElem?_map, hx]; rfl)
      obtain ⟨c0, c1, c2⟩ := M.out.cells
      have hm := List.mem_of_getElem? hx
      have cf : Hid (∀ W, Below w.heap.size w W → Calls Tryz.prog 52 #[.agg #[.int .i64 x.at_, .string x.name, .slice x.pa x.params.length x.pc, .slice x.la x.locals.length x.lc, .string x.result, .slice x.ba x.blocks.length x.bc]] W fun e w' => e = .returned (.bool (funcR x.d)) ∧ Below W.heap.size W w') := hidIt fun W hW => docfunc_any x W ((HF.out.2 x hm).on hW) (FF.out x hm)
      have Hx := hidIt hx
      have p0 := g1 wr M.out.bel 0 _ rfl
      have p1 := g1 wr M.out.bel 1 _ rfl
      have p2 := g1 wr M.out.bel 2 _ rfl
      have p3 := g1 wr M.out.bel 3 _ rfl
      have p4 := g1 wr M.out.bel 4 _ rfl
      have p5 := g1 wr M.out.bel 5 _ rfl
      rw [Nat.add_zero] at p0
      clear g1 hx hm
      cases hv : funcR x.d with
      | false =>
       as_aux_lemma =>
       obtain rfl : false = R := by rw [← HR.out, all_hit (r := fun x : FuncX => funcR x.d) Hx.out hv]
       rw [hv] at cf
       go_wp2_with (go_at_call 52; refine (cf.out _ M.out.bel).mono ?_; rintro e y ⟨rfl, hq⟩)
       go_ret
       exact ⟨rfl, below_next M.out.bel hq⟩
      | true =>
       as_aux_lemma =>
       rw [hv] at cf
       have HV := hidIt hv
       clear hv
       go_wp2_with (go_at_call 52; refine (cf.out _ M.out.bel).mono ?_; rintro e y ⟨rfl, hq⟩)
       go_roundg (nf - (k + 1))
       case measure => omega
       case rel =>
        refine ⟨k + 1, by omega, by omega, by go_num, hidIt (M.out.on hq), hidIt fun j u hj hu => ?_⟩
        by_cases e : j = k
        · subst e
          obtain rfl : x = u := Option.some.inj (Hx.out.symm.trans hu)
          exact HV.out
        · exact A.out j u (by omega) hu
    · as_aux_lemma =>
      have : k = nf := by omega
      subst this
      obtain rfl : true = R := by rw [← HR.out]; exact (all_none (r := fun x : FuncX => funcR x.d) (xs := fl) fun j x hj => A.out j x (by have := (List.getElem?_eq_some_iff.1 hj).1; rw [LF.out] at this; exact this) hj).symm
      obtain ⟨c0, c1, c2⟩ := M.out.cells
      go_wp2
      go_ret
      exact ⟨rfl, M.out.bel⟩
end Go.Proofs.YtlppbgmcoknliaaGreatDoor
namespace Go.Proofs.YtlppbgmcoknliaaGreatDoor
set_option linter.unusedVariables false
open Go.RowKit

theorem and6 (d1 d2 d3 s e f : Bool) : ((d1 && s) && ((d2 && e) && (d3 && f))) = (d1 && (d2 && (d3 && (s && (e && f))))) := by
 cases d1 <;> cases d2 <;> cases d3 <;> cases s <;> cases e <;> rfl

set_option maxRecDepth 100000 in
set_option maxHeartbeats 4000000 in
theorem docright_any (x : ProgX) (w : World) (hx : x.At w) (hf : x.d.Fit) :
 Calls Tryz.prog 21 #[.agg #[.slice x.sa x.structs.length x.sc, .slice x.ea x.enums.length x.ec, .slice x.fa x.funcs.length x.fc]] w fun e w' => e = .returned (.bool (progR x.d)) ∧ Below w.heap.size w w' := by
 have hs : x.structs.length ≤ 1048576 := by have := hx.1.1.big; rwa [List.length_map] at this
 have he : x.enums.length ≤ 1048576 := by have := hx.2.1.1.big; rwa [List.length_map] at this
 have hu : x.funcs.length ≤ 1048576 := by have := hx.2.2.1.big; rwa [List.length_map] at this
 have eR : progR x.d = (decide (x.structs.length ≤ 16) && (decide (x.enums.length ≤ 16) && (decide (x.funcs.length ≤ 16) && ((x.structs.all fun x => structR x.d) && ((x.enums.all fun x => enumR x.d) && (x.funcs.all fun x => funcR x.d)))))) := by
  rw [← and6]
  unfold progR ProgX.d
  simp only
  rw [everyL_map, everyL_map, everyL_map]
  unfold everyL
  rw [decide_eq_true (show (0 : Int) ≤ x.structs.length by omega), decide_eq_true (show (0 : Int) ≤ x.enums.length by omega), decide_eq_true (show (0 : Int) ≤ x.funcs.length by omega), Bool.true_and, Bool.true_and, Bool.true_and, show decide ((x.structs.length : Int) ≤ 16) = decide (x.structs.length ≤ 16) from decide_eq_decide.2 (by omega), show decide ((x.enums.length : Int) ≤ 16) = decide (x.enums.length ≤ 16) from decide_eq_decide.2 (by omega), show decide ((x.funcs.length : Int) ≤ 16) = decide (x.funcs.length ≤ 16) from decide_eq_decide.2 (by omega)]
 rw [eR]
 exact docright_core x.sa x.structs.length x.sc x.ea x.enums.length x.ec x.fa x.funcs.length x.fc w x.structs x.enums x.funcs hs he hu (hidIt hx.1) (hidIt hx.2.1) (hidIt hx.2.2) (hidIt rfl) (hidIt rfl) (hidIt rfl) (hidIt fun s h => hf.1 s.d (List.mem_map_of_mem h)) (hidIt fun s h => hf.2.1 s.d (List.mem_map_of_mem h)) (hidIt fun s h => hf.2.2 s.d (List.mem_map_of_mem h))
end Go.Proofs.YtlppbgmcoknliaaGreatDoor
