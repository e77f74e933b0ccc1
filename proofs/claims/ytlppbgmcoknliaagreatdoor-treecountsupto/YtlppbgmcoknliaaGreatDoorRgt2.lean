/-
  The walks of stmtParts, termParts, rightStmt, rightTerm.
-/
import Derived.Test.YtlppbgmcoknliaaGreatDoorRgt
import Derived.Test.YtlppbgmcoknliaaGreatDoorIdx2
namespace Go.Proofs.YtlppbgmcoknliaaGreatDoor
set_option linter.unusedVariables false
open Go.RowKit

/-- What a statement or an end has by its kind. -/
structure PartsD where
 dst : Bool
 number : Bool
 name : Bool
 variant : Bool
 ok : Bool
 al : Int
 ah : Int
 bl : Int
 bh : Int
 rl : Int
 rh : Int
def PartsD.v (p : PartsD) : Value := .tuple #[.agg #[.bool p.dst, .bool p.number, .bool p.name, .bool p.variant, .int .i64 p.al, .int .i64 p.ah, .int .i64 p.bl, .int .i64 p.bh, .int .i64 p.rl, .int .i64 p.rh], .bool p.ok]
def stmtP (k : Int) : PartsD :=
 if k = 1 then ⟨true, true, false, false, true, 0, 0, 0, 0, 0, 0⟩ else
 if k = 2 then ⟨true, false, false, false, true, 2, 2, 0, 0, 0, 0⟩ else
 if k = 3 then ⟨true, false, false, false, true, 2, 2, 0, 0, 0, 0⟩ else
 if k = 4 then ⟨true, false, false, false, true, 2, 2, 0, 0, 0, 0⟩ else
 if k = 5 then ⟨true, false, false, false, true, 1, 1, 0, 0, 0, 0⟩ else
 if k = 6 then ⟨true, false, false, false, true, 1, 1, 0, 0, 0, 0⟩ else
 if k = 7 then ⟨true, false, true, false, true, 0, 16, 0, 0, 0, 0⟩ else
 if k = 8 then ⟨true, false, true, true, true, 0, 1, 0, 0, 0, 0⟩ else
 if k = 9 then ⟨true, false, false, false, true, 1, 1, 0, 0, 0, 0⟩ else
 if k = 10 then ⟨true, false, false, false, true, 1, 1, 0, 0, 0, 0⟩ else
 if k = 11 then ⟨false, false, false, false, true, 1, 1, 0, 0, 0, 0⟩ else
 ⟨false, false, false, false, false, 0, 0, 0, 0, 0, 0⟩
set_option maxHeartbeats 2000000 in
theorem stmtP_any (k : Int) (w : World) : Calls Tryz.prog 169 #[.int .i64 k] w fun e w' => e = .returned (stmtP k).v ∧ Below w.heap.size w w' := by
 by_cases h1 : k = 1
 · subst h1
   go_enter Tryz.func169, Tryz.ntmps169
   go_wp2
   (try simp only [Exit.inBlock, Exit.then])
   refine bodyPost_ret (by simp [results, Tryz.results169, go_sem]; try rfl) rfl ?_
   exact ⟨rfl, below_new w _⟩
 by_cases h2 : k = 2
 · subst h2
   go_enter Tryz.func169, Tryz.ntmps169
   go_wp2
   (try simp only [Exit.inBlock, Exit.then])
   refine bodyPost_ret (by simp [results, Tryz.results169, go_sem]; try rfl) rfl ?_
   exact ⟨rfl, below_new w _⟩
 by_cases h3 : k = 3
 · subst h3
   go_enter Tryz.func169, Tryz.ntmps169
   go_wp2
   (try simp only [Exit.inBlock, Exit.then])
   refine bodyPost_ret (by simp [results, Tryz.results169, go_sem]; try rfl) rfl ?_
   exact ⟨rfl, below_new w _⟩
 by_cases h4 : k = 4
 · subst h4
   go_enter Tryz.func169, Tryz.ntmps169
   go_wp2
   (try simp only [Exit.inBlock, Exit.then])
   refine bodyPost_ret (by simp [results, Tryz.results169, go_sem]; try rfl) rfl ?_
   exact ⟨rfl, below_new w _⟩
 by_cases h5 : k = 5
 · subst h5
   go_enter Tryz.func169, Tryz.ntmps169
   go_wp2
   (try simp only [Exit.inBlock, Exit.then])
   refine bodyPost_ret (by simp [results, Tryz.results169, go_sem]; try rfl) rfl ?_
   exact ⟨rfl, below_new w _⟩
 by_cases h6 : k = 6
 · subst h6
   go_enter Tryz.func169, Tryz.ntmps169
   go_wp2
   (try simp only [Exit.inBlock, Exit.then])
   refine bodyPost_ret (by simp [results, Tryz.results169, go_sem]; try rfl) rfl ?_
   exact ⟨rfl, below_new w _⟩
 by_cases h7 : k = 7
 · subst h7
   go_enter Tryz.func169, Tryz.ntmps169
   go_wp2
   (try simp only [Exit.inBlock, Exit.then])
   refine bodyPost_ret (by simp [results, Tryz.results169, go_sem]; try rfl) rfl ?_
   exact ⟨rfl, below_new w _⟩
 by_cases h8 : k = 8
 · subst h8
   go_enter Tryz.func169, Tryz.ntmps169
   go_wp2
   (try simp only [Exit.inBlock, Exit.then])
   refine bodyPost_ret (by simp [results, Tryz.results169, go_sem]; try rfl) rfl ?_
   exact ⟨rfl, below_new w _⟩
 by_cases h9 : k = 9
 · subst h9
   go_enter Tryz.func169, Tryz.ntmps169
   go_wp2
   (try simp only [Exit.inBlock, Exit.then])
   refine bodyPost_ret (by simp [results, Tryz.results169, go_sem]; try rfl) rfl ?_
   exact ⟨rfl, below_new w _⟩
 by_cases h10 : k = 10
 · subst h10
   go_enter Tryz.func169, Tryz.ntmps169
   go_wp2
   (try simp only [Exit.inBlock, Exit.then])
   refine bodyPost_ret (by simp [results, Tryz.results169, go_sem]; try rfl) rfl ?_
   exact ⟨rfl, below_new w _⟩
 by_cases h11 : k = 11
 · subst h11
   go_enter Tryz.func169, Tryz.ntmps169
   go_wp2
   (try simp only [Exit.inBlock, Exit.then])
   refine bodyPost_ret (by simp [results, Tryz.results169, go_sem]; try rfl) rfl ?_
   exact ⟨rfl, below_new w _⟩
 have e : stmtP k = ⟨false, false, false, false, false, 0, 0, 0, 0, 0, 0⟩ := by unfold stmtP; simp [h1, h2, h3, h4, h5, h6, h7, h8, h9, h10, h11]
 rw [e]
 have g1 : (k == 1) = false := by simpa using h1
 have g2 : (k == 2) = false := by simpa using h2
 have g3 : (k == 3) = false := by simpa using h3
 have g4 : (k == 4) = false := by simpa using h4
 have g5 : (k == 5) = false := by simpa using h5
 have g6 : (k == 6) = false := by simpa using h6
 have g7 : (k == 7) = false := by simpa using h7
 have g8 : (k == 8) = false := by simpa using h8
 have g9 : (k == 9) = false := by simpa using h9
 have g10 : (k == 10) = false := by simpa using h10
 have g11 : (k == 11) = false := by simpa using h11
 clear h1 h2 h3 h4 h5 h6 h7 h8 h9 h10 h11 e
 go_enter Tryz.func169, Tryz.ntmps169
 go_wp2
 (try simp only [Exit.inBlock, Exit.then])
 refine bodyPost_ret (by simp [results, Tryz.results169, go_sem]; try rfl) rfl ?_
 exact ⟨rfl, below_new w _⟩
def termP (k : Int) : PartsD :=
 if k = 1 then ⟨false, false, false, false, true, 0, 0, 1, 1, 0, 0⟩ else
 if k = 2 then ⟨false, false, false, false, true, 1, 1, 2, 2, 0, 0⟩ else
 if k = 3 then ⟨false, false, false, false, true, 1, 1, 0, 0, 1, 16⟩ else
 if k = 4 then ⟨false, false, false, false, true, 0, 0, 1, 1, 0, 0⟩ else
 if k = 5 then ⟨true, false, true, false, true, 0, 16, 1, 1, 0, 0⟩ else
 if k = 6 then ⟨true, false, true, false, true, 0, 16, 1, 1, 0, 0⟩ else
 if k = 7 then ⟨false, false, false, false, true, 1, 1, 0, 0, 0, 0⟩ else
 ⟨false, false, false, false, false, 0, 0, 0, 0, 0, 0⟩
set_option maxHeartbeats 2000000 in
theorem termP_any (k : Int) (w : World) : Calls Tryz.prog 174 #[.int .i64 k] w fun e w' => e = .returned (termP k).v ∧ Below w.heap.size w w' := by
 by_cases h1 : k = 1
 · subst h1
   go_enter Tryz.func174, Tryz.ntmps174
   go_wp2
   (try simp only [Exit.inBlock, Exit.then])
   refine bodyPost_ret (by simp [results, Tryz.results174, go_sem]; try rfl) rfl ?_
   exact ⟨rfl, below_new w _⟩
 by_cases h2 : k = 2
 · subst h2
   go_enter Tryz.func174, Tryz.ntmps174
   go_wp2
   (try simp only [Exit.inBlock, Exit.then])
   refine bodyPost_ret (by simp [results, Tryz.results174, go_sem]; try rfl) rfl ?_
   exact ⟨rfl, below_new w _⟩
 by_cases h3 : k = 3
 · subst h3
   go_enter Tryz.func174, Tryz.ntmps174
   go_wp2
   (try simp only [Exit.inBlock, Exit.then])
   refine bodyPost_ret (by simp [results, Tryz.results174, go_sem]; try rfl) rfl ?_
   exact ⟨rfl, below_new w _⟩
 by_cases h4 : k = 4
 · subst h4
   go_enter Tryz.func174, Tryz.ntmps174
   go_wp2
   (try simp only [Exit.inBlock, Exit.then])
   refine bodyPost_ret (by simp [results, Tryz.results174, go_sem]; try rfl) rfl ?_
   exact ⟨rfl, below_new w _⟩
 by_cases h5 : k = 5
 · subst h5
   go_enter Tryz.func174, Tryz.ntmps174
   go_wp2
   (try simp only [Exit.inBlock, Exit.then])
   refine bodyPost_ret (by simp [results, Tryz.results174, go_sem]; try rfl) rfl ?_
   exact ⟨rfl, below_new w _⟩
 by_cases h6 : k = 6
 · subst h6
   go_enter Tryz.func174, Tryz.ntmps174
   go_wp2
   (try simp only [Exit.inBlock, Exit.then])
   refine bodyPost_ret (by simp [results, Tryz.results174, go_sem]; try rfl) rfl ?_
   exact ⟨rfl, below_new w _⟩
 by_cases h7 : k = 7
 · subst h7
   go_enter Tryz.func174, Tryz.ntmps174
   go_wp2
   (try simp only [Exit.inBlock, Exit.then])
   refine bodyPost_ret (by simp [results, Tryz.results174, go_sem]; try rfl) rfl ?_
   exact ⟨rfl, below_new w _⟩
 have e : termP k = ⟨false, false, false, false, false, 0, 0, 0, 0, 0, 0⟩ := by unfold termP; simp [h1, h2, h3, h4, h5, h6, h7]
 rw [e]
 have g1 : (k == 1) = false := by simpa using h1
 have g2 : (k == 2) = false := by simpa using h2
 have g3 : (k == 3) = false := by simpa using h3
 have g4 : (k == 4) = false := by simpa using h4
 have g5 : (k == 5) = false := by simpa using h5
 have g6 : (k == 6) = false := by simpa using h6
 have g7 : (k == 7) = false := by simpa using h7
 clear h1 h2 h3 h4 h5 h6 h7 e
 go_enter Tryz.func174, Tryz.ntmps174
 go_wp2
 (try simp only [Exit.inBlock, Exit.then])
 refine bodyPost_ret (by simp [results, Tryz.results174, go_sem]; try rfl) rfl ?_
 exact ⟨rfl, below_new w _⟩

def stmtR' (s : StmtD) (h : PartsD) : Bool := h.ok && (rplaceR s.to h.dst && (rnumR s.n h.number && (rnameR s.name h.name && (rnameR s.variant h.variant && everyL h.al h.ah placeR s.args))))
def stmtR (s : StmtD) : Bool := stmtR' s (stmtP s.kind)
def termR' (t : TermD) (h : PartsD) : Bool := h.ok && (rplaceR t.to h.dst && (rnameR t.name h.name && (everyL h.al h.ah placeR t.args && (everyL h.bl h.bh nameS t.blocks && everyL h.rl h.rh armR t.arms))))
def termR (t : TermD) : Bool := termR' t (termP t.kind)
def blockR (b : BlockD) : Bool := nameS b.name && (everyL 0 64 stmtR b.stmts && termR b.term)
def structR (s : StructD) : Bool := nameS s.name && everyL 0 16 (varR plainS) s.fields
def enumR (s : EnumD) : Bool := nameS s.name && everyL 1 16 (varR payS) s.variants
def funcR (f : FuncD) : Bool := nameS f.name && (plainS f.result && (everyL 0 16 (varR typeS) f.params && (everyL 0 (24 - (f.params.length : Int)) (varR typeS) f.locals && everyL 1 64 blockR f.blocks)))
def progR (p : ProgD) : Bool := everyL 0 16 structR p.structs && (everyL 0 16 enumR p.enums && everyL 0 16 funcR p.funcs)

set_option maxHeartbeats 2000000 in
set_option maxRecDepth 100000 in
theorem stmt_right (x : StmtX) (w : World) (hx : x.At w) (hf : x.d.Fit) :
 Calls Tryz.prog 137 #[.agg #[.int .i64 x.at_, .int .i64 x.kind, .string x.to.loc, .slice x.to.sa x.to.steps.length x.to.sc, .int .i64 x.n, .string x.name, .string x.variant, .slice x.aa x.args.length x.ac]] w fun e w' => e = .returned (.bool (stmtR x.d)) ∧ Below w.heap.size w w' := by
 have cP : Hid (∀ W, Calls Tryz.prog 169 #[.int .i64 x.kind] W fun e w' => e = .returned (stmtP x.kind).v ∧ Below W.heap.size W w') := hidIt fun W => stmtP_any x.kind W
 have eQ : stmtR x.d = stmtR' x.d (stmtP x.kind) := rfl
 rw [eQ]
 clear eQ
 generalize stmtP x.kind = pp at cP ⊢
 obtain ⟨dst, number, name, variant, ok, al, ah, bl, bh, rl, rh⟩ := pp
 simp only [PartsD.v] at cP
 have c0 : Hid (∀ W, Below w.heap.size w W → Calls Tryz.prog 170 #[.agg #[.string x.to.loc, .slice x.to.sa x.to.steps.length x.to.sc], .bool dst] W fun e w' => e = .returned (.bool (rplaceR x.to.d dst)) ∧ Below W.heap.size W w') := hidIt fun W hW => rplace_any x.to dst W (PlaceX.At.on hx.1 hW) hf.1
 have c1 : Hid (∀ W, Below w.heap.size w W → Calls Tryz.prog 171 #[.int .i64 x.n, .bool number] W fun e w' => e = .returned (.bool (rnumR x.n number)) ∧ Below W.heap.size W w') := hidIt fun W hW => rnum_any x.n number W
 have c2 : Hid (∀ W, Below w.heap.size w W → Calls Tryz.prog 172 #[.string x.name, .bool name] W fun e w' => e = .returned (.bool (rnameR x.name name)) ∧ Below W.heap.size W w') := hidIt fun W hW => optname_any x.name name hf.2.1 W
 have c3 : Hid (∀ W, Below w.heap.size w W → Calls Tryz.prog 172 #[.string x.variant, .bool variant] W fun e w' => e = .returned (.bool (rnameR x.variant variant)) ∧ Below W.heap.size W w') := hidIt fun W hW => optname_any x.variant variant hf.2.2.1 W
 have c4 : Hid (∀ W, Below w.heap.size w W → Calls Tryz.prog 173 #[.slice x.aa x.args.length x.ac, .agg #[.int .i64 al, .int .i64 ah], .func (.func 36) #[] #[]] W fun e w' => e = .returned (.bool (everyL al ah (fun p => placeR p.d) x.args)) ∧ Below W.heap.size W w') := hidIt fun W hW => every0_place _ _ _ _ _ _ _ _ (fun args w => by kernel_rfl) (Pls.on hx.2 hW) fun W2 p hp hW2 => place_right p W2 ((PlaceX.At.on (hx.2.2 p hp) hW).on hW2) (hf.2.2.2 p.d (List.mem_map_of_mem hp))
 obtain ⟨v0, v1, v2, v3, v4, e0, e1, e2, e3, e4, eR⟩ : ∃ v0 v1 v2 v3 v4 : Bool, (rplaceR x.to.d dst) = v0 ∧ (rnumR x.n number) = v1 ∧ (rnameR x.name name) = v2 ∧ (rnameR x.variant variant) = v3 ∧ (everyL al ah (fun p => placeR p.d) x.args) = v4 ∧ (stmtR' x.d ⟨dst, number, name, variant, ok, al, ah, bl, bh, rl, rh⟩) = (ok && (v0 && (v1 && (v2 && (v3 && (v4)))))) := ⟨_, _, _, _, _, rfl, rfl, rfl, rfl, rfl, by simp only [stmtR', StmtX.d, everyL_map]⟩
 rw [eR]
 clear eR hx hf
 rw [e0] at c0
 clear e0
 rw [e1] at c1
 clear e1
 rw [e2] at c2
 clear e2
 rw [e3] at c3
 clear e3
 rw [e4] at c4
 clear e4
 have hb := hidIt (below_new w (.cells #[.int .i64 x.at_, .int .i64 x.kind, .string x.to.loc, .slice x.to.sa x.to.steps.length x.to.sc, .int .i64 x.n, .string x.name, .string x.variant, .slice x.aa x.args.length x.ac] 68))
 have H1 := hidIt (heap_alloc_new w (.cells #[.int .i64 x.at_, .int .i64 x.kind, .string x.to.loc, .slice x.to.sa x.to.steps.length x.to.sc, .int .i64 x.n, .string x.name, .string x.variant, .slice x.aa x.args.length x.ac] 68))
 cases ok
 · clear c0 c1 c2 c3 c4
   go_enter Tryz.func137, Tryz.ntmps137
   go_wp2_with (go_at_call 169; refine (cP.out _).mono ?_)
   rintro e w9 ⟨rfl, hq⟩
   have hb := hidIt (below_next hb.out hq)
   have H1 := hidIt (heap_on H1.out hq)
   clear hq cP
   have H1 := hidIt (heap_on H1.out (below_new w9 (.cells #[.bool dst, .bool number, .bool name, .bool variant, .int .i64 al, .int .i64 ah, .int .i64 bl, .int .i64 bh, .int .i64 rl, .int .i64 rh] 193)))
   have H2 := hidIt (heap_alloc_new w9 (.cells #[.bool dst, .bool number, .bool name, .bool variant, .int .i64 al, .int .i64 ah, .int .i64 bl, .int .i64 bh, .int .i64 rl, .int .i64 rh] 193))
   have hb := hidIt (below_next hb.out (below_new w9 (.cells #[.bool dst, .bool number, .bool name, .bool variant, .int .i64 al, .int .i64 ah, .int .i64 bl, .int .i64 bh, .int .i64 rl, .int .i64 rh] 193)))
   obtain ⟨p0, p1, p2, p3, p4, p5, p6, p7⟩ := cells_8 H1.out
   obtain ⟨q0, q1, q2, q3, q4, q5, q6, q7, q8, q9⟩ := cells_10 H2.out
   go_wp2
   go_ret
   exact ⟨rfl, hb.out⟩
 cases v0
 · clear c1 c2 c3 c4
   go_enter Tryz.func137, Tryz.ntmps137
   go_wp2_with (go_at_call 169; refine (cP.out _).mono ?_)
   rintro e w9 ⟨rfl, hq⟩
   have hb := hidIt (below_next hb.out hq)
   have H1 := hidIt (heap_on H1.out hq)
   clear hq cP
   have H1 := hidIt (heap_on H1.out (below_new w9 (.cells #[.bool dst, .bool number, .bool name, .bool variant, .int .i64 al, .int .i64 ah, .int .i64 bl, .int .i64 bh, .int .i64 rl, .int .i64 rh] 193)))
   have H2 := hidIt (heap_alloc_new w9 (.cells #[.bool dst, .bool number, .bool name, .bool variant, .int .i64 al, .int .i64 ah, .int .i64 bl, .int .i64 bh, .int .i64 rl, .int .i64 rh] 193))
   have hb := hidIt (below_next hb.out (below_new w9 (.cells #[.bool dst, .bool number, .bool name, .bool variant, .int .i64 al, .int .i64 ah, .int .i64 bl, .int .i64 bh, .int .i64 rl, .int .i64 rh] 193)))
   obtain ⟨p0, p1, p2, p3, p4, p5, p6, p7⟩ := cells_8 H1.out
   obtain ⟨q0, q1, q2, q3, q4, q5, q6, q7, q8, q9⟩ := cells_10 H2.out
   go_wp2_with (go_at_call 170; refine (c0.out _ hb.out).mono ?_)
   rintro e w0 ⟨rfl, hq⟩
   have hb := hidIt (below_next hb.out hq)
   have H1 := hidIt (heap_on H1.out hq)
   have H2 := hidIt (heap_on H2.out hq)
   clear hq c0
   obtain ⟨p0, p1, p2, p3, p4, p5, p6, p7⟩ := cells_8 H1.out
   obtain ⟨q0, q1, q2, q3, q4, q5, q6, q7, q8, q9⟩ := cells_10 H2.out
   go_wp2
   go_ret
   exact ⟨rfl, hb.out⟩
 cases v1
 · clear c2 c3 c4
   go_enter Tryz.func137, Tryz.ntmps137
   go_wp2_with (go_at_call 169; refine (cP.out _).mono ?_)
   rintro e w9 ⟨rfl, hq⟩
   have hb := hidIt (below_next hb.out hq)
   have H1 := hidIt (heap_on H1.out hq)
   clear hq cP
   have H1 := hidIt (heap_on H1.out (below_new w9 (.cells #[.bool dst, .bool number, .bool name, .bool variant, .int .i64 al, .int .i64 ah, .int .i64 bl, .int .i64 bh, .int .i64 rl, .int .i64 rh] 193)))
   have H2 := hidIt (heap_alloc_new w9 (.cells #[.bool dst, .bool number, .bool name, .bool variant, .int .i64 al, .int .i64 ah, .int .i64 bl, .int .i64 bh, .int .i64 rl, .int .i64 rh] 193))
   have hb := hidIt (below_next hb.out (below_new w9 (.cells #[.bool dst, .bool number, .bool name, .bool variant, .int .i64 al, .int .i64 ah, .int .i64 bl, .int .i64 bh, .int .i64 rl, .int .i64 rh] 193)))
   obtain ⟨p0, p1, p2, p3, p4, p5, p6, p7⟩ := cells_8 H1.out
   obtain ⟨q0, q1, q2, q3, q4, q5, q6, q7, q8, q9⟩ := cells_10 H2.out
   go_wp2_with (go_at_call 170; refine (c0.out _ hb.out).mono ?_)
   rintro e w0 ⟨rfl, hq⟩
   have hb := hidIt (below_next hb.out hq)
   have H1 := hidIt (heap_on H1.out hq)
   have H2 := hidIt (heap_on H2.out hq)
   clear hq c0
   obtain ⟨p0, p1, p2, p3, p4, p5, p6, p7⟩ := cells_8 H1.out
   obtain ⟨q0, q1, q2, q3, q4, q5, q6, q7, q8, q9⟩ := cells_10 H2.out
   go_wp2_with (go_at_call 171; refine (c1.out _ hb.out).mono ?_)
   rintro e w1 ⟨rfl, hq⟩
   have hb := hidIt (below_next hb.out hq)
   have H1 := hidIt (heap_on H1.out hq)
   have H2 := hidIt (heap_on H2.out hq)
   clear hq c1
   obtain ⟨p0, p1, p2, p3, p4, p5, p6, p7⟩ := cells_8 H1.out
   obtain ⟨q0, q1, q2, q3, q4, q5, q6, q7, q8, q9⟩ := cells_10 H2.out
   go_wp2
   go_ret
   exact ⟨rfl, hb.out⟩
 cases v2
 · clear c3 c4
   go_enter Tryz.func137, Tryz.ntmps137
   go_wp2_with (go_at_call 169; refine (cP.out _).mono ?_)
   rintro e w9 ⟨rfl, hq⟩
   have hb := hidIt (below_next hb.out hq)
   have H1 := hidIt (heap_on H1.out hq)
   clear hq cP
   have H1 := hidIt (heap_on H1.out (below_new w9 (.cells #[.bool dst, .bool number, .bool name, .bool variant, .int .i64 al, .int .i64 ah, .int .i64 bl, .int .i64 bh, .int .i64 rl, .int .i64 rh] 193)))
   have H2 := hidIt (heap_alloc_new w9 (.cells #[.bool dst, .bool number, .bool name, .bool variant, .int .i64 al, .int .i64 ah, .int .i64 bl, .int .i64 bh, .int .i64 rl, .int .i64 rh] 193))
   have hb := hidIt (below_next hb.out (below_new w9 (.cells #[.bool dst, .bool number, .bool name, .bool variant, .int .i64 al, .int .i64 ah, .int .i64 bl, .int .i64 bh, .int .i64 rl, .int .i64 rh] 193)))
   obtain ⟨p0, p1, p2, p3, p4, p5, p6, p7⟩ := cells_8 H1.out
   obtain ⟨q0, q1, q2, q3, q4, q5, q6, q7, q8, q9⟩ := cells_10 H2.out
   go_wp2_with (go_at_call 170; refine (c0.out _ hb.out).mono ?_)
   rintro e w0 ⟨rfl, hq⟩
   have hb := hidIt (below_next hb.out hq)
   have H1 := hidIt (heap_on H1.out hq)
   have H2 := hidIt (heap_on H2.out hq)
   clear hq c0
   obtain ⟨p0, p1, p2, p3, p4, p5, p6, p7⟩ := cells_8 H1.out
   obtain ⟨q0, q1, q2, q3, q4, q5, q6, q7, q8, q9⟩ := cells_10 H2.out
   go_wp2_with (go_at_call 171; refine (c1.out _ hb.out).mono ?_)
   rintro e w1 ⟨rfl, hq⟩
   have hb := hidIt (below_next hb.out hq)
   have H1 := hidIt (heap_on H1.out hq)
   have H2 := hidIt (heap_on H2.out hq)
   clear hq c1
   obtain ⟨p0, p1, p2, p3, p4, p5, p6, p7⟩ := cells_8 H1.out
   obtain ⟨q0, q1, q2, q3, q4, q5, q6, q7, q8, q9⟩ := cells_10 H2.out
   go_wp2_with (go_at_call 172; refine (c2.out _ hb.out).mono ?_)
   rintro e w2 ⟨rfl, hq⟩
   have hb := hidIt (below_next hb.out hq)
   have H1 := hidIt (heap_on H1.out hq)
   have H2 := hidIt (heap_on H2.out hq)
   clear hq c2
   obtain ⟨p0, p1, p2, p3, p4, p5, p6, p7⟩ := cells_8 H1.out
   obtain ⟨q0, q1, q2, q3, q4, q5, q6, q7, q8, q9⟩ := cells_10 H2.out
   go_wp2
   go_ret
   exact ⟨rfl, hb.out⟩
 cases v3
 · clear c4
   go_enter Tryz.func137, Tryz.ntmps137
   go_wp2_with (go_at_call 169; refine (cP.out _).mono ?_)
   rintro e w9 ⟨rfl, hq⟩
   have hb := hidIt (below_next hb.out hq)
   have H1 := hidIt (heap_on H1.out hq)
   clear hq cP
   have H1 := hidIt (heap_on H1.out (below_new w9 (.cells #[.bool dst, .bool number, .bool name, .bool variant, .int .i64 al, .int .i64 ah, .int .i64 bl, .int .i64 bh, .int .i64 rl, .int .i64 rh] 193)))
   have H2 := hidIt (heap_alloc_new w9 (.cells #[.bool dst, .bool number, .bool name, .bool variant, .int .i64 al, .int .i64 ah, .int .i64 bl, .int .i64 bh, .int .i64 rl, .int .i64 rh] 193))
   have hb := hidIt (below_next hb.out (below_new w9 (.cells #[.bool dst, .bool number, .bool name, .bool variant, .int .i64 al, .int .i64 ah, .int .i64 bl, .int .i64 bh, .int .i64 rl, .int .i64 rh] 193)))
   obtain ⟨p0, p1, p2, p3, p4, p5, p6, p7⟩ := cells_8 H1.out
   obtain ⟨q0, q1, q2, q3, q4, q5, q6, q7, q8, q9⟩ := cells_10 H2.out
   go_wp2_with (go_at_call 170; refine (c0.out _ hb.out).mono ?_)
   rintro e w0 ⟨rfl, hq⟩
   have hb := hidIt (below_next hb.out hq)
   have H1 := hidIt (heap_on H1.out hq)
   have H2 := hidIt (heap_on H2.out hq)
   clear hq c0
   obtain ⟨p0, p1, p2, p3, p4, p5, p6, p7⟩ := cells_8 H1.out
   obtain ⟨q0, q1, q2, q3, q4, q5, q6, q7, q8, q9⟩ := cells_10 H2.out
   go_wp2_with (go_at_call 171; refine (c1.out _ hb.out).mono ?_)
   rintro e w1 ⟨rfl, hq⟩
   have hb := hidIt (below_next hb.out hq)
   have H1 := hidIt (heap_on H1.out hq)
   have H2 := hidIt (heap_on H2.out hq)
   clear hq c1
   obtain ⟨p0, p1, p2, p3, p4, p5, p6, p7⟩ := cells_8 H1.out
   obtain ⟨q0, q1, q2, q3, q4, q5, q6, q7, q8, q9⟩ := cells_10 H2.out
   go_wp2_with (go_at_call 172; refine (c2.out _ hb.out).mono ?_)
   rintro e w2 ⟨rfl, hq⟩
   have hb := hidIt (below_next hb.out hq)
   have H1 := hidIt (heap_on H1.out hq)
   have H2 := hidIt (heap_on H2.out hq)
   clear hq c2
   obtain ⟨p0, p1, p2, p3, p4, p5, p6, p7⟩ := cells_8 H1.out
   obtain ⟨q0, q1, q2, q3, q4, q5, q6, q7, q8, q9⟩ := cells_10 H2.out
   go_wp2_with (go_at_call 172; refine (c3.out _ hb.out).mono ?_)
   rintro e w3 ⟨rfl, hq⟩
   have hb := hidIt (below_next hb.out hq)
   have H1 := hidIt (heap_on H1.out hq)
   have H2 := hidIt (heap_on H2.out hq)
   clear hq c3
   obtain ⟨p0, p1, p2, p3, p4, p5, p6, p7⟩ := cells_8 H1.out
   obtain ⟨q0, q1, q2, q3, q4, q5, q6, q7, q8, q9⟩ := cells_10 H2.out
   go_wp2
   go_ret
   exact ⟨rfl, hb.out⟩
 cases v4
 · go_enter Tryz.func137, Tryz.ntmps137
   go_wp2_with (go_at_call 169; refine (cP.out _).mono ?_)
   rintro e w9 ⟨rfl, hq⟩
   have hb := hidIt (below_next hb.out hq)
   have H1 := hidIt (heap_on H1.out hq)
   clear hq cP
   have H1 := hidIt (heap_on H1.out (below_new w9 (.cells #[.bool dst, .bool number, .bool name, .bool variant, .int .i64 al, .int .i64 ah, .int .i64 bl, .int .i64 bh, .int .i64 rl, .int .i64 rh] 193)))
   have H2 := hidIt (heap_alloc_new w9 (.cells #[.bool dst, .bool number, .bool name, .bool variant, .int .i64 al, .int .i64 ah, .int .i64 bl, .int .i64 bh, .int .i64 rl, .int .i64 rh] 193))
   have hb := hidIt (below_next hb.out (below_new w9 (.cells #[.bool dst, .bool number, .bool name, .bool variant, .int .i64 al, .int .i64 ah, .int .i64 bl, .int .i64 bh, .int .i64 rl, .int .i64 rh] 193)))
   obtain ⟨p0, p1, p2, p3, p4, p5, p6, p7⟩ := cells_8 H1.out
   obtain ⟨q0, q1, q2, q3, q4, q5, q6, q7, q8, q9⟩ := cells_10 H2.out
   go_wp2_with (go_at_call 170; refine (c0.out _ hb.out).mono ?_)
   rintro e w0 ⟨rfl, hq⟩
   have hb := hidIt (below_next hb.out hq)
   have H1 := hidIt (heap_on H1.out hq)
   have H2 := hidIt (heap_on H2.out hq)
   clear hq c0
   obtain ⟨p0, p1, p2, p3, p4, p5, p6, p7⟩ := cells_8 H1.out
   obtain ⟨q0, q1, q2, q3, q4, q5, q6, q7, q8, q9⟩ := cells_10 H2.out
   go_wp2_with (go_at_call 171; refine (c1.out _ hb.out).mono ?_)
   rintro e w1 ⟨rfl, hq⟩
   have hb := hidIt (below_next hb.out hq)
   have H1 := hidIt (heap_on H1.out hq)
   have H2 := hidIt (heap_on H2.out hq)
   clear hq c1
   obtain ⟨p0, p1, p2, p3, p4, p5, p6, p7⟩ := cells_8 H1.out
   obtain ⟨q0, q1, q2, q3, q4, q5, q6, q7, q8, q9⟩ := cells_10 H2.out
   go_wp2_with (go_at_call 172; refine (c2.out _ hb.out).mono ?_)
   rintro e w2 ⟨rfl, hq⟩
   have hb := hidIt (below_next hb.out hq)
   have H1 := hidIt (heap_on H1.out hq)
   have H2 := hidIt (heap_on H2.out hq)
   clear hq c2
   obtain ⟨p0, p1, p2, p3, p4, p5, p6, p7⟩ := cells_8 H1.out
   obtain ⟨q0, q1, q2, q3, q4, q5, q6, q7, q8, q9⟩ := cells_10 H2.out
   go_wp2_with (go_at_call 172; refine (c3.out _ hb.out).mono ?_)
   rintro e w3 ⟨rfl, hq⟩
   have hb := hidIt (below_next hb.out hq)
   have H1 := hidIt (heap_on H1.out hq)
   have H2 := hidIt (heap_on H2.out hq)
   clear hq c3
   obtain ⟨p0, p1, p2, p3, p4, p5, p6, p7⟩ := cells_8 H1.out
   obtain ⟨q0, q1, q2, q3, q4, q5, q6, q7, q8, q9⟩ := cells_10 H2.out
   go_wp2_with (go_at_call 173; refine (c4.out _ hb.out).mono ?_)
   rintro e w4 ⟨rfl, hq⟩
   have hb := hidIt (below_next hb.out hq)
   have H1 := hidIt (heap_on H1.out hq)
   have H2 := hidIt (heap_on H2.out hq)
   clear hq c4
   obtain ⟨p0, p1, p2, p3, p4, p5, p6, p7⟩ := cells_8 H1.out
   obtain ⟨q0, q1, q2, q3, q4, q5, q6, q7, q8, q9⟩ := cells_10 H2.out
   go_wp2
   go_ret
   exact ⟨rfl, hb.out⟩
 go_enter Tryz.func137, Tryz.ntmps137
 go_wp2_with (go_at_call 169; refine (cP.out _).mono ?_)
 rintro e w9 ⟨rfl, hq⟩
 have hb := hidIt (below_next hb.out hq)
 have H1 := hidIt (heap_on H1.out hq)
 clear hq cP
 have H1 := hidIt (heap_on H1.out (below_new w9 (.cells #[.bool dst, .bool number, .bool name, .bool variant, .int .i64 al, .int .i64 ah, .int .i64 bl, .int .i64 bh, .int .i64 rl, .int .i64 rh] 193)))
 have H2 := hidIt (heap_alloc_new w9 (.cells #[.bool dst, .bool number, .bool name, .bool variant, .int .i64 al, .int .i64 ah, .int .i64 bl, .int .i64 bh, .int .i64 rl, .int .i64 rh] 193))
 have hb := hidIt (below_next hb.out (below_new w9 (.cells #[.bool dst, .bool number, .bool name, .bool variant, .int .i64 al, .int .i64 ah, .int .i64 bl, .int .i64 bh, .int .i64 rl, .int .i64 rh] 193)))
 obtain ⟨p0, p1, p2, p3, p4, p5, p6, p7⟩ := cells_8 H1.out
 obtain ⟨q0, q1, q2, q3, q4, q5, q6, q7, q8, q9⟩ := cells_10 H2.out
 go_wp2_with (go_at_call 170; refine (c0.out _ hb.out).mono ?_)
 rintro e w0 ⟨rfl, hq⟩
 have hb := hidIt (below_next hb.out hq)
 have H1 := hidIt (heap_on H1.out hq)
 have H2 := hidIt (heap_on H2.out hq)
 clear hq c0
 obtain ⟨p0, p1, p2, p3, p4, p5, p6, p7⟩ := cells_8 H1.out
 obtain ⟨q0, q1, q2, q3, q4, q5, q6, q7, q8, q9⟩ := cells_10 H2.out
 go_wp2_with (go_at_call 171; refine (c1.out _ hb.out).mono ?_)
 rintro e w1 ⟨rfl, hq⟩
 have hb := hidIt (below_next hb.out hq)
 have H1 := hidIt (heap_on H1.out hq)
 have H2 := hidIt (heap_on H2.out hq)
 clear hq c1
 obtain ⟨p0, p1, p2, p3, p4, p5, p6, p7⟩ := cells_8 H1.out
 obtain ⟨q0, q1, q2, q3, q4, q5, q6, q7, q8, q9⟩ := cells_10 H2.out
 go_wp2_with (go_at_call 172; refine (c2.out _ hb.out).mono ?_)
 rintro e w2 ⟨rfl, hq⟩
 have hb := hidIt (below_next hb.out hq)
 have H1 := hidIt (heap_on H1.out hq)
 have H2 := hidIt (heap_on H2.out hq)
 clear hq c2
 obtain ⟨p0, p1, p2, p3, p4, p5, p6, p7⟩ := cells_8 H1.out
 obtain ⟨q0, q1, q2, q3, q4, q5, q6, q7, q8, q9⟩ := cells_10 H2.out
 go_wp2_with (go_at_call 172; refine (c3.out _ hb.out).mono ?_)
 rintro e w3 ⟨rfl, hq⟩
 have hb := hidIt (below_next hb.out hq)
 have H1 := hidIt (heap_on H1.out hq)
 have H2 := hidIt (heap_on H2.out hq)
 clear hq c3
 obtain ⟨p0, p1, p2, p3, p4, p5, p6, p7⟩ := cells_8 H1.out
 obtain ⟨q0, q1, q2, q3, q4, q5, q6, q7, q8, q9⟩ := cells_10 H2.out
 go_wp2_with (go_at_call 173; refine (c4.out _ hb.out).mono ?_)
 rintro e w4 ⟨rfl, hq⟩
 have hb := hidIt (below_next hb.out hq)
 have H1 := hidIt (heap_on H1.out hq)
 have H2 := hidIt (heap_on H2.out hq)
 clear hq c4
 obtain ⟨p0, p1, p2, p3, p4, p5, p6, p7⟩ := cells_8 H1.out
 obtain ⟨q0, q1, q2, q3, q4, q5, q6, q7, q8, q9⟩ := cells_10 H2.out
 go_wp2
 go_ret
 exact ⟨rfl, hb.out⟩

set_option maxHeartbeats 2000000 in
set_option maxRecDepth 100000 in
theorem term_right (x : TermX) (w : World) (hx : x.At w) (hf : x.d.Fit) :
 Calls Tryz.prog 138 #[.agg #[.int .i64 x.at_, .int .i64 x.kind, .string x.to.loc, .slice x.to.sa x.to.steps.length x.to.sc, .string x.name, .slice x.aa x.args.length x.ac, .slice x.ba x.blocks.length x.bc, .slice x.ra x.arms.length x.rc]] w fun e w' => e = .returned (.bool (termR x.d)) ∧ Below w.heap.size w w' := by
 have cP : Hid (∀ W, Calls Tryz.prog 174 #[.int .i64 x.kind] W fun e w' => e = .returned (termP x.kind).v ∧ Below W.heap.size W w') := hidIt fun W => termP_any x.kind W
 have eQ : termR x.d = termR' x.d (termP x.kind) := rfl
 rw [eQ]
 clear eQ
 generalize termP x.kind = pp at cP ⊢
 obtain ⟨dst, number, name, variant, ok, al, ah, bl, bh, rl, rh⟩ := pp
 simp only [PartsD.v] at cP
 have c0 : Hid (∀ W, Below w.heap.size w W → Calls Tryz.prog 170 #[.agg #[.string x.to.loc, .slice x.to.sa x.to.steps.length x.to.sc], .bool dst] W fun e w' => e = .returned (.bool (rplaceR x.to.d dst)) ∧ Below W.heap.size W w') := hidIt fun W hW => rplace_any x.to dst W (PlaceX.At.on hx.1 hW) hf.1
 have c1 : Hid (∀ W, Below w.heap.size w W → Calls Tryz.prog 172 #[.string x.name, .bool name] W fun e w' => e = .returned (.bool (rnameR x.name name)) ∧ Below W.heap.size W w') := hidIt fun W hW => optname_any x.name name hf.2.1 W
 have c2 : Hid (∀ W, Below w.heap.size w W → Calls Tryz.prog 173 #[.slice x.aa x.args.length x.ac, .agg #[.int .i64 al, .int .i64 ah], .func (.func 36) #[] #[]] W fun e w' => e = .returned (.bool (everyL al ah (fun p => placeR p.d) x.args)) ∧ Below W.heap.size W w') := hidIt fun W hW => every0_place _ _ _ _ _ _ _ _ (fun args w => by kernel_rfl) (Pls.on hx.2.1 hW) fun W2 p hp hW2 => place_right p W2 ((PlaceX.At.on (hx.2.1.2 p hp) hW).on hW2) (hf.2.2.1 p.d (List.mem_map_of_mem hp))
 have c3 : Hid (∀ W, Below w.heap.size w W → Calls Tryz.prog 83 #[.slice x.ba x.blocks.length x.bc, .agg #[.int .i64 bl, .int .i64 bh], .func (.func 82) #[] #[]] W fun e w' => e = .returned (.bool (everyL bl bh nameS x.blocks)) ∧ Below W.heap.size W w') := hidIt fun W hW => every0_string _ _ _ _ _ _ _ _ (fun args w => by kernel_rfl) (St.on hx.2.2.1 hW) fun W2 s hs _ => isName_any s (fit_le (hf.2.2.2.1 s hs)) W2
 have c4 : Hid (∀ W, Below w.heap.size w W → Calls Tryz.prog 175 #[.slice x.ra x.arms.length x.rc, .agg #[.int .i64 rl, .int .i64 rh], .func (.func 176) #[] #[]] W fun e w' => e = .returned (.bool (everyL rl rh armR x.arms)) ∧ Below W.heap.size W w') := hidIt fun W hW => every0_arm _ _ _ _ _ _ _ _ (fun args w => by kernel_rfl) (Ars.on hx.2.2.2 hW) fun W2 s hs _ => arm_right s W2 (hf.2.2.2.2 s hs)
 obtain ⟨v0, v1, v2, v3, v4, e0, e1, e2, e3, e4, eR⟩ : ∃ v0 v1 v2 v3 v4 : Bool, (rplaceR x.to.d dst) = v0 ∧ (rnameR x.name name) = v1 ∧ (everyL al ah (fun p => placeR p.d) x.args) = v2 ∧ (everyL bl bh nameS x.blocks) = v3 ∧ (everyL rl rh armR x.arms) = v4 ∧ (termR' x.d ⟨dst, number, name, variant, ok, al, ah, bl, bh, rl, rh⟩) = (ok && (v0 && (v1 && (v2 && (v3 && (v4)))))) := ⟨_, _, _, _, _, rfl, rfl, rfl, rfl, rfl, by simp only [termR', TermX.d, everyL_map]⟩
 rw [eR]
 clear eR hx hf
 rw [e0] at c0
 clear e0
 rw [e1] at c1
 clear e1
 rw [e2] at c2
 clear e2
 rw [e3] at c3
 clear e3
 rw [e4] at c4
 clear e4
 have hb := hidIt (below_new w (.cells #[.int .i64 x.at_, .int .i64 x.kind, .string x.to.loc, .slice x.to.sa x.to.steps.length x.to.sc, .string x.name, .slice x.aa x.args.length x.ac, .slice x.ba x.blocks.length x.bc, .slice x.ra x.arms.length x.rc] 61))
 have H1 := hidIt (heap_alloc_new w (.cells #[.int .i64 x.at_, .int .i64 x.kind, .string x.to.loc, .slice x.to.sa x.to.steps.length x.to.sc, .string x.name, .slice x.aa x.args.length x.ac, .slice x.ba x.blocks.length x.bc, .slice x.ra x.arms.length x.rc] 61))
 cases ok
 · clear c0 c1 c2 c3 c4
   go_enter Tryz.func138, Tryz.ntmps138
   go_wp2_with (go_at_call 174; refine (cP.out _).mono ?_)
   rintro e w9 ⟨rfl, hq⟩
   have hb := hidIt (below_next hb.out hq)
   have H1 := hidIt (heap_on H1.out hq)
   clear hq cP
   have H1 := hidIt (heap_on H1.out (below_new w9 (.cells #[.bool dst, .bool number, .bool name, .bool variant, .int .i64 al, .int .i64 ah, .int .i64 bl, .int .i64 bh, .int .i64 rl, .int .i64 rh] 193)))
   have H2 := hidIt (heap_alloc_new w9 (.cells #[.bool dst, .bool number, .bool name, .bool variant, .int .i64 al, .int .i64 ah, .int .i64 bl, .int .i64 bh, .int .i64 rl, .int .i64 rh] 193))
   have hb := hidIt (below_next hb.out (below_new w9 (.cells #[.bool dst, .bool number, .bool name, .bool variant, .int .i64 al, .int .i64 ah, .int .i64 bl, .int .i64 bh, .int .i64 rl, .int .i64 rh] 193)))
   obtain ⟨p0, p1, p2, p3, p4, p5, p6, p7⟩ := cells_8 H1.out
   obtain ⟨q0, q1, q2, q3, q4, q5, q6, q7, q8, q9⟩ := cells_10 H2.out
   go_wp2
   go_ret
   exact ⟨rfl, hb.out⟩
 cases v0
 · clear c1 c2 c3 c4
   go_enter Tryz.func138, Tryz.ntmps138
   go_wp2_with (go_at_call 174; refine (cP.out _).mono ?_)
   rintro e w9 ⟨rfl, hq⟩
   have hb := hidIt (below_next hb.out hq)
   have H1 := hidIt (heap_on H1.out hq)
   clear hq cP
   have H1 := hidIt (heap_on H1.out (below_new w9 (.cells #[.bool dst, .bool number, .bool name, .bool variant, .int .i64 al, .int .i64 ah, .int .i64 bl, .int .i64 bh, .int .i64 rl, .int .i64 rh] 193)))
   have H2 := hidIt (heap_alloc_new w9 (.cells #[.bool dst, .bool number, .bool name, .bool variant, .int .i64 al, .int .i64 ah, .int .i64 bl, .int .i64 bh, .int .i64 rl, .int .i64 rh] 193))
   have hb := hidIt (below_next hb.out (below_new w9 (.cells #[.bool dst, .bool number, .bool name, .bool variant, .int .i64 al, .int .i64 ah, .int .i64 bl, .int .i64 bh, .int .i64 rl, .int .i64 rh] 193)))
   obtain ⟨p0, p1, p2, p3, p4, p5, p6, p7⟩ := cells_8 H1.out
   obtain ⟨q0, q1, q2, q3, q4, q5, q6, q7, q8, q9⟩ := cells_10 H2.out
   go_wp2_with (go_at_call 170; refine (c0.out _ hb.out).mono ?_)
   rintro e w0 ⟨rfl, hq⟩
   have hb := hidIt (below_next hb.out hq)
   have H1 := hidIt (heap_on H1.out hq)
   have H2 := hidIt (heap_on H2.out hq)
   clear hq c0
   obtain ⟨p0, p1, p2, p3, p4, p5, p6, p7⟩ := cells_8 H1.out
   obtain ⟨q0, q1, q2, q3, q4, q5, q6, q7, q8, q9⟩ := cells_10 H2.out
   go_wp2
   go_ret
   exact ⟨rfl, hb.out⟩
 cases v1
 · clear c2 c3 c4
   go_enter Tryz.func138, Tryz.ntmps138
   go_wp2_with (go_at_call 174; refine (cP.out _).mono ?_)
   rintro e w9 ⟨rfl, hq⟩
   have hb := hidIt (below_next hb.out hq)
   have H1 := hidIt (heap_on H1.out hq)
   clear hq cP
   have H1 := hidIt (heap_on H1.out (below_new w9 (.cells #[.bool dst, .bool number, .bool name, .bool variant, .int .i64 al, .int .i64 ah, .int .i64 bl, .int .i64 bh, .int .i64 rl, .int .i64 rh] 193)))
   have H2 := hidIt (heap_alloc_new w9 (.cells #[.bool dst, .bool number, .bool name, .bool variant, .int .i64 al, .int .i64 ah, .int .i64 bl, .int .i64 bh, .int .i64 rl, .int .i64 rh] 193))
   have hb := hidIt (below_next hb.out (below_new w9 (.cells #[.bool dst, .bool number, .bool name, .bool variant, .int .i64 al, .int .i64 ah, .int .i64 bl, .int .i64 bh, .int .i64 rl, .int .i64 rh] 193)))
   obtain ⟨p0, p1, p2, p3, p4, p5, p6, p7⟩ := cells_8 H1.out
   obtain ⟨q0, q1, q2, q3, q4, q5, q6, q7, q8, q9⟩ := cells_10 H2.out
   go_wp2_with (go_at_call 170; refine (c0.out _ hb.out).mono ?_)
   rintro e w0 ⟨rfl, hq⟩
   have hb := hidIt (below_next hb.out hq)
   have H1 := hidIt (heap_on H1.out hq)
   have H2 := hidIt (heap_on H2.out hq)
   clear hq c0
   obtain ⟨p0, p1, p2, p3, p4, p5, p6, p7⟩ := cells_8 H1.out
   obtain ⟨q0, q1, q2, q3, q4, q5, q6, q7, q8, q9⟩ := cells_10 H2.out
   go_wp2_with (go_at_call 172; refine (c1.out _ hb.out).mono ?_)
   rintro e w1 ⟨rfl, hq⟩
   have hb := hidIt (below_next hb.out hq)
   have H1 := hidIt (heap_on H1.out hq)
   have H2 := hidIt (heap_on H2.out hq)
   clear hq c1
   obtain ⟨p0, p1, p2, p3, p4, p5, p6, p7⟩ := cells_8 H1.out
   obtain ⟨q0, q1, q2, q3, q4, q5, q6, q7, q8, q9⟩ := cells_10 H2.out
   go_wp2
   go_ret
   exact ⟨rfl, hb.out⟩
 cases v2
 · clear c3 c4
   go_enter Tryz.func138, Tryz.ntmps138
   go_wp2_with (go_at_call 174; refine (cP.out _).mono ?_)
   rintro e w9 ⟨rfl, hq⟩
   have hb := hidIt (below_next hb.out hq)
   have H1 := hidIt (heap_on H1.out hq)
   clear hq cP
   have H1 := hidIt (heap_on H1.out (below_new w9 (.cells #[.bool dst, .bool number, .bool name, .bool variant, .int .i64 al, .int .i64 ah, .int .i64 bl, .int .i64 bh, .int .i64 rl, .int .i64 rh] 193)))
   have H2 := hidIt (heap_alloc_new w9 (.cells #[.bool dst, .bool number, .bool name, .bool variant, .int .i64 al, .int .i64 ah, .int .i64 bl, .int .i64 bh, .int .i64 rl, .int .i64 rh] 193))
   have hb := hidIt (below_next hb.out (below_new w9 (.cells #[.bool dst, .bool number, .bool name, .bool variant, .int .i64 al, .int .i64 ah, .int .i64 bl, .int .i64 bh, .int .i64 rl, .int .i64 rh] 193)))
   obtain ⟨p0, p1, p2, p3, p4, p5, p6, p7⟩ := cells_8 H1.out
   obtain ⟨q0, q1, q2, q3, q4, q5, q6, q7, q8, q9⟩ := cells_10 H2.out
   go_wp2_with (go_at_call 170; refine (c0.out _ hb.out).mono ?_)
   rintro e w0 ⟨rfl, hq⟩
   have hb := hidIt (below_next hb.out hq)
   have H1 := hidIt (heap_on H1.out hq)
   have H2 := hidIt (heap_on H2.out hq)
   clear hq c0
   obtain ⟨p0, p1, p2, p3, p4, p5, p6, p7⟩ := cells_8 H1.out
   obtain ⟨q0, q1, q2, q3, q4, q5, q6, q7, q8, q9⟩ := cells_10 H2.out
   go_wp2_with (go_at_call 172; refine (c1.out _ hb.out).mono ?_)
   rintro e w1 ⟨rfl, hq⟩
   have hb := hidIt (below_next hb.out hq)
   have H1 := hidIt (heap_on H1.out hq)
   have H2 := hidIt (heap_on H2.out hq)
   clear hq c1
   obtain ⟨p0, p1, p2, p3, p4, p5, p6, p7⟩ := cells_8 H1.out
   obtain ⟨q0, q1, q2, q3, q4, q5, q6, q7, q8, q9⟩ := cells_10 H2.out
   go_wp2_with (go_at_call 173; refine (c2.out _ hb.out).mono ?_)
   rintro e w2 ⟨rfl, hq⟩
   have hb := hidIt (below_next hb.out hq)
   have H1 := hidIt (heap_on H1.out hq)
   have H2 := hidIt (heap_on H2.out hq)
   clear hq c2
   obtain ⟨p0, p1, p2, p3, p4, p5, p6, p7⟩ := cells_8 H1.out
   obtain ⟨q0, q1, q2, q3, q4, q5, q6, q7, q8, q9⟩ := cells_10 H2.out
   go_wp2
   go_ret
   exact ⟨rfl, hb.out⟩
 cases v3
 · clear c4
   go_enter Tryz.func138, Tryz.ntmps138
   go_wp2_with (go_at_call 174; refine (cP.out _).mono ?_)
   rintro e w9 ⟨rfl, hq⟩
   have hb := hidIt (below_next hb.out hq)
   have H1 := hidIt (heap_on H1.out hq)
   clear hq cP
   have H1 := hidIt (heap_on H1.out (below_new w9 (.cells #[.bool dst, .bool number, .bool name, .bool variant, .int .i64 al, .int .i64 ah, .int .i64 bl, .int .i64 bh, .int .i64 rl, .int .i64 rh] 193)))
   have H2 := hidIt (heap_alloc_new w9 (.cells #[.bool dst, .bool number, .bool name, .bool variant, .int .i64 al, .int .i64 ah, .int .i64 bl, .int .i64 bh, .int .i64 rl, .int .i64 rh] 193))
   have hb := hidIt (below_next hb.out (below_new w9 (.cells #[.bool dst, .bool number, .bool name, .bool variant, .int .i64 al, .int .i64 ah, .int .i64 bl, .int .i64 bh, .int .i64 rl, .int .i64 rh] 193)))
   obtain ⟨p0, p1, p2, p3, p4, p5, p6, p7⟩ := cells_8 H1.out
   obtain ⟨q0, q1, q2, q3, q4, q5, q6, q7, q8, q9⟩ := cells_10 H2.out
   go_wp2_with (go_at_call 170; refine (c0.out _ hb.out).mono ?_)
   rintro e w0 ⟨rfl, hq⟩
   have hb := hidIt (below_next hb.out hq)
   have H1 := hidIt (heap_on H1.out hq)
   have H2 := hidIt (heap_on H2.out hq)
   clear hq c0
   obtain ⟨p0, p1, p2, p3, p4, p5, p6, p7⟩ := cells_8 H1.out
   obtain ⟨q0, q1, q2, q3, q4, q5, q6, q7, q8, q9⟩ := cells_10 H2.out
   go_wp2_with (go_at_call 172; refine (c1.out _ hb.out).mono ?_)
   rintro e w1 ⟨rfl, hq⟩
   have hb := hidIt (below_next hb.out hq)
   have H1 := hidIt (heap_on H1.out hq)
   have H2 := hidIt (heap_on H2.out hq)
   clear hq c1
   obtain ⟨p0, p1, p2, p3, p4, p5, p6, p7⟩ := cells_8 H1.out
   obtain ⟨q0, q1, q2, q3, q4, q5, q6, q7, q8, q9⟩ := cells_10 H2.out
   go_wp2_with (go_at_call 173; refine (c2.out _ hb.out).mono ?_)
   rintro e w2 ⟨rfl, hq⟩
   have hb := hidIt (below_next hb.out hq)
   have H1 := hidIt (heap_on H1.out hq)
   have H2 := hidIt (heap_on H2.out hq)
   clear hq c2
   obtain ⟨p0, p1, p2, p3, p4, p5, p6, p7⟩ := cells_8 H1.out
   obtain ⟨q0, q1, q2, q3, q4, q5, q6, q7, q8, q9⟩ := cells_10 H2.out
   go_wp2_with (go_at_call 83; refine (c3.out _ hb.out).mono ?_)
   rintro e w3 ⟨rfl, hq⟩
   have hb := hidIt (below_next hb.out hq)
   have H1 := hidIt (heap_on H1.out hq)
   have H2 := hidIt (heap_on H2.out hq)
   clear hq c3
   obtain ⟨p0, p1, p2, p3, p4, p5, p6, p7⟩ := cells_8 H1.out
   obtain ⟨q0, q1, q2, q3, q4, q5, q6, q7, q8, q9⟩ := cells_10 H2.out
   go_wp2
   go_ret
   exact ⟨rfl, hb.out⟩
 cases v4
 · go_enter Tryz.func138, Tryz.ntmps138
   go_wp2_with (go_at_call 174; refine (cP.out _).mono ?_)
   rintro e w9 ⟨rfl, hq⟩
   have hb := hidIt (below_next hb.out hq)
   have H1 := hidIt (heap_on H1.out hq)
   clear hq cP
   have H1 := hidIt (heap_on H1.out (below_new w9 (.cells #[.bool dst, .bool number, .bool name, .bool variant, .int .i64 al, .int .i64 ah, .int .i64 bl, .int .i64 bh, .int .i64 rl, .int .i64 rh] 193)))
   have H2 := hidIt (heap_alloc_new w9 (.cells #[.bool dst, .bool number, .bool name, .bool variant, .int .i64 al, .int .i64 ah, .int .i64 bl, .int .i64 bh, .int .i64 rl, .int .i64 rh] 193))
   have hb := hidIt (below_next hb.out (below_new w9 (.cells #[.bool dst, .bool number, .bool name, .bool variant, .int .i64 al, .int .i64 ah, .int .i64 bl, .int .i64 bh, .int .i64 rl, .int .i64 rh] 193)))
   obtain ⟨p0, p1, p2, p3, p4, p5, p6, p7⟩ := cells_8 H1.out
   obtain ⟨q0, q1, q2, q3, q4, q5, q6, q7, q8, q9⟩ := cells_10 H2.out
   go_wp2_with (go_at_call 170; refine (c0.out _ hb.out).mono ?_)
   rintro e w0 ⟨rfl, hq⟩
   have hb := hidIt (below_next hb.out hq)
   have H1 := hidIt (heap_on H1.out hq)
   have H2 := hidIt (heap_on H2.out hq)
   clear hq c0
   obtain ⟨p0, p1, p2, p3, p4, p5, p6, p7⟩ := cells_8 H1.out
   obtain ⟨q0, q1, q2, q3, q4, q5, q6, q7, q8, q9⟩ := cells_10 H2.out
   go_wp2_with (go_at_call 172; refine (c1.out _ hb.out).mono ?_)
   rintro e w1 ⟨rfl, hq⟩
   have hb := hidIt (below_next hb.out hq)
   have H1 := hidIt (heap_on H1.out hq)
   have H2 := hidIt (heap_on H2.out hq)
   clear hq c1
   obtain ⟨p0, p1, p2, p3, p4, p5, p6, p7⟩ := cells_8 H1.out
   obtain ⟨q0, q1, q2, q3, q4, q5, q6, q7, q8, q9⟩ := cells_10 H2.out
   go_wp2_with (go_at_call 173; refine (c2.out _ hb.out).mono ?_)
   rintro e w2 ⟨rfl, hq⟩
   have hb := hidIt (below_next hb.out hq)
   have H1 := hidIt (heap_on H1.out hq)
   have H2 := hidIt (heap_on H2.out hq)
   clear hq c2
   obtain ⟨p0, p1, p2, p3, p4, p5, p6, p7⟩ := cells_8 H1.out
   obtain ⟨q0, q1, q2, q3, q4, q5, q6, q7, q8, q9⟩ := cells_10 H2.out
   go_wp2_with (go_at_call 83; refine (c3.out _ hb.out).mono ?_)
   rintro e w3 ⟨rfl, hq⟩
   have hb := hidIt (below_next hb.out hq)
   have H1 := hidIt (heap_on H1.out hq)
   have H2 := hidIt (heap_on H2.out hq)
   clear hq c3
   obtain ⟨p0, p1, p2, p3, p4, p5, p6, p7⟩ := cells_8 H1.out
   obtain ⟨q0, q1, q2, q3, q4, q5, q6, q7, q8, q9⟩ := cells_10 H2.out
   go_wp2_with (go_at_call 175; refine (c4.out _ hb.out).mono ?_)
   rintro e w4 ⟨rfl, hq⟩
   have hb := hidIt (below_next hb.out hq)
   have H1 := hidIt (heap_on H1.out hq)
   have H2 := hidIt (heap_on H2.out hq)
   clear hq c4
   obtain ⟨p0, p1, p2, p3, p4, p5, p6, p7⟩ := cells_8 H1.out
   obtain ⟨q0, q1, q2, q3, q4, q5, q6, q7, q8, q9⟩ := cells_10 H2.out
   go_wp2
   go_ret
   exact ⟨rfl, hb.out⟩
 go_enter Tryz.func138, Tryz.ntmps138
 go_wp2_with (go_at_call 174; refine (cP.out _).mono ?_)
 rintro e w9 ⟨rfl, hq⟩
 have hb := hidIt (below_next hb.out hq)
 have H1 := hidIt (heap_on H1.out hq)
 clear hq cP
 have H1 := hidIt (heap_on H1.out (below_new w9 (.cells #[.bool dst, .bool number, .bool name, .bool variant, .int .i64 al, .int .i64 ah, .int .i64 bl, .int .i64 bh, .int .i64 rl, .int .i64 rh] 193)))
 have H2 := hidIt (heap_alloc_new w9 (.cells #[.bool dst, .bool number, .bool name, .bool variant, .int .i64 al, .int .i64 ah, .int .i64 bl, .int .i64 bh, .int .i64 rl, .int .i64 rh] 193))
 have hb := hidIt (below_next hb.out (below_new w9 (.cells #[.bool dst, .bool number, .bool name, .bool variant, .int .i64 al, .int .i64 ah, .int .i64 bl, .int .i64 bh, .int .i64 rl, .int .i64 rh] 193)))
 obtain ⟨p0, p1, p2, p3, p4, p5, p6, p7⟩ := cells_8 H1.out
 obtain ⟨q0, q1, q2, q3, q4, q5, q6, q7, q8, q9⟩ := cells_10 H2.out
 go_wp2_with (go_at_call 170; refine (c0.out _ hb.out).mono ?_)
 rintro e w0 ⟨rfl, hq⟩
 have hb := hidIt (below_next hb.out hq)
 have H1 := hidIt (heap_on H1.out hq)
 have H2 := hidIt (heap_on H2.out hq)
 clear hq c0
 obtain ⟨p0, p1, p2, p3, p4, p5, p6, p7⟩ := cells_8 H1.out
 obtain ⟨q0, q1, q2, q3, q4, q5, q6, q7, q8, q9⟩ := cells_10 H2.out
 go_wp2_with (go_at_call 172; refine (c1.out _ hb.out).mono ?_)
 rintro e w1 ⟨rfl, hq⟩
 have hb := hidIt (below_next hb.out hq)
 have H1 := hidIt (heap_on H1.out hq)
 have H2 := hidIt (heap_on H2.out hq)
 clear hq c1
 obtain ⟨p0, p1, p2, p3, p4, p5, p6, p7⟩ := cells_8 H1.out
 obtain ⟨q0, q1, q2, q3, q4, q5, q6, q7, q8, q9⟩ := cells_10 H2.out
 go_wp2_with (go_at_call 173; refine (c2.out _ hb.out).mono ?_)
 rintro e w2 ⟨rfl, hq⟩
 have hb := hidIt (below_next hb.out hq)
 have H1 := hidIt (heap_on H1.out hq)
 have H2 := hidIt (heap_on H2.out hq)
 clear hq c2
 obtain ⟨p0, p1, p2, p3, p4, p5, p6, p7⟩ := cells_8 H1.out
 obtain ⟨q0, q1, q2, q3, q4, q5, q6, q7, q8, q9⟩ := cells_10 H2.out
 go_wp2_with (go_at_call 83; refine (c3.out _ hb.out).mono ?_)
 rintro e w3 ⟨rfl, hq⟩
 have hb := hidIt (below_next hb.out hq)
 have H1 := hidIt (heap_on H1.out hq)
 have H2 := hidIt (heap_on H2.out hq)
 clear hq c3
 obtain ⟨p0, p1, p2, p3, p4, p5, p6, p7⟩ := cells_8 H1.out
 obtain ⟨q0, q1, q2, q3, q4, q5, q6, q7, q8, q9⟩ := cells_10 H2.out
 go_wp2_with (go_at_call 175; refine (c4.out _ hb.out).mono ?_)
 rintro e w4 ⟨rfl, hq⟩
 have hb := hidIt (below_next hb.out hq)
 have H1 := hidIt (heap_on H1.out hq)
 have H2 := hidIt (heap_on H2.out hq)
 clear hq c4
 obtain ⟨p0, p1, p2, p3, p4, p5, p6, p7⟩ := cells_8 H1.out
 obtain ⟨q0, q1, q2, q3, q4, q5, q6, q7, q8, q9⟩ := cells_10 H2.out
 go_wp2
 go_ret
 exact ⟨rfl, hb.out⟩

end Go.Proofs.YtlppbgmcoknliaaGreatDoor
