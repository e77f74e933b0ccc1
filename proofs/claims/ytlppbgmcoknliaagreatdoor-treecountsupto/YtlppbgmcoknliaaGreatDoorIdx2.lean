/-
  The walks of slices.IndexFunc, slices.ContainsFunc and every: statements, blocks, functions, structs, enums.
-/
import Derived.Test.YtlppbgmcoknliaaGreatDoorIdx
namespace Go.Proofs.YtlppbgmcoknliaaGreatDoor
set_option linter.unusedVariables false
open Go.RowKit

set_option maxHeartbeats 2000000 in
set_option maxRecDepth 100000 in
theorem idx_stmt (a : Option Addr) (xs : List StmtX) (c g : Nat) (lb : Array Value) (p : StmtX → Bool) (w : World) (eg : ∀ args w, (callFunc g args).run Tryz.prog w = .ok (.enter g args) w) (h1 : Sts w a xs)
 (hp : ∀ (W : World) (x : StmtX), x ∈ xs → Below w.heap.size w W → Calls Tryz.prog g (#[.agg #[.int .i64 x.at_, .int .i64 x.kind, .string x.to.loc, .slice x.to.sa x.to.steps.length x.to.sc, .int .i64 x.n, .string x.name, .string x.variant, .slice x.aa x.args.length x.ac]] ++ lb) W fun e w' => e = .returned (.bool (p x)) ∧ Below W.heap.size W w') :
 Calls Tryz.prog 195 #[.slice a xs.length c, .func (.func g) #[] lb] w fun e w' => e = .returned (.int .i64 (idxL p xs)) ∧ Below w.heap.size w w' := by
 have n1 := h1.1.big
 rw [List.length_map] at n1
 have H1 := hidIt h1
 have HP := hidIt hp
 obtain ⟨n, hn⟩ : ∃ n, xs.length = n := ⟨_, rfl⟩
 rw [hn] at n1 ⊢
 have hn1 := hidIt hn
 clear hn h1 hp
 obtain ⟨R, hR0⟩ : ∃ R, idxL p xs = R := ⟨_, rfl⟩
 rw [hR0]
 have hR := hidIt hR0
 clear hR0
 go_enter Tryz.func195, Tryz.ntmps195
 go_wp2
 go_loopg [5, 8] n (fun gg _ s8 wr => ∃ k : Nat, k ≤ n ∧ n - k ≤ gg ∧ s8 = .int .i64 k ∧ Hid (Below w.heap.size w wr) ∧ Hid (∀ (j : Nat) (x : StmtX), j < k → xs[j]? = some x → p x = false))
 case atStart => exact ⟨0, Nat.zero_le _, by omega, rfl, hidIt (Below.refl _ _), hidIt fun j x hj => absurd hj (Nat.not_lt_zero _)⟩
 case round =>
  obtain ⟨k, hk, hg, rfl, hb, A⟩ := hrel
  by_cases hlt : k < n
  · obtain ⟨x, hx⟩ : ∃ x, xs[k]? = some x := ⟨_, List.getElem?_eq_getElem (by rw [hn1.out]; exact hlt)⟩
    obtain ⟨b1, o1, rfl, z1, g1⟩ := H1.out.1.cells (j := k) (r := x.row) (by rw [List.getElem?_map, hx]; rfl)
    have c1 := HP.out wr x (List.mem_of_getElem? hx) hb.out
    have Hx := hidIt hx
    have p0 := g1 wr hb.out 0 _ rfl
    have p1 := g1 wr hb.out 1 _ rfl
    have p2 := g1 wr hb.out 2 _ rfl
    have p3 := g1 wr hb.out 3 _ rfl
    have p4 := g1 wr hb.out 4 _ rfl
    have p5 := g1 wr hb.out 5 _ rfl
    have p6 := g1 wr hb.out 6 _ rfl
    have p7 := g1 wr hb.out 7 _ rfl
    rw [Nat.add_zero] at p0
    clear g1 hx z1
    cases hq : p x with
    | true =>
     rw [hq] at c1
     obtain rfl : (k : Int) = R := (idxL_hit Hx.out hq A.out).symm.trans hR.out
     go_wp2_with (go_at_fn g; refine c1.mono ?_; rintro e w' ⟨rfl, hb'⟩)
     go_ret
     exact ⟨rfl, below_next hb.out hb'⟩
    | false =>
     rw [hq] at c1
     go_wp2_with (go_at_fn g; refine c1.mono ?_; rintro e w' ⟨rfl, hb'⟩)
     go_roundg (n - (k + 1))
     case measure => omega
     case rel =>
      refine ⟨k + 1, by omega, by omega, by go_num, hidIt (below_next hb.out hb'), hidIt fun j u hj hu => ?_⟩
      by_cases e : j = k
      · subst e
        obtain rfl : x = u := Option.some.inj (Hx.out.symm.trans hu)
        exact hq
      · exact A.out j u (by omega) hu
  · have : k = n := by omega
    subst this
    obtain rfl : (-1 : Int) = R := by
     refine (idxL_none fun j x hj => A.out j x ?_ hj).symm.trans hR.out
     have := (List.getElem?_eq_some_iff.1 hj).1
     rw [hn1.out] at this
     exact this
    go_wp2
    go_ret
    exact ⟨rfl, hb.out⟩
theorem has_stmt (a : Option Addr) (xs : List StmtX) (c g : Nat) (lb : Array Value) (p : StmtX → Bool) (w : World) (eg : ∀ args w, (callFunc g args).run Tryz.prog w = .ok (.enter g args) w) (h1 : Sts w a xs)
 (hp : ∀ (W : World) (x : StmtX), x ∈ xs → Below w.heap.size w W → Calls Tryz.prog g (#[.agg #[.int .i64 x.at_, .int .i64 x.kind, .string x.to.loc, .slice x.to.sa x.to.steps.length x.to.sc, .int .i64 x.n, .string x.name, .string x.variant, .slice x.aa x.args.length x.ac]] ++ lb) W fun e w' => e = .returned (.bool (p x)) ∧ Below W.heap.size W w') :
 Calls Tryz.prog 167 #[.slice a xs.length c, .func (.func g) #[] lb] w fun e w' => e = .returned (.bool (xs.any p)) ∧ Below w.heap.size w w' := by
 have c1 := idx_stmt a xs c g lb p w eg h1 hp
 clear hp h1
 rcases idxL_has p xs with ⟨e1, i, e2⟩ | ⟨e1, e2⟩
 · rw [e2] at c1; rw [e1]
   clear e1 e2
   go_enter Tryz.func167, Tryz.ntmps167
   go_wp2_with (go_at_call 195; refine c1.mono ?_; rintro e w' ⟨rfl, hb'⟩)
   go_ret
   exact ⟨rfl, hb'⟩
 · rw [e2] at c1; rw [e1]
   clear e1 e2
   go_enter Tryz.func167, Tryz.ntmps167
   go_wp2_with (go_at_call 195; refine c1.mono ?_; rintro e w' ⟨rfl, hb'⟩)
   go_ret
   exact ⟨rfl, hb'⟩
set_option maxHeartbeats 400000 in
theorem every1_stmt (x : StmtX) (B g : Nat) (lb : Array Value) (r : Bool) (w : World) (eg : ∀ args w, (callFunc g args).run Tryz.prog w = .ok (.enter g args) w) (hB : w.cell? ⟨B, 0, none⟩ = some (.func (.func g) #[] lb))
 (hp : ∀ W, Below w.heap.size w W → Calls Tryz.prog g (#[.agg #[.int .i64 x.at_, .int .i64 x.kind, .string x.to.loc, .slice x.to.sa x.to.steps.length x.to.sc, .int .i64 x.n, .string x.name, .string x.variant, .slice x.aa x.args.length x.ac]] ++ lb) W fun e w' => e = .returned (.bool r) ∧ Below W.heap.size W w') :
 Calls Tryz.prog 168 #[.agg #[.int .i64 x.at_, .int .i64 x.kind, .string x.to.loc, .slice x.to.sa x.to.steps.length x.to.sc, .int .i64 x.n, .string x.name, .string x.variant, .slice x.aa x.args.length x.ac], .pointer (some ⟨B, 0, none⟩)] w fun e w' => e = .returned (.bool (!r)) ∧ Below w.heap.size w w' := by
 have hb := hidIt (below_new w (.cells #[.int .i64 x.at_, .int .i64 x.kind, .string x.to.loc, .slice x.to.sa x.to.steps.length x.to.sc, .int .i64 x.n, .string x.name, .string x.variant, .slice x.aa x.args.length x.ac] 68))
 have hB' := Lib.cell?_alloc_some (.cells #[.int .i64 x.at_, .int .i64 x.kind, .string x.to.loc, .slice x.to.sa x.to.steps.length x.to.sc, .int .i64 x.n, .string x.name, .string x.variant, .slice x.aa x.args.length x.ac] 68) hB
 have c1 := hp _ (below_new w (.cells #[.int .i64 x.at_, .int .i64 x.kind, .string x.to.loc, .slice x.to.sa x.to.steps.length x.to.sc, .int .i64 x.n, .string x.name, .string x.variant, .slice x.aa x.args.length x.ac] 68))
 clear hp
 go_enter Tryz.func168, Tryz.ntmps168
 go_wp2_with (go_at_fn g; refine c1.mono ?_; rintro e w' ⟨rfl, hb'⟩)
 go_ret
 exact ⟨rfl, below_next hb.out hb'⟩
set_option maxHeartbeats 400000 in
set_option maxRecDepth 100000 in
theorem every_stmt (a : Option Addr) (xs : List StmtX) (c : Nat) (lo hi : Int) (g : Nat) (lb : Array Value) (r : StmtX → Bool) (w : World) (eg : ∀ args w, (callFunc g args).run Tryz.prog w = .ok (.enter g args) w) (h1 : Sts w a xs)
 (hp : ∀ (W : World) (x : StmtX), x ∈ xs → Below w.heap.size w W → Calls Tryz.prog g (#[.agg #[.int .i64 x.at_, .int .i64 x.kind, .string x.to.loc, .slice x.to.sa x.to.steps.length x.to.sc, .int .i64 x.n, .string x.name, .string x.variant, .slice x.aa x.args.length x.ac]] ++ lb) W fun e w' => e = .returned (.bool (r x)) ∧ Below W.heap.size W w') :
 Calls Tryz.prog 136 #[.slice a xs.length c, .agg #[.int .i64 lo, .int .i64 hi], .func (.func g) #[] lb] w fun e w' => e = .returned (.bool (everyL lo hi r xs)) ∧ Below w.heap.size w w' := by
 have n1 := h1.1.big
 rw [List.length_map] at n1
 have hb := hidIt (below_next (below_new w (.cells #[.int .i64 lo, .int .i64 hi] 87)) (below_new _ (.cells #[.func (.func g) #[] lb] 136)))
 unfold everyL
 by_cases hlo : lo ≤ xs.length
 · by_cases hhi : (xs.length : Int) ≤ hi
   · rw [decide_eq_true hlo, decide_eq_true hhi, Bool.true_and, Bool.true_and]
     have c1 : Hid (∀ W, Below w.heap.size w W → W.heap[w.heap.size + 1]? = some (.cells #[.func (.func g) #[] lb] 136) → Calls Tryz.prog 167 #[.slice a xs.length c, .func (.func 168) #[] #[.pointer (some ⟨w.heap.size + 1, 0, none⟩)]] W fun e w' => e = .returned (.bool (!xs.all r)) ∧ Below W.heap.size W w') := hidIt fun W hW hh => by
      have := has_stmt a xs c 168 #[.pointer (some ⟨w.heap.size + 1, 0, none⟩)] (fun x => !r x) W (fun args w => by kernel_rfl) (h1.on hW) fun W2 x hx hW2 => every1_stmt x (w.heap.size + 1) g lb (r x) W2 eg (cell_at (heap_on hh hW2) 0) fun W3 hW3 => hp W3 x hx (below_next (below_next hW hW2) hW3)
      rwa [any_not] at this
     obtain ⟨hh1, hh2⟩ := two_at (w := w) (cs := #[.int .i64 lo, .int .i64 hi]) (ds := #[.func (.func g) #[] lb]) (t := 87) (u := 136) rfl rfl (Below.refl _ _)
     have H2 := hidIt hh2
     clear hh1 hh2
     have hlo' : ¬ (xs.length : Int) < lo := by omega
     have hhi' : ¬ hi < (xs.length : Int) := by omega
     clear hp h1 hlo hhi
     generalize xs.length = n at *
     generalize xs.all r = R at *
     go_enter Tryz.func136, Tryz.ntmps136
     go_wp2_with (go_at_call 167; refine (c1.out _ hb.out H2.out).mono ?_; rintro e w' ⟨rfl, hb'⟩)
     go_ret
     exact ⟨by simp, below_next hb.out hb'⟩
   · rw [decide_eq_true hlo, decide_eq_false hhi]
     have hlo' : ¬ (xs.length : Int) < lo := by omega
     have hhi' : hi < (xs.length : Int) := by omega
     clear hp h1 hlo hhi
     generalize xs.length = n at *
     go_enter Tryz.func136, Tryz.ntmps136
     go_wp2_with fail
     go_ret
     exact ⟨rfl, hb.out⟩
 · rw [decide_eq_false hlo]
   have hlo' : (xs.length : Int) < lo := by omega
   clear hp h1 hlo
   generalize xs.length = n at *
   go_enter Tryz.func136, Tryz.ntmps136
   go_wp2_with fail
   go_ret
   exact ⟨rfl, hb.out⟩
theorem every0_stmt (a : Option Addr) (xs : List StmtX) (c : Nat) (lo hi : Int) (g : Nat) (r : StmtX → Bool) (w : World) (eg : ∀ args w, (callFunc g args).run Tryz.prog w = .ok (.enter g args) w) (h1 : Sts w a xs)
 (hp : ∀ (W : World) (x : StmtX), x ∈ xs → Below w.heap.size w W → Calls Tryz.prog g #[.agg #[.int .i64 x.at_, .int .i64 x.kind, .string x.to.loc, .slice x.to.sa x.to.steps.length x.to.sc, .int .i64 x.n, .string x.name, .string x.variant, .slice x.aa x.args.length x.ac]] W fun e w' => e = .returned (.bool (r x)) ∧ Below W.heap.size W w') :
 Calls Tryz.prog 136 #[.slice a xs.length c, .agg #[.int .i64 lo, .int .i64 hi], .func (.func g) #[] #[]] w fun e w' => e = .returned (.bool (everyL lo hi r xs)) ∧ Below w.heap.size w w' :=
 every_stmt a xs c lo hi g #[] r w eg h1 fun W x hx hW => by rw [Array.append_empty]; exact hp W x hx hW

set_option maxHeartbeats 2000000 in
set_option maxRecDepth 100000 in
theorem idx_block (a : Option Addr) (xs : List BlockX) (c g : Nat) (lb : Array Value) (p : BlockX → Bool) (w : World) (eg : ∀ args w, (callFunc g args).run Tryz.prog w = .ok (.enter g args) w) (h1 : Bls w a xs)
 (hp : ∀ (W : World) (x : BlockX), x ∈ xs → Below w.heap.size w W → Calls Tryz.prog g (#[.agg #[.int .i64 x.at_, .string x.name, .slice x.sa x.stmts.length x.sc, .int .i64 x.term.at_, .int .i64 x.term.kind, .string x.term.to.loc, .slice x.term.to.sa x.term.to.steps.length x.term.to.sc, .string x.term.name, .slice x.term.aa x.term.args.length x.term.ac, .slice x.term.ba x.term.blocks.length x.term.bc, .slice x.term.ra x.term.arms.length x.term.rc]] ++ lb) W fun e w' => e = .returned (.bool (p x)) ∧ Below W.heap.size W w') :
 Calls Tryz.prog 79 #[.slice a xs.length c, .func (.func g) #[] lb] w fun e w' => e = .returned (.int .i64 (idxL p xs)) ∧ Below w.heap.size w w' := by
 have n1 := h1.1.big
 rw [List.length_map] at n1
 have H1 := hidIt h1
 have HP := hidIt hp
 obtain ⟨n, hn⟩ : ∃ n, xs.length = n := ⟨_, rfl⟩
 rw [hn] at n1 ⊢
 have hn1 := hidIt hn
 clear hn h1 hp
 obtain ⟨R, hR0⟩ : ∃ R, idxL p xs = R := ⟨_, rfl⟩
 rw [hR0]
 have hR := hidIt hR0
 clear hR0
 go_enter Tryz.func79, Tryz.ntmps79
 go_wp2
 go_loopg [5, 8] n (fun gg _ s8 wr => ∃ k : Nat, k ≤ n ∧ n - k ≤ gg ∧ s8 = .int .i64 k ∧ Hid (Below w.heap.size w wr) ∧ Hid (∀ (j : Nat) (x : BlockX), j < k → xs[j]? = some x → p x = false))
 case atStart => exact ⟨0, Nat.zero_le _, by omega, rfl, hidIt (Below.refl _ _), hidIt fun j x hj => absurd hj (Nat.not_lt_zero _)⟩
 case round =>
  obtain ⟨k, hk, hg, rfl, hb, A⟩ := hrel
  by_cases hlt : k < n
  · obtain ⟨x, hx⟩ : ∃ x, xs[k]? = some x := ⟨_, List.getElem?_eq_getElem (by rw [hn1.out]; exact hlt)⟩
    obtain ⟨b1, o1, rfl, z1, g1⟩ := H1.out.1.cells (j := k) (r := x.row) (by rw [List.getElem?_map, hx]; rfl)
    have c1 := HP.out wr x (List.mem_of_getElem? hx) hb.out
    have Hx := hidIt hx
    have p0 := g1 wr hb.out 0 _ rfl
    have p1 := g1 wr hb.out 1 _ rfl
    have p2 := g1 wr hb.out 2 _ rfl
    have p3 := g1 wr hb.out 3 _ rfl
    have p4 := g1 wr hb.out 4 _ rfl
    have p5 := g1 wr hb.out 5 _ rfl
    have p6 := g1 wr hb.out 6 _ rfl
    have p7 := g1 wr hb.out 7 _ rfl
    have p8 := g1 wr hb.out 8 _ rfl
    have p9 := g1 wr hb.out 9 _ rfl
    have p10 := g1 wr hb.out 10 _ rfl
    rw [Nat.add_zero] at p0
    clear g1 hx z1
    cases hq : p x with
    | true =>
     rw [hq] at c1
     obtain rfl : (k : Int) = R := (idxL_hit Hx.out hq A.out).symm.trans hR.out
     go_wp2_with (go_at_fn g; refine c1.mono ?_; rintro e w' ⟨rfl, hb'⟩)
     go_ret
     exact ⟨rfl, below_next hb.out hb'⟩
    | false =>
     rw [hq] at c1
     go_wp2_with (go_at_fn g; refine c1.mono ?_; rintro e w' ⟨rfl, hb'⟩)
     go_roundg (n - (k + 1))
     case measure => omega
     case rel =>
      refine ⟨k + 1, by omega, by omega, by go_num, hidIt (below_next hb.out hb'), hidIt fun j u hj hu => ?_⟩
      by_cases e : j = k
      · subst e
        obtain rfl : x = u := Option.some.inj (Hx.out.symm.trans hu)
        exact hq
      · exact A.out j u (by omega) hu
  · have : k = n := by omega
    subst this
    obtain rfl : (-1 : Int) = R := by
     refine (idxL_none fun j x hj => A.out j x ?_ hj).symm.trans hR.out
     have := (List.getElem?_eq_some_iff.1 hj).1
     rw [hn1.out] at this
     exact this
    go_wp2
    go_ret
    exact ⟨rfl, hb.out⟩
theorem has_block (a : Option Addr) (xs : List BlockX) (c g : Nat) (lb : Array Value) (p : BlockX → Bool) (w : World) (eg : ∀ args w, (callFunc g args).run Tryz.prog w = .ok (.enter g args) w) (h1 : Bls w a xs)
 (hp : ∀ (W : World) (x : BlockX), x ∈ xs → Below w.heap.size w W → Calls Tryz.prog g (#[.agg #[.int .i64 x.at_, .string x.name, .slice x.sa x.stmts.length x.sc, .int .i64 x.term.at_, .int .i64 x.term.kind, .string x.term.to.loc, .slice x.term.to.sa x.term.to.steps.length x.term.to.sc, .string x.term.name, .slice x.term.aa x.term.args.length x.term.ac, .slice x.term.ba x.term.blocks.length x.term.bc, .slice x.term.ra x.term.arms.length x.term.rc]] ++ lb) W fun e w' => e = .returned (.bool (p x)) ∧ Below W.heap.size W w') :
 Calls Tryz.prog 134 #[.slice a xs.length c, .func (.func g) #[] lb] w fun e w' => e = .returned (.bool (xs.any p)) ∧ Below w.heap.size w w' := by
 have c1 := idx_block a xs c g lb p w eg h1 hp
 clear hp h1
 rcases idxL_has p xs with ⟨e1, i, e2⟩ | ⟨e1, e2⟩
 · rw [e2] at c1; rw [e1]
   clear e1 e2
   go_enter Tryz.func134, Tryz.ntmps134
   go_wp2_with (go_at_call 79; refine c1.mono ?_; rintro e w' ⟨rfl, hb'⟩)
   go_ret
   exact ⟨rfl, hb'⟩
 · rw [e2] at c1; rw [e1]
   clear e1 e2
   go_enter Tryz.func134, Tryz.ntmps134
   go_wp2_with (go_at_call 79; refine c1.mono ?_; rintro e w' ⟨rfl, hb'⟩)
   go_ret
   exact ⟨rfl, hb'⟩
set_option maxHeartbeats 400000 in
theorem every1_block (x : BlockX) (B g : Nat) (lb : Array Value) (r : Bool) (w : World) (eg : ∀ args w, (callFunc g args).run Tryz.prog w = .ok (.enter g args) w) (hB : w.cell? ⟨B, 0, none⟩ = some (.func (.func g) #[] lb))
 (hp : ∀ W, Below w.heap.size w W → Calls Tryz.prog g (#[.agg #[.int .i64 x.at_, .string x.name, .slice x.sa x.stmts.length x.sc, .int .i64 x.term.at_, .int .i64 x.term.kind, .string x.term.to.loc, .slice x.term.to.sa x.term.to.steps.length x.term.to.sc, .string x.term.name, .slice x.term.aa x.term.args.length x.term.ac, .slice x.term.ba x.term.blocks.length x.term.bc, .slice x.term.ra x.term.arms.length x.term.rc]] ++ lb) W fun e w' => e = .returned (.bool r) ∧ Below W.heap.size W w') :
 Calls Tryz.prog 135 #[.agg #[.int .i64 x.at_, .string x.name, .slice x.sa x.stmts.length x.sc, .int .i64 x.term.at_, .int .i64 x.term.kind, .string x.term.to.loc, .slice x.term.to.sa x.term.to.steps.length x.term.to.sc, .string x.term.name, .slice x.term.aa x.term.args.length x.term.ac, .slice x.term.ba x.term.blocks.length x.term.bc, .slice x.term.ra x.term.arms.length x.term.rc], .pointer (some ⟨B, 0, none⟩)] w fun e w' => e = .returned (.bool (!r)) ∧ Below w.heap.size w w' := by
 have hb := hidIt (below_new w (.cells #[.int .i64 x.at_, .string x.name, .slice x.sa x.stmts.length x.sc, .int .i64 x.term.at_, .int .i64 x.term.kind, .string x.term.to.loc, .slice x.term.to.sa x.term.to.steps.length x.term.to.sc, .string x.term.name, .slice x.term.aa x.term.args.length x.term.ac, .slice x.term.ba x.term.blocks.length x.term.bc, .slice x.term.ra x.term.arms.length x.term.rc] 64))
 have hB' := Lib.cell?_alloc_some (.cells #[.int .i64 x.at_, .string x.name, .slice x.sa x.stmts.length x.sc, .int .i64 x.term.at_, .int .i64 x.term.kind, .string x.term.to.loc, .slice x.term.to.sa x.term.to.steps.length x.term.to.sc, .string x.term.name, .slice x.term.aa x.term.args.length x.term.ac, .slice x.term.ba x.term.blocks.length x.term.bc, .slice x.term.ra x.term.arms.length x.term.rc] 64) hB
 have c1 := hp _ (below_new w (.cells #[.int .i64 x.at_, .string x.name, .slice x.sa x.stmts.length x.sc, .int .i64 x.term.at_, .int .i64 x.term.kind, .string x.term.to.loc, .slice x.term.to.sa x.term.to.steps.length x.term.to.sc, .string x.term.name, .slice x.term.aa x.term.args.length x.term.ac, .slice x.term.ba x.term.blocks.length x.term.bc, .slice x.term.ra x.term.arms.length x.term.rc] 64))
 clear hp
 go_enter Tryz.func135, Tryz.ntmps135
 go_wp2_with (go_at_fn g; refine c1.mono ?_; rintro e w' ⟨rfl, hb'⟩)
 go_ret
 exact ⟨rfl, below_next hb.out hb'⟩
set_option maxHeartbeats 400000 in
set_option maxRecDepth 100000 in
theorem every_block (a : Option Addr) (xs : List BlockX) (c : Nat) (lo hi : Int) (g : Nat) (lb : Array Value) (r : BlockX → Bool) (w : World) (eg : ∀ args w, (callFunc g args).run Tryz.prog w = .ok (.enter g args) w) (h1 : Bls w a xs)
 (hp : ∀ (W : World) (x : BlockX), x ∈ xs → Below w.heap.size w W → Calls Tryz.prog g (#[.agg #[.int .i64 x.at_, .string x.name, .slice x.sa x.stmts.length x.sc, .int .i64 x.term.at_, .int .i64 x.term.kind, .string x.term.to.loc, .slice x.term.to.sa x.term.to.steps.length x.term.to.sc, .string x.term.name, .slice x.term.aa x.term.args.length x.term.ac, .slice x.term.ba x.term.blocks.length x.term.bc, .slice x.term.ra x.term.arms.length x.term.rc]] ++ lb) W fun e w' => e = .returned (.bool (r x)) ∧ Below W.heap.size W w') :
 Calls Tryz.prog 101 #[.slice a xs.length c, .agg #[.int .i64 lo, .int .i64 hi], .func (.func g) #[] lb] w fun e w' => e = .returned (.bool (everyL lo hi r xs)) ∧ Below w.heap.size w w' := by
 have n1 := h1.1.big
 rw [List.length_map] at n1
 have hb := hidIt (below_next (below_new w (.cells #[.int .i64 lo, .int .i64 hi] 87)) (below_new _ (.cells #[.func (.func g) #[] lb] 122)))
 unfold everyL
 by_cases hlo : lo ≤ xs.length
 · by_cases hhi : (xs.length : Int) ≤ hi
   · rw [decide_eq_true hlo, decide_eq_true hhi, Bool.true_and, Bool.true_and]
     have c1 : Hid (∀ W, Below w.heap.size w W → W.heap[w.heap.size + 1]? = some (.cells #[.func (.func g) #[] lb] 122) → Calls Tryz.prog 134 #[.slice a xs.length c, .func (.func 135) #[] #[.pointer (some ⟨w.heap.size + 1, 0, none⟩)]] W fun e w' => e = .returned (.bool (!xs.all r)) ∧ Below W.heap.size W w') := hidIt fun W hW hh => by
      have := has_block a xs c 135 #[.pointer (some ⟨w.heap.size + 1, 0, none⟩)] (fun x => !r x) W (fun args w => by kernel_rfl) (h1.on hW) fun W2 x hx hW2 => every1_block x (w.heap.size + 1) g lb (r x) W2 eg (cell_at (heap_on hh hW2) 0) fun W3 hW3 => hp W3 x hx (below_next (below_next hW hW2) hW3)
      rwa [any_not] at this
     obtain ⟨hh1, hh2⟩ := two_at (w := w) (cs := #[.int .i64 lo, .int .i64 hi]) (ds := #[.func (.func g) #[] lb]) (t := 87) (u := 122) rfl rfl (Below.refl _ _)
     have H2 := hidIt hh2
     clear hh1 hh2
     have hlo' : ¬ (xs.length : Int) < lo := by omega
     have hhi' : ¬ hi < (xs.length : Int) := by omega
     clear hp h1 hlo hhi
     generalize xs.length = n at *
     generalize xs.all r = R at *
     go_enter Tryz.func101, Tryz.ntmps101
     go_wp2_with (go_at_call 134; refine (c1.out _ hb.out H2.out).mono ?_; rintro e w' ⟨rfl, hb'⟩)
     go_ret
     exact ⟨by simp, below_next hb.out hb'⟩
   · rw [decide_eq_true hlo, decide_eq_false hhi]
     have hlo' : ¬ (xs.length : Int) < lo := by omega
     have hhi' : hi < (xs.length : Int) := by omega
     clear hp h1 hlo hhi
     generalize xs.length = n at *
     go_enter Tryz.func101, Tryz.ntmps101
     go_wp2_with fail
     go_ret
     exact ⟨rfl, hb.out⟩
 · rw [decide_eq_false hlo]
   have hlo' : (xs.length : Int) < lo := by omega
   clear hp h1 hlo
   generalize xs.length = n at *
   go_enter Tryz.func101, Tryz.ntmps101
   go_wp2_with fail
   go_ret
   exact ⟨rfl, hb.out⟩
theorem every0_block (a : Option Addr) (xs : List BlockX) (c : Nat) (lo hi : Int) (g : Nat) (r : BlockX → Bool) (w : World) (eg : ∀ args w, (callFunc g args).run Tryz.prog w = .ok (.enter g args) w) (h1 : Bls w a xs)
 (hp : ∀ (W : World) (x : BlockX), x ∈ xs → Below w.heap.size w W → Calls Tryz.prog g #[.agg #[.int .i64 x.at_, .string x.name, .slice x.sa x.stmts.length x.sc, .int .i64 x.term.at_, .int .i64 x.term.kind, .string x.term.to.loc, .slice x.term.to.sa x.term.to.steps.length x.term.to.sc, .string x.term.name, .slice x.term.aa x.term.args.length x.term.ac, .slice x.term.ba x.term.blocks.length x.term.bc, .slice x.term.ra x.term.arms.length x.term.rc]] W fun e w' => e = .returned (.bool (r x)) ∧ Below W.heap.size W w') :
 Calls Tryz.prog 101 #[.slice a xs.length c, .agg #[.int .i64 lo, .int .i64 hi], .func (.func g) #[] #[]] w fun e w' => e = .returned (.bool (everyL lo hi r xs)) ∧ Below w.heap.size w w' :=
 every_block a xs c lo hi g #[] r w eg h1 fun W x hx hW => by rw [Array.append_empty]; exact hp W x hx hW

set_option maxHeartbeats 2000000 in
set_option maxRecDepth 100000 in
theorem idx_func (a : Option Addr) (xs : List FuncX) (c g : Nat) (lb : Array Value) (p : FuncX → Bool) (w : World) (eg : ∀ args w, (callFunc g args).run Tryz.prog w = .ok (.enter g args) w) (h1 : Fns w a xs)
 (hp : ∀ (W : World) (x : FuncX), x ∈ xs → Below w.heap.size w W → Calls Tryz.prog g (#[.agg #[.int .i64 x.at_, .string x.name, .slice x.pa x.params.length x.pc, .slice x.la x.locals.length x.lc, .string x.result, .slice x.ba x.blocks.length x.bc]] ++ lb) W fun e w' => e = .returned (.bool (p x)) ∧ Below W.heap.size W w') :
 Calls Tryz.prog 132 #[.slice a xs.length c, .func (.func g) #[] lb] w fun e w' => e = .returned (.int .i64 (idxL p xs)) ∧ Below w.heap.size w w' := by
 have n1 := h1.1.big
 rw [List.length_map] at n1
 have H1 := hidIt h1
 have HP := hidIt hp
 obtain ⟨n, hn⟩ : ∃ n, xs.length = n := ⟨_, rfl⟩
 rw [hn] at n1 ⊢
 have hn1 := hidIt hn
 clear hn h1 hp
 obtain ⟨R, hR0⟩ : ∃ R, idxL p xs = R := ⟨_, rfl⟩
 rw [hR0]
 have hR := hidIt hR0
 clear hR0
 go_enter Tryz.func132, Tryz.ntmps132
 go_wp2
 go_loopg [5, 8] n (fun gg _ s8 wr => ∃ k : Nat, k ≤ n ∧ n - k ≤ gg ∧ s8 = .int .i64 k ∧ Hid (Below w.heap.size w wr) ∧ Hid (∀ (j : Nat) (x : FuncX), j < k → xs[j]? = some x → p x = false))
 case atStart => exact ⟨0, Nat.zero_le _, by omega, rfl, hidIt (Below.refl _ _), hidIt fun j x hj => absurd hj (Nat.not_lt_zero _)⟩
 case round =>
  obtain ⟨k, hk, hg, rfl, hb, A⟩ := hrel
  by_cases hlt : k < n
  · obtain ⟨x, hx⟩ : ∃ x, xs[k]? = some x := ⟨_, List.getElem?_eq_getElem (by rw [hn1.out]; exact hlt)⟩
    obtain ⟨b1, o1, rfl, z1, g1⟩ := H1.out.1.cells (j := k) (r := x.row) (by rw [List.getElem?_map, hx]; rfl)
    have c1 := HP.out wr x (List.mem_of_getElem? hx) hb.out
    have Hx := hidIt hx
    have p0 := g1 wr hb.out 0 _ rfl
    have p1 := g1 wr hb.out 1 _ rfl
    have p2 := g1 wr hb.out 2 _ rfl
    have p3 := g1 wr hb.out 3 _ rfl
    have p4 := g1 wr hb.out 4 _ rfl
    have p5 := g1 wr hb.out 5 _ rfl
    rw [Nat.add_zero] at p0
    clear g1 hx z1
    cases hq : p x with
    | true =>
     rw [hq] at c1
     obtain rfl : (k : Int) = R := (idxL_hit Hx.out hq A.out).symm.trans hR.out
     go_wp2_with (go_at_fn g; refine c1.mono ?_; rintro e w' ⟨rfl, hb'⟩)
     go_ret
     exact ⟨rfl, below_next hb.out hb'⟩
    | false =>
     rw [hq] at c1
     go_wp2_with (go_at_fn g; refine c1.mono ?_; rintro e w' ⟨rfl, hb'⟩)
     go_roundg (n - (k + 1))
     case measure => omega
     case rel =>
      refine ⟨k + 1, by omega, by omega, by go_num, hidIt (below_next hb.out hb'), hidIt fun j u hj hu => ?_⟩
      by_cases e : j = k
      · subst e
        obtain rfl : x = u := Option.some.inj (Hx.out.symm.trans hu)
        exact hq
      · exact A.out j u (by omega) hu
  · have : k = n := by omega
    subst this
    obtain rfl : (-1 : Int) = R := by
     refine (idxL_none fun j x hj => A.out j x ?_ hj).symm.trans hR.out
     have := (List.getElem?_eq_some_iff.1 hj).1
     rw [hn1.out] at this
     exact this
    go_wp2
    go_ret
    exact ⟨rfl, hb.out⟩
theorem has_func (a : Option Addr) (xs : List FuncX) (c g : Nat) (lb : Array Value) (p : FuncX → Bool) (w : World) (eg : ∀ args w, (callFunc g args).run Tryz.prog w = .ok (.enter g args) w) (h1 : Fns w a xs)
 (hp : ∀ (W : World) (x : FuncX), x ∈ xs → Below w.heap.size w W → Calls Tryz.prog g (#[.agg #[.int .i64 x.at_, .string x.name, .slice x.pa x.params.length x.pc, .slice x.la x.locals.length x.lc, .string x.result, .slice x.ba x.blocks.length x.bc]] ++ lb) W fun e w' => e = .returned (.bool (p x)) ∧ Below W.heap.size W w') :
 Calls Tryz.prog 97 #[.slice a xs.length c, .func (.func g) #[] lb] w fun e w' => e = .returned (.bool (xs.any p)) ∧ Below w.heap.size w w' := by
 have c1 := idx_func a xs c g lb p w eg h1 hp
 clear hp h1
 rcases idxL_has p xs with ⟨e1, i, e2⟩ | ⟨e1, e2⟩
 · rw [e2] at c1; rw [e1]
   clear e1 e2
   go_enter Tryz.func97, Tryz.ntmps97
   go_wp2_with (go_at_call 132; refine c1.mono ?_; rintro e w' ⟨rfl, hb'⟩)
   go_ret
   exact ⟨rfl, hb'⟩
 · rw [e2] at c1; rw [e1]
   clear e1 e2
   go_enter Tryz.func97, Tryz.ntmps97
   go_wp2_with (go_at_call 132; refine c1.mono ?_; rintro e w' ⟨rfl, hb'⟩)
   go_ret
   exact ⟨rfl, hb'⟩
set_option maxHeartbeats 400000 in
theorem every1_func (x : FuncX) (B g : Nat) (lb : Array Value) (r : Bool) (w : World) (eg : ∀ args w, (callFunc g args).run Tryz.prog w = .ok (.enter g args) w) (hB : w.cell? ⟨B, 0, none⟩ = some (.func (.func g) #[] lb))
 (hp : ∀ W, Below w.heap.size w W → Calls Tryz.prog g (#[.agg #[.int .i64 x.at_, .string x.name, .slice x.pa x.params.length x.pc, .slice x.la x.locals.length x.lc, .string x.result, .slice x.ba x.blocks.length x.bc]] ++ lb) W fun e w' => e = .returned (.bool r) ∧ Below W.heap.size W w') :
 Calls Tryz.prog 98 #[.agg #[.int .i64 x.at_, .string x.name, .slice x.pa x.params.length x.pc, .slice x.la x.locals.length x.lc, .string x.result, .slice x.ba x.blocks.length x.bc], .pointer (some ⟨B, 0, none⟩)] w fun e w' => e = .returned (.bool (!r)) ∧ Below w.heap.size w w' := by
 have hb := hidIt (below_new w (.cells #[.int .i64 x.at_, .string x.name, .slice x.pa x.params.length x.pc, .slice x.la x.locals.length x.lc, .string x.result, .slice x.ba x.blocks.length x.bc] 45))
 have hB' := Lib.cell?_alloc_some (.cells #[.int .i64 x.at_, .string x.name, .slice x.pa x.params.length x.pc, .slice x.la x.locals.length x.lc, .string x.result, .slice x.ba x.blocks.length x.bc] 45) hB
 have c1 := hp _ (below_new w (.cells #[.int .i64 x.at_, .string x.name, .slice x.pa x.params.length x.pc, .slice x.la x.locals.length x.lc, .string x.result, .slice x.ba x.blocks.length x.bc] 45))
 clear hp
 go_enter Tryz.func98, Tryz.ntmps98
 go_wp2_with (go_at_fn g; refine c1.mono ?_; rintro e w' ⟨rfl, hb'⟩)
 go_ret
 exact ⟨rfl, below_next hb.out hb'⟩
set_option maxHeartbeats 400000 in
set_option maxRecDepth 100000 in
theorem every_func (a : Option Addr) (xs : List FuncX) (c : Nat) (lo hi : Int) (g : Nat) (lb : Array Value) (r : FuncX → Bool) (w : World) (eg : ∀ args w, (callFunc g args).run Tryz.prog w = .ok (.enter g args) w) (h1 : Fns w a xs)
 (hp : ∀ (W : World) (x : FuncX), x ∈ xs → Below w.heap.size w W → Calls Tryz.prog g (#[.agg #[.int .i64 x.at_, .string x.name, .slice x.pa x.params.length x.pc, .slice x.la x.locals.length x.lc, .string x.result, .slice x.ba x.blocks.length x.bc]] ++ lb) W fun e w' => e = .returned (.bool (r x)) ∧ Below W.heap.size W w') :
 Calls Tryz.prog 49 #[.slice a xs.length c, .agg #[.int .i64 lo, .int .i64 hi], .func (.func g) #[] lb] w fun e w' => e = .returned (.bool (everyL lo hi r xs)) ∧ Below w.heap.size w w' := by
 have n1 := h1.1.big
 rw [List.length_map] at n1
 have hb := hidIt (below_next (below_new w (.cells #[.int .i64 lo, .int .i64 hi] 87)) (below_new _ (.cells #[.func (.func g) #[] lb] 93)))
 unfold everyL
 by_cases hlo : lo ≤ xs.length
 · by_cases hhi : (xs.length : Int) ≤ hi
   · rw [decide_eq_true hlo, decide_eq_true hhi, Bool.true_and, Bool.true_and]
     have c1 : Hid (∀ W, Below w.heap.size w W → W.heap[w.heap.size + 1]? = some (.cells #[.func (.func g) #[] lb] 93) → Calls Tryz.prog 97 #[.slice a xs.length c, .func (.func 98) #[] #[.pointer (some ⟨w.heap.size + 1, 0, none⟩)]] W fun e w' => e = .returned (.bool (!xs.all r)) ∧ Below W.heap.size W w') := hidIt fun W hW hh => by
      have := has_func a xs c 98 #[.pointer (some ⟨w.heap.size + 1, 0, none⟩)] (fun x => !r x) W (fun args w => by kernel_rfl) (h1.on hW) fun W2 x hx hW2 => every1_func x (w.heap.size + 1) g lb (r x) W2 eg (cell_at (heap_on hh hW2) 0) fun W3 hW3 => hp W3 x hx (below_next (below_next hW hW2) hW3)
      rwa [any_not] at this
     obtain ⟨hh1, hh2⟩ := two_at (w := w) (cs := #[.int .i64 lo, .int .i64 hi]) (ds := #[.func (.func g) #[] lb]) (t := 87) (u := 93) rfl rfl (Below.refl _ _)
     have H2 := hidIt hh2
     clear hh1 hh2
     have hlo' : ¬ (xs.length : Int) < lo := by omega
     have hhi' : ¬ hi < (xs.length : Int) := by omega
     clear hp h1 hlo hhi
     generalize xs.length = n at *
     generalize xs.all r = R at *
     go_enter Tryz.func49, Tryz.ntmps49
     go_wp2_with (go_at_call 97; refine (c1.out _ hb.out H2.out).mono ?_; rintro e w' ⟨rfl, hb'⟩)
     go_ret
     exact ⟨by simp, below_next hb.out hb'⟩
   · rw [decide_eq_true hlo, decide_eq_false hhi]
     have hlo' : ¬ (xs.length : Int) < lo := by omega
     have hhi' : hi < (xs.length : Int) := by omega
     clear hp h1 hlo hhi
     generalize xs.length = n at *
     go_enter Tryz.func49, Tryz.ntmps49
     go_wp2_with fail
     go_ret
     exact ⟨rfl, hb.out⟩
 · rw [decide_eq_false hlo]
   have hlo' : (xs.length : Int) < lo := by omega
   clear hp h1 hlo
   generalize xs.length = n at *
   go_enter Tryz.func49, Tryz.ntmps49
   go_wp2_with fail
   go_ret
   exact ⟨rfl, hb.out⟩
theorem every0_func (a : Option Addr) (xs : List FuncX) (c : Nat) (lo hi : Int) (g : Nat) (r : FuncX → Bool) (w : World) (eg : ∀ args w, (callFunc g args).run Tryz.prog w = .ok (.enter g args) w) (h1 : Fns w a xs)
 (hp : ∀ (W : World) (x : FuncX), x ∈ xs → Below w.heap.size w W → Calls Tryz.prog g #[.agg #[.int .i64 x.at_, .string x.name, .slice x.pa x.params.length x.pc, .slice x.la x.locals.length x.lc, .string x.result, .slice x.ba x.blocks.length x.bc]] W fun e w' => e = .returned (.bool (r x)) ∧ Below W.heap.size W w') :
 Calls Tryz.prog 49 #[.slice a xs.length c, .agg #[.int .i64 lo, .int .i64 hi], .func (.func g) #[] #[]] w fun e w' => e = .returned (.bool (everyL lo hi r xs)) ∧ Below w.heap.size w w' :=
 every_func a xs c lo hi g #[] r w eg h1 fun W x hx hW => by rw [Array.append_empty]; exact hp W x hx hW

set_option maxHeartbeats 2000000 in
set_option maxRecDepth 100000 in
theorem idx_struct (a : Option Addr) (xs : List StructX) (c g : Nat) (lb : Array Value) (p : StructX → Bool) (w : World) (eg : ∀ args w, (callFunc g args).run Tryz.prog w = .ok (.enter g args) w) (h1 : Strs w a xs)
 (hp : ∀ (W : World) (x : StructX), x ∈ xs → Below w.heap.size w W → Calls Tryz.prog g (#[.agg #[.int .i64 x.at_, .string x.name, .bool x.safe, .bool x.hook, .slice x.fa x.fields.length x.fc]] ++ lb) W fun e w' => e = .returned (.bool (p x)) ∧ Below W.heap.size W w') :
 Calls Tryz.prog 128 #[.slice a xs.length c, .func (.func g) #[] lb] w fun e w' => e = .returned (.int .i64 (idxL p xs)) ∧ Below w.heap.size w w' := by
 have n1 := h1.1.big
 rw [List.length_map] at n1
 have H1 := hidIt h1
 have HP := hidIt hp
 obtain ⟨n, hn⟩ : ∃ n, xs.length = n := ⟨_, rfl⟩
 rw [hn] at n1 ⊢
 have hn1 := hidIt hn
 clear hn h1 hp
 obtain ⟨R, hR0⟩ : ∃ R, idxL p xs = R := ⟨_, rfl⟩
 rw [hR0]
 have hR := hidIt hR0
 clear hR0
 go_enter Tryz.func128, Tryz.ntmps128
 go_wp2
 go_loopg [5, 8] n (fun gg _ s8 wr => ∃ k : Nat, k ≤ n ∧ n - k ≤ gg ∧ s8 = .int .i64 k ∧ Hid (Below w.heap.size w wr) ∧ Hid (∀ (j : Nat) (x : StructX), j < k → xs[j]? = some x → p x = false))
 case atStart => exact ⟨0, Nat.zero_le _, by omega, rfl, hidIt (Below.refl _ _), hidIt fun j x hj => absurd hj (Nat.not_lt_zero _)⟩
 case round =>
  obtain ⟨k, hk, hg, rfl, hb, A⟩ := hrel
  by_cases hlt : k < n
  · obtain ⟨x, hx⟩ : ∃ x, xs[k]? = some x := ⟨_, List.getElem?_eq_getElem (by rw [hn1.out]; exact hlt)⟩
    obtain ⟨b1, o1, rfl, z1, g1⟩ := H1.out.1.cells (j := k) (r := x.row) (by rw [List.getElem?_map, hx]; rfl)
    have c1 := HP.out wr x (List.mem_of_getElem? hx) hb.out
    have Hx := hidIt hx
    have p0 := g1 wr hb.out 0 _ rfl
    have p1 := g1 wr hb.out 1 _ rfl
    have p2 := g1 wr hb.out 2 _ rfl
    have p3 := g1 wr hb.out 3 _ rfl
    have p4 := g1 wr hb.out 4 _ rfl
    rw [Nat.add_zero] at p0
    clear g1 hx z1
    cases hq : p x with
    | true =>
     rw [hq] at c1
     obtain rfl : (k : Int) = R := (idxL_hit Hx.out hq A.out).symm.trans hR.out
     go_wp2_with (go_at_fn g; refine c1.mono ?_; rintro e w' ⟨rfl, hb'⟩)
     go_ret
     exact ⟨rfl, below_next hb.out hb'⟩
    | false =>
     rw [hq] at c1
     go_wp2_with (go_at_fn g; refine c1.mono ?_; rintro e w' ⟨rfl, hb'⟩)
     go_roundg (n - (k + 1))
     case measure => omega
     case rel =>
      refine ⟨k + 1, by omega, by omega, by go_num, hidIt (below_next hb.out hb'), hidIt fun j u hj hu => ?_⟩
      by_cases e : j = k
      · subst e
        obtain rfl : x = u := Option.some.inj (Hx.out.symm.trans hu)
        exact hq
      · exact A.out j u (by omega) hu
  · have : k = n := by omega
    subst this
    obtain rfl : (-1 : Int) = R := by
     refine (idxL_none fun j x hj => A.out j x ?_ hj).symm.trans hR.out
     have := (List.getElem?_eq_some_iff.1 hj).1
     rw [hn1.out] at this
     exact this
    go_wp2
    go_ret
    exact ⟨rfl, hb.out⟩
theorem has_struct (a : Option Addr) (xs : List StructX) (c g : Nat) (lb : Array Value) (p : StructX → Bool) (w : World) (eg : ∀ args w, (callFunc g args).run Tryz.prog w = .ok (.enter g args) w) (h1 : Strs w a xs)
 (hp : ∀ (W : World) (x : StructX), x ∈ xs → Below w.heap.size w W → Calls Tryz.prog g (#[.agg #[.int .i64 x.at_, .string x.name, .bool x.safe, .bool x.hook, .slice x.fa x.fields.length x.fc]] ++ lb) W fun e w' => e = .returned (.bool (p x)) ∧ Below W.heap.size W w') :
 Calls Tryz.prog 90 #[.slice a xs.length c, .func (.func g) #[] lb] w fun e w' => e = .returned (.bool (xs.any p)) ∧ Below w.heap.size w w' := by
 have c1 := idx_struct a xs c g lb p w eg h1 hp
 clear hp h1
 rcases idxL_has p xs with ⟨e1, i, e2⟩ | ⟨e1, e2⟩
 · rw [e2] at c1; rw [e1]
   clear e1 e2
   go_enter Tryz.func90, Tryz.ntmps90
   go_wp2_with (go_at_call 128; refine c1.mono ?_; rintro e w' ⟨rfl, hb'⟩)
   go_ret
   exact ⟨rfl, hb'⟩
 · rw [e2] at c1; rw [e1]
   clear e1 e2
   go_enter Tryz.func90, Tryz.ntmps90
   go_wp2_with (go_at_call 128; refine c1.mono ?_; rintro e w' ⟨rfl, hb'⟩)
   go_ret
   exact ⟨rfl, hb'⟩
set_option maxHeartbeats 400000 in
theorem every1_struct (x : StructX) (B g : Nat) (lb : Array Value) (r : Bool) (w : World) (eg : ∀ args w, (callFunc g args).run Tryz.prog w = .ok (.enter g args) w) (hB : w.cell? ⟨B, 0, none⟩ = some (.func (.func g) #[] lb))
 (hp : ∀ W, Below w.heap.size w W → Calls Tryz.prog g (#[.agg #[.int .i64 x.at_, .string x.name, .bool x.safe, .bool x.hook, .slice x.fa x.fields.length x.fc]] ++ lb) W fun e w' => e = .returned (.bool r) ∧ Below W.heap.size W w') :
 Calls Tryz.prog 91 #[.agg #[.int .i64 x.at_, .string x.name, .bool x.safe, .bool x.hook, .slice x.fa x.fields.length x.fc], .pointer (some ⟨B, 0, none⟩)] w fun e w' => e = .returned (.bool (!r)) ∧ Below w.heap.size w w' := by
 have hb := hidIt (below_new w (.cells #[.int .i64 x.at_, .string x.name, .bool x.safe, .bool x.hook, .slice x.fa x.fields.length x.fc] 58))
 have hB' := Lib.cell?_alloc_some (.cells #[.int .i64 x.at_, .string x.name, .bool x.safe, .bool x.hook, .slice x.fa x.fields.length x.fc] 58) hB
 have c1 := hp _ (below_new w (.cells #[.int .i64 x.at_, .string x.name, .bool x.safe, .bool x.hook, .slice x.fa x.fields.length x.fc] 58))
 clear hp
 go_enter Tryz.func91, Tryz.ntmps91
 go_wp2_with (go_at_fn g; refine c1.mono ?_; rintro e w' ⟨rfl, hb'⟩)
 go_ret
 exact ⟨rfl, below_next hb.out hb'⟩
set_option maxHeartbeats 400000 in
set_option maxRecDepth 100000 in
theorem every_struct (a : Option Addr) (xs : List StructX) (c : Nat) (lo hi : Int) (g : Nat) (lb : Array Value) (r : StructX → Bool) (w : World) (eg : ∀ args w, (callFunc g args).run Tryz.prog w = .ok (.enter g args) w) (h1 : Strs w a xs)
 (hp : ∀ (W : World) (x : StructX), x ∈ xs → Below w.heap.size w W → Calls Tryz.prog g (#[.agg #[.int .i64 x.at_, .string x.name, .bool x.safe, .bool x.hook, .slice x.fa x.fields.length x.fc]] ++ lb) W fun e w' => e = .returned (.bool (r x)) ∧ Below W.heap.size W w') :
 Calls Tryz.prog 45 #[.slice a xs.length c, .agg #[.int .i64 lo, .int .i64 hi], .func (.func g) #[] lb] w fun e w' => e = .returned (.bool (everyL lo hi r xs)) ∧ Below w.heap.size w w' := by
 have n1 := h1.1.big
 rw [List.length_map] at n1
 have hb := hidIt (below_next (below_new w (.cells #[.int .i64 lo, .int .i64 hi] 87)) (below_new _ (.cells #[.func (.func g) #[] lb] 89)))
 unfold everyL
 by_cases hlo : lo ≤ xs.length
 · by_cases hhi : (xs.length : Int) ≤ hi
   · rw [decide_eq_true hlo, decide_eq_true hhi, Bool.true_and, Bool.true_and]
     have c1 : Hid (∀ W, Below w.heap.size w W → W.heap[w.heap.size + 1]? = some (.cells #[.func (.func g) #[] lb] 89) → Calls Tryz.prog 90 #[.slice a xs.length c, .func (.func 91) #[] #[.pointer (some ⟨w.heap.size + 1, 0, none⟩)]] W fun e w' => e = .returned (.bool (!xs.all r)) ∧ Below W.heap.size W w') := hidIt fun W hW hh => by
      have := has_struct a xs c 91 #[.pointer (some ⟨w.heap.size + 1, 0, none⟩)] (fun x => !r x) W (fun args w => by kernel_rfl) (h1.on hW) fun W2 x hx hW2 => every1_struct x (w.heap.size + 1) g lb (r x) W2 eg (cell_at (heap_on hh hW2) 0) fun W3 hW3 => hp W3 x hx (below_next (below_next hW hW2) hW3)
      rwa [any_not] at this
     obtain ⟨hh1, hh2⟩ := two_at (w := w) (cs := #[.int .i64 lo, .int .i64 hi]) (ds := #[.func (.func g) #[] lb]) (t := 87) (u := 89) rfl rfl (Below.refl _ _)
     have H2 := hidIt hh2
     clear hh1 hh2
     have hlo' : ¬ (xs.length : Int) < lo := by omega
     have hhi' : ¬ hi < (xs.length : Int) := by omega
     clear hp h1 hlo hhi
     generalize xs.length = n at *
     generalize xs.all r = R at *
     go_enter Tryz.func45, Tryz.ntmps45
     go_wp2_with (go_at_call 90; refine (c1.out _ hb.out H2.out).mono ?_; rintro e w' ⟨rfl, hb'⟩)
     go_ret
     exact ⟨by simp, below_next hb.out hb'⟩
   · rw [decide_eq_true hlo, decide_eq_false hhi]
     have hlo' : ¬ (xs.length : Int) < lo := by omega
     have hhi' : hi < (xs.length : Int) := by omega
     clear hp h1 hlo hhi
     generalize xs.length = n at *
     go_enter Tryz.func45, Tryz.ntmps45
     go_wp2_with fail
     go_ret
     exact ⟨rfl, hb.out⟩
 · rw [decide_eq_false hlo]
   have hlo' : (xs.length : Int) < lo := by omega
   clear hp h1 hlo
   generalize xs.length = n at *
   go_enter Tryz.func45, Tryz.ntmps45
   go_wp2_with fail
   go_ret
   exact ⟨rfl, hb.out⟩
theorem every0_struct (a : Option Addr) (xs : List StructX) (c : Nat) (lo hi : Int) (g : Nat) (r : StructX → Bool) (w : World) (eg : ∀ args w, (callFunc g args).run Tryz.prog w = .ok (.enter g args) w) (h1 : Strs w a xs)
 (hp : ∀ (W : World) (x : StructX), x ∈ xs → Below w.heap.size w W → Calls Tryz.prog g #[.agg #[.int .i64 x.at_, .string x.name, .bool x.safe, .bool x.hook, .slice x.fa x.fields.length x.fc]] W fun e w' => e = .returned (.bool (r x)) ∧ Below W.heap.size W w') :
 Calls Tryz.prog 45 #[.slice a xs.length c, .agg #[.int .i64 lo, .int .i64 hi], .func (.func g) #[] #[]] w fun e w' => e = .returned (.bool (everyL lo hi r xs)) ∧ Below w.heap.size w w' :=
 every_struct a xs c lo hi g #[] r w eg h1 fun W x hx hW => by rw [Array.append_empty]; exact hp W x hx hW

set_option maxHeartbeats 2000000 in
set_option maxRecDepth 100000 in
theorem idx_enum (a : Option Addr) (xs : List EnumX) (c g : Nat) (lb : Array Value) (p : EnumX → Bool) (w : World) (eg : ∀ args w, (callFunc g args).run Tryz.prog w = .ok (.enter g args) w) (h1 : Ens w a xs)
 (hp : ∀ (W : World) (x : EnumX), x ∈ xs → Below w.heap.size w W → Calls Tryz.prog g (#[.agg #[.int .i64 x.at_, .string x.name, .slice x.va x.variants.length x.vc]] ++ lb) W fun e w' => e = .returned (.bool (p x)) ∧ Below W.heap.size W w') :
 Calls Tryz.prog 131 #[.slice a xs.length c, .func (.func g) #[] lb] w fun e w' => e = .returned (.int .i64 (idxL p xs)) ∧ Below w.heap.size w w' := by
 have n1 := h1.1.big
 rw [List.length_map] at n1
 have H1 := hidIt h1
 have HP := hidIt hp
 obtain ⟨n, hn⟩ : ∃ n, xs.length = n := ⟨_, rfl⟩
 rw [hn] at n1 ⊢
 have hn1 := hidIt hn
 clear hn h1 hp
 obtain ⟨R, hR0⟩ : ∃ R, idxL p xs = R := ⟨_, rfl⟩
 rw [hR0]
 have hR := hidIt hR0
 clear hR0
 go_enter Tryz.func131, Tryz.ntmps131
 go_wp2
 go_loopg [5, 8] n (fun gg _ s8 wr => ∃ k : Nat, k ≤ n ∧ n - k ≤ gg ∧ s8 = .int .i64 k ∧ Hid (Below w.heap.size w wr) ∧ Hid (∀ (j : Nat) (x : EnumX), j < k → xs[j]? = some x → p x = false))
 case atStart => exact ⟨0, Nat.zero_le _, by omega, rfl, hidIt (Below.refl _ _), hidIt fun j x hj => absurd hj (Nat.not_lt_zero _)⟩
 case round =>
  obtain ⟨k, hk, hg, rfl, hb, A⟩ := hrel
  by_cases hlt : k < n
  · obtain ⟨x, hx⟩ : ∃ x, xs[k]? = some x := ⟨_, List.getElem?_eq_getElem (by rw [hn1.out]; exact hlt)⟩
    obtain ⟨b1, o1, rfl, z1, g1⟩ := H1.out.1.cells (j := k) (r := x.row) (by rw [List.getElem?_map, hx]; rfl)
    have c1 := HP.out wr x (List.mem_of_getElem? hx) hb.out
    have Hx := hidIt hx
    have p0 := g1 wr hb.out 0 _ rfl
    have p1 := g1 wr hb.out 1 _ rfl
    have p2 := g1 wr hb.out 2 _ rfl
    rw [Nat.add_zero] at p0
    clear g1 hx z1
    cases hq : p x with
    | true =>
     rw [hq] at c1
     obtain rfl : (k : Int) = R := (idxL_hit Hx.out hq A.out).symm.trans hR.out
     go_wp2_with (go_at_fn g; refine c1.mono ?_; rintro e w' ⟨rfl, hb'⟩)
     go_ret
     exact ⟨rfl, below_next hb.out hb'⟩
    | false =>
     rw [hq] at c1
     go_wp2_with (go_at_fn g; refine c1.mono ?_; rintro e w' ⟨rfl, hb'⟩)
     go_roundg (n - (k + 1))
     case measure => omega
     case rel =>
      refine ⟨k + 1, by omega, by omega, by go_num, hidIt (below_next hb.out hb'), hidIt fun j u hj hu => ?_⟩
      by_cases e : j = k
      · subst e
        obtain rfl : x = u := Option.some.inj (Hx.out.symm.trans hu)
        exact hq
      · exact A.out j u (by omega) hu
  · have : k = n := by omega
    subst this
    obtain rfl : (-1 : Int) = R := by
     refine (idxL_none fun j x hj => A.out j x ?_ hj).symm.trans hR.out
     have := (List.getElem?_eq_some_iff.1 hj).1
     rw [hn1.out] at this
     exact this
    go_wp2
    go_ret
    exact ⟨rfl, hb.out⟩
theorem has_enum (a : Option Addr) (xs : List EnumX) (c g : Nat) (lb : Array Value) (p : EnumX → Bool) (w : World) (eg : ∀ args w, (callFunc g args).run Tryz.prog w = .ok (.enter g args) w) (h1 : Ens w a xs)
 (hp : ∀ (W : World) (x : EnumX), x ∈ xs → Below w.heap.size w W → Calls Tryz.prog g (#[.agg #[.int .i64 x.at_, .string x.name, .slice x.va x.variants.length x.vc]] ++ lb) W fun e w' => e = .returned (.bool (p x)) ∧ Below W.heap.size W w') :
 Calls Tryz.prog 94 #[.slice a xs.length c, .func (.func g) #[] lb] w fun e w' => e = .returned (.bool (xs.any p)) ∧ Below w.heap.size w w' := by
 have c1 := idx_enum a xs c g lb p w eg h1 hp
 clear hp h1
 rcases idxL_has p xs with ⟨e1, i, e2⟩ | ⟨e1, e2⟩
 · rw [e2] at c1; rw [e1]
   clear e1 e2
   go_enter Tryz.func94, Tryz.ntmps94
   go_wp2_with (go_at_call 131; refine c1.mono ?_; rintro e w' ⟨rfl, hb'⟩)
   go_ret
   exact ⟨rfl, hb'⟩
 · rw [e2] at c1; rw [e1]
   clear e1 e2
   go_enter Tryz.func94, Tryz.ntmps94
   go_wp2_with (go_at_call 131; refine c1.mono ?_; rintro e w' ⟨rfl, hb'⟩)
   go_ret
   exact ⟨rfl, hb'⟩
set_option maxHeartbeats 400000 in
theorem every1_enum (x : EnumX) (B g : Nat) (lb : Array Value) (r : Bool) (w : World) (eg : ∀ args w, (callFunc g args).run Tryz.prog w = .ok (.enter g args) w) (hB : w.cell? ⟨B, 0, none⟩ = some (.func (.func g) #[] lb))
 (hp : ∀ W, Below w.heap.size w W → Calls Tryz.prog g (#[.agg #[.int .i64 x.at_, .string x.name, .slice x.va x.variants.length x.vc]] ++ lb) W fun e w' => e = .returned (.bool r) ∧ Below W.heap.size W w') :
 Calls Tryz.prog 95 #[.agg #[.int .i64 x.at_, .string x.name, .slice x.va x.variants.length x.vc], .pointer (some ⟨B, 0, none⟩)] w fun e w' => e = .returned (.bool (!r)) ∧ Below w.heap.size w w' := by
 have hb := hidIt (below_new w (.cells #[.int .i64 x.at_, .string x.name, .slice x.va x.variants.length x.vc] 70))
 have hB' := Lib.cell?_alloc_some (.cells #[.int .i64 x.at_, .string x.name, .slice x.va x.variants.length x.vc] 70) hB
 have c1 := hp _ (below_new w (.cells #[.int .i64 x.at_, .string x.name, .slice x.va x.variants.length x.vc] 70))
 clear hp
 go_enter Tryz.func95, Tryz.ntmps95
 go_wp2_with (go_at_fn g; refine c1.mono ?_; rintro e w' ⟨rfl, hb'⟩)
 go_ret
 exact ⟨rfl, below_next hb.out hb'⟩
set_option maxHeartbeats 400000 in
set_option maxRecDepth 100000 in
theorem every_enum (a : Option Addr) (xs : List EnumX) (c : Nat) (lo hi : Int) (g : Nat) (lb : Array Value) (r : EnumX → Bool) (w : World) (eg : ∀ args w, (callFunc g args).run Tryz.prog w = .ok (.enter g args) w) (h1 : Ens w a xs)
 (hp : ∀ (W : World) (x : EnumX), x ∈ xs → Below w.heap.size w W → Calls Tryz.prog g (#[.agg #[.int .i64 x.at_, .string x.name, .slice x.va x.variants.length x.vc]] ++ lb) W fun e w' => e = .returned (.bool (r x)) ∧ Below W.heap.size W w') :
 Calls Tryz.prog 47 #[.slice a xs.length c, .agg #[.int .i64 lo, .int .i64 hi], .func (.func g) #[] lb] w fun e w' => e = .returned (.bool (everyL lo hi r xs)) ∧ Below w.heap.size w w' := by
 have n1 := h1.1.big
 rw [List.length_map] at n1
 have hb := hidIt (below_next (below_new w (.cells #[.int .i64 lo, .int .i64 hi] 87)) (below_new _ (.cells #[.func (.func g) #[] lb] 91)))
 unfold everyL
 by_cases hlo : lo ≤ xs.length
 · by_cases hhi : (xs.length : Int) ≤ hi
   · rw [decide_eq_true hlo, decide_eq_true hhi, Bool.true_and, Bool.true_and]
     have c1 : Hid (∀ W, Below w.heap.size w W → W.heap[w.heap.size + 1]? = some (.cells #[.func (.func g) #[] lb] 91) → Calls Tryz.prog 94 #[.slice a xs.length c, .func (.func 95) #[] #[.pointer (some ⟨w.heap.size + 1, 0, none⟩)]] W fun e w' => e = .returned (.bool (!xs.all r)) ∧ Below W.heap.size W w') := hidIt fun W hW hh => by
      have := has_enum a xs c 95 #[.pointer (some ⟨w.heap.size + 1, 0, none⟩)] (fun x => !r x) W (fun args w => by kernel_rfl) (h1.on hW) fun W2 x hx hW2 => every1_enum x (w.heap.size + 1) g lb (r x) W2 eg (cell_at (heap_on hh hW2) 0) fun W3 hW3 => hp W3 x hx (below_next (below_next hW hW2) hW3)
      rwa [any_not] at this
     obtain ⟨hh1, hh2⟩ := two_at (w := w) (cs := #[.int .i64 lo, .int .i64 hi]) (ds := #[.func (.func g) #[] lb]) (t := 87) (u := 91) rfl rfl (Below.refl _ _)
     have H2 := hidIt hh2
     clear hh1 hh2
     have hlo' : ¬ (xs.length : Int) < lo := by omega
     have hhi' : ¬ hi < (xs.length : Int) := by omega
     clear hp h1 hlo hhi
     generalize xs.length = n at *
     generalize xs.all r = R at *
     go_enter Tryz.func47, Tryz.ntmps47
     go_wp2_with (go_at_call 94; refine (c1.out _ hb.out H2.out).mono ?_; rintro e w' ⟨rfl, hb'⟩)
     go_ret
     exact ⟨by simp, below_next hb.out hb'⟩
   · rw [decide_eq_true hlo, decide_eq_false hhi]
     have hlo' : ¬ (xs.length : Int) < lo := by omega
     have hhi' : hi < (xs.length : Int) := by omega
     clear hp h1 hlo hhi
     generalize xs.length = n at *
     go_enter Tryz.func47, Tryz.ntmps47
     go_wp2_with fail
     go_ret
     exact ⟨rfl, hb.out⟩
 · rw [decide_eq_false hlo]
   have hlo' : (xs.length : Int) < lo := by omega
   clear hp h1 hlo
   generalize xs.length = n at *
   go_enter Tryz.func47, Tryz.ntmps47
   go_wp2_with fail
   go_ret
   exact ⟨rfl, hb.out⟩
theorem every0_enum (a : Option Addr) (xs : List EnumX) (c : Nat) (lo hi : Int) (g : Nat) (r : EnumX → Bool) (w : World) (eg : ∀ args w, (callFunc g args).run Tryz.prog w = .ok (.enter g args) w) (h1 : Ens w a xs)
 (hp : ∀ (W : World) (x : EnumX), x ∈ xs → Below w.heap.size w W → Calls Tryz.prog g #[.agg #[.int .i64 x.at_, .string x.name, .slice x.va x.variants.length x.vc]] W fun e w' => e = .returned (.bool (r x)) ∧ Below W.heap.size W w') :
 Calls Tryz.prog 47 #[.slice a xs.length c, .agg #[.int .i64 lo, .int .i64 hi], .func (.func g) #[] #[]] w fun e w' => e = .returned (.bool (everyL lo hi r xs)) ∧ Below w.heap.size w w' :=
 every_enum a xs c lo hi g #[] r w eg h1 fun W x hx hW => by rw [Array.append_empty]; exact hp W x hx hW

end Go.Proofs.YtlppbgmcoknliaaGreatDoor
