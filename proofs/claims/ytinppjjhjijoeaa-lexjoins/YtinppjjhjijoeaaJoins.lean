/-
  The walk of LexJoins.
-/
import Derived.Test.YtinppjjhjijoeaaRJoin
import Derived.Deep.QuietTactic
import Derived.BigQuiet
namespace Go.Proofs.Ytinppjjhjijoeaa
set_option linter.unusedVariables false
open Go.RowKit

theorem info36 : (Try.prog.info? 36).map (fun i => (i.zero, i.size, i.bytes)) = some (some (.agg #[.int .i64 0, .int .i64 0, .string ⟨#[]⟩, .int .i64 0]), 4, 40) := by kernel_rfl

theorem below_drewN {B : Nat} {a w : World} (h : Below B a w) (n : Nat) : Below B a (w.drewN n) := ⟨h.os, h.tape, h.output, h.size, h.block⟩
/-- The document's tokens with texts alone. -/
def bare (ts : List Tok) : List Tok := ts.map fun t => ⟨0, 0, t.text, 0⟩
theorem bare_len (ts : List Tok) : (bare ts).length = ts.length := by simp [bare]
theorem bare_texts (ts : List Tok) : texts (bare ts) = texts ts := by simp [bare, texts]
theorem bare_next (ts : List Tok) (k : Nat) (h : k < ts.length) : tokCells (bare (ts.take (k + 1))) = tokCells (bare (ts.take k)) ++ [.int .i64 0, .int .i64 0, .string ⟨ts[k].text.toArray⟩, .int .i64 0] := by
  rw [List.take_succ_eq_append_getElem h]
  simp only [bare, tokCells, tokCell, List.map_append, List.map_cons, List.map_nil, List.flatMap_append, List.flatMap_cons, List.flatMap_nil, List.append_nil]
  rfl
theorem own_empty {w : World} {e : TypeId} {b : Nat} (h : w.heap[b]? = some (.cells #[] e (0, 0))) : w.ownsRow b e 4 (.slice (some ⟨b, 0, none⟩) 0 0) 0 [] :=
  ⟨rfl, .inr ⟨b, 0, #[], rfl, Nat.le_refl _, h, Nat.le_refl _, Nat.zero_le _, rfl, rfl⟩⟩

set_option maxHeartbeats 1000000 in
theorem joins_early (s : ByteArray) (h : 8000 < s.size) (w : World) :
    Calls Try.prog 4 #[.string s] w fun e w' => e = .returned (.bool true) ∧ Below w.heap.size w w' := by
  have c9 := alive_any w
  go_enter Try.func4, Try.ntmps4
  go_wp2_with (go_at_call 9; refine c9.mono ?_)
  rintro e w1 ⟨rfl, hb⟩
  have hb := hidIt hb
  clear c9
  go_wp2
  go_ret
  exact ⟨rfl, hb.out⟩

set_option maxHeartbeats 1000000 in
theorem joins_err (s : ByteArray) (h : s.size ≤ 8000) (q : Nat) (hq : lexL s.data.toList = .error q) (w : World) :
    Calls Try.prog 4 #[.string s] w fun e w' => e = .returned (.bool true) ∧ Below w.heap.size w w' := by
  have c9 := alive_any w
  have c1 := fun w => lex_err (s := s) (by omega) hq w
  clear hq
  go_enter Try.func4, Try.ntmps4
  go_wp2_with (go_at_call 9; refine c9.mono ?_)
  rintro e w1 ⟨rfl, b1⟩
  have b1 := hidIt b1
  clear c9
  go_wp2_with (go_at_call 10; refine (c1 _).mono ?_)
  rintro e w2 ⟨rfl, b2⟩
  have BB := hidIt fun o => below_next (below_next b1.out b2) (below_new w2 o)
  clear c1 b1 b2
  by_cases hq0 : ((q : Int) == 0) = true
  · go_wp2
    go_ret
    exact ⟨rfl, BB.out _⟩
  · have hq0 : ((q : Int) == 0) = false := by simpa using hq0
    go_wp2
    go_ret
    exact ⟨rfl, BB.out _⟩

/-- Within the first loop. -/
structure OI (B : Nat) (W wr : World) (v : Value) (ts : List Tok) (k : Nat) : Prop where
  row : wr.ownsRow B 36 4 v k (tokCells (bare (ts.take k)))
  bel : Below W.heap.size W wr
  eq : B = W.heap.size
theorem OI.start (W : World) (B : Nat) (hB : B = W.heap.size) (ts : List Tok) : OI B W (W.alloc (.cells #[] 36)) (.slice (some ⟨B, 0, none⟩) 0 0) ts 0 := by
  subst hB
  exact ⟨own_empty (heap_alloc_new W _), below_new W _, rfl⟩
theorem OI.next {B : Nat} {W wr w3 : World} {v v' : Value} {ts : List Tok} {k : Nat} {o : Obj} (h : OI B W wr v ts k) (hk : k < ts.length)
    (ho : w3.ownsRow B 36 4 v' (k + 1) (tokCells (bare (ts.take k)) ++ [.int .i64 0, .int .i64 0, .string ⟨ts[k].text.toArray⟩, .int .i64 0]))
    (hg : (wr.alloc o).grownBy w3 v.ownBlock) : OI B W w3 v' ts (k + 1) := by
  have hs := h.bel.size
  refine ⟨by rw [bare_next ts k hk]; exact ho, ?_, h.eq⟩
  exact (h.bel.alloc hs _).grown hg (by rw [World.size_alloc]; omega) fun j hj => by have := (h.row.lt j hj).1; have := h.eq; omega

set_option maxHeartbeats 4000000 in
theorem joins_ok (s : ByteArray) (h : s.size ≤ 8000) (ts : List Tok) (hq : lexL s.data.toList = .ok ts) (w : World) :
    Calls Try.prog 4 #[.string s] w fun e w' => e = .returned (.bool true) ∧ Below w.heap.size w w' := by
  have c9 := alive_any w
  have hl1 := lexL_len hq
  obtain ⟨hok, hjl⟩ := lexL_toks hq
  rw [← size_list] at hl1 hjl
  have c1 := fun w => lex_ok (s := s) (by omega) hq w
  have hj := lexL_join hok
  have c2 := fun w => lex_ok (s := ⟨(joinL (texts ts)).toArray⟩) (by rw [size_list]; show (joinL (texts ts)).length ≤ _; omega) hj w
  rw [relex_len] at c2
  clear hq hj hok
  go_enter Try.func4, Try.ntmps4
  go_wp2_with (go_at_call 9; refine c9.mono ?_)
  rintro e w1 ⟨rfl, b1⟩
  have b1 := hidIt b1
  clear c9
  go_wp2_with (go_at_call 10; refine (c1 _).mono ?_)
  rintro e w2 ⟨ao1, cap1, rfl, r1⟩
  have BB := hidIt fun o => below_next (below_next b1.out r1.bel) (below_new w2 o)
  have R1 := hidIt fun o => r1.kept (below_new w2 o)
  clear c1 b1 r1
  go_wp2
  have R1 := R1.out (Obj.cells #[Value.int IntKind.i64 0, Value.int IntKind.i64 0] 25)
  have BB := BB.out (Obj.cells #[Value.int IntKind.i64 0, Value.int IntKind.i64 0] 25)
  have hst := OI.start (w2.alloc (Obj.cells #[Value.int IntKind.i64 0, Value.int IntKind.i64 0] 25)) (w2.heap.size + 1) (by rw [World.size_alloc]) ts
  have R1 := hidIt R1
  have BB := hidIt BB
  have hst := hidIt hst
  obtain ⟨W, hW⟩ : ∃ W, W = w2.alloc (Obj.cells #[Value.int IntKind.i64 0, Value.int IntKind.i64 0] 25) := ⟨_, rfl⟩
  rw [← hW] at R1 BB hst
  go_loopw [5, 6] (fun v i wr => ∃ k : Nat, k ≤ ts.length ∧ i = .int .i64 k ∧ Hid (OI (w2.heap.size + 1) W wr v ts k)) (fun _ i _ => ts.length - (intOf i).toNat)
  case atStart => exact ⟨0, Nat.zero_le _, rfl, by rw [← hW]; exact hst.out⟩
  case round =>
    clear hst
    have hW := hidIt hW
    obtain ⟨k, hk, rfl, HO⟩ := hrel
    by_cases hlt : k < ts.length
    · obtain ⟨g1, rfl, _, _, _, d2, _⟩ := row_at (R1.out.kept HO.out.bel).row (k := k) hlt
      have HN := fun (w3 : World) (v' : Value) (o : Obj) ho hg => OI.next (w3 := w3) (v' := v') (o := o) HO.out hlt ho hg
      generalize (⟨ts[k].text.toArray⟩ : ByteArray) = T at d2 HN
      have HN := hidIt HN
      have hsz := hidIt HO.out.bel.size
      have heq := hidIt HO.out.eq
      clear BB R1 c2
      obtain ⟨i0, hi, hz0, hz1, hz2⟩ := info_parts info36
      go_wp2_with (at_builtin; go_must (refine wpList_append_own _ rfl _ _ 28 rfl (w2.heap.size + 1) 36 i0 _ 4 40 Try.underlying28 hi hz0 hz1 hz2 rfl (by decide) _ _ _ rfl (HO.out.row.alloc _) ⟨wr.heap.size, 0, none⟩ 1 1 [.int .i64 0, .int .i64 0, .string T, .int .i64 0] rfl rfl (cell_row_new _ _ _ _ rfl) (by simp [Value.oneCell']) (by unfold maxLen; omega) (by omega) (by have := hsz.out; have := heq.out; rw [World.size_alloc]; omega) ?_))
      intro v' w3 ho hg _
      have HI := hidIt (HN.out _ _ _ ho hg)
      clear ho hg HN HO hsz heq
      go_wp2
      go_roundw
      case rel => exact ⟨k + 1, by omega, by go_num, HI⟩
      case measure => simp [intOf]; omega
    · obtain rfl : k = ts.length := by omega
      have hrow := HO.out.row
      rw [List.take_length] at hrow
      obtain ⟨ao5, cap5, rfl⟩ : ∃ ao cap, u5 = .slice ao ts.length cap := by
        rcases hrow.2 with ⟨hv, h0⟩ | ⟨g, cap, cur, hv, _⟩
        · exact ⟨none, 0, by rw [hv, h0]⟩
        · exact ⟨_, _, hv⟩
      have hbel := hidIt HO.out.bel
      have hrow := hidIt hrow
      have c17 := hidIt (join_any ts ao1 cap1 w1.heap.size wr (R1.out.kept hbel.out).row (by omega) (by omega))
      clear HO hlt hk
      go_wp2_with (go_at_call 17; refine c17.out.mono ?_)
      rintro e w5 ⟨rfl, b5⟩
      have b5 := hidIt b5
      have c18 := rjoin_any (bare ts) ao5 cap5 (w2.heap.size + 1) w5 (by rw [bare_len]; exact row_kept hrow.out b5.out) (by rw [bare_len]; omega) (by rw [bare_texts]; omega)
      rw [bare_texts, bare_len] at c18
      have c18 := hidIt c18
      have RR1 := hidIt ((R1.out.kept hbel.out).kept b5.out)
      have B5 := hidIt (below_next (below_next BB.out hbel.out) b5.out)
      clear c17 hrow hbel b5 R1 BB
      generalize (⟨(joinL (texts ts)).toArray⟩ : ByteArray) = S at c2 c18 ⊢
      go_wp2_with (go_at_call 18; refine c18.out.mono ?_)
      rintro e w6 ⟨rfl, rfl⟩
      clear c18
      go_wp2_with (go_at_call 10; refine (c2 _).mono ?_)
      rintro e w6 ⟨ao2, cap2, rfl, r2⟩
      have R2 := hidIt fun o => r2.kept (below_new w6 o)
      have RR1 := hidIt fun o => (RR1.out.kept r2.bel).kept (below_new w6 o)
      have B6 := hidIt fun o => below_next (below_next B5.out r2.bel) (below_new w6 o)
      clear c2 r2 B5
      go_wp2
      have R2 := R2.out (Obj.cells #[Value.int IntKind.i64 0, Value.int IntKind.i64 0] 25)
      have RR1 := RR1.out (Obj.cells #[Value.int IntKind.i64 0, Value.int IntKind.i64 0] 25)
      have B6 := B6.out (Obj.cells #[Value.int IntKind.i64 0, Value.int IntKind.i64 0] 25)
      generalize w6.alloc (Obj.cells #[Value.int IntKind.i64 0, Value.int IntKind.i64 0] 25) = X at R2 RR1 B6 ⊢
      have R2 := hidIt R2
      have RR1 := hidIt RR1
      have B6 := hidIt B6
      go_loopw [10] (fun i wr => ∃ k : Nat, k ≤ ts.length ∧ i = .int .i64 k ∧ Hid (Below X.heap.size X wr)) (fun i _ => ts.length - (intOf i).toNat)
      case atStart => exact ⟨0, Nat.zero_le _, rfl, Below.refl _ _⟩
      case round =>
        obtain ⟨k, hk, rfl, HB⟩ := hrel
        by_cases hlt : k < ts.length
        · obtain ⟨g1, rfl, _, d0, _, d2, d3⟩ := row_at (RR1.out.kept HB.out).row (k := k) hlt
          obtain ⟨g2, rfl, _, e0, _, e2, e3⟩ := row_at (R2.out.kept HB.out).row (k := k) (by rw [relex_len]; exact hlt)
          obtain ⟨x1, x2, x3⟩ := relex_get ts 0 k hlt (by rw [relex_len]; exact hlt)
          rw [x1] at e0
          rw [x2] at e2
          rw [x3] at e3
          clear x1 x2 x3
          generalize (ts[k].kind : Int) = K at d0 e0
          generalize (⟨ts[k].text.toArray⟩ : ByteArray) = T at d2 e2
          generalize ts[k].n = N at d3 e3
          have hi : (k : Int) < (ts.length : Int) := by omega
          clear RR1 R2 B6
          go_wp2
          go_quiet (fail)
          go_wp2
          go_roundw
          case rel => exact ⟨k + 1, by omega, by go_num, below_drewN HB.out _⟩
          case measure => simp [intOf]; omega
        · obtain rfl : k = ts.length := by omega
          have BE := hidIt (below_next B6.out HB.out)
          clear RR1 R2 B6 HB
          go_wp2
          go_ret
          exact ⟨rfl, BE.out⟩

theorem joins_walk (s : ByteArray) (hs : s.size ≤ maxLen) (w : World) :
    Calls Try.prog 4 #[.string s] w fun e w' => e = .returned (.bool true) ∧ Below w.heap.size w w' := by
  by_cases h : 8000 < s.size
  · exact joins_early s h w
  · cases hq : lexL s.data.toList with
    | error q => exact joins_err s (by omega) q hq w
    | ok ts => exact joins_ok s (by omega) ts hq w
end Go.Proofs.Ytinppjjhjijoeaa
