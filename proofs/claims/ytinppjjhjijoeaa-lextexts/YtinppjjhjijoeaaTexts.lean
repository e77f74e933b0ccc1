/-
  The walks of Same and of LexTexts.
-/
import Derived.Test.YtinppjjhjijoeaaRLex
import Derived.Test.YtinppjjhjijoeaaShift
import Derived.Deep.QuietTactic
import Derived.BigQuiet
namespace Go.Proofs.Ytinppjjhjijoeaa
set_option linter.unusedVariables false
open Go.RowKit

theorem below_drew {B : Nat} {a w : World} (h : Below B a w) (n : Nat) : Below B a (w.drewN n) := ⟨h.os, h.tape, h.output, h.size, h.block⟩
/-- A row of the document's tokens that a call laid. -/
structure RRow (w w' : World) (ao : Option Addr) (cap : Nat) (ts : List Tok) : Prop where
  row : w'.ownsRow w.heap.size 36 4 (.slice ao ts.length cap) ts.length (tokCells ts)
  bel : Below w.heap.size w w'
theorem rrow_at {w : World} {B : Nat} {ao : Option Addr} {cap : Nat} {ts : List Tok} (h : w.ownsRow B 36 4 (.slice ao ts.length cap) ts.length (tokCells ts)) {k : Nat} (hk : k < ts.length) :
    ∃ g, ao = some ⟨g, 0, none⟩ ∧ w.cell? ⟨g, k * 4, none⟩ = some (.int .i64 (ts[k].kind : Int)) ∧ w.cell? ⟨g, k * 4 + 1, none⟩ = some (.int .i64 (ts[k].at_ : Int)) ∧ w.cell? ⟨g, k * 4 + 2, none⟩ = some (.string ⟨ts[k].text.toArray⟩) ∧ w.cell? ⟨g, k * 4 + 3, none⟩ = some (.int .i64 ts[k].n) := by
  rcases h.2 with ⟨_, h0⟩ | ⟨g, cap', cur, hv, hB, hg, hle, _, hsz, htk⟩
  · omega
  · injection hv with h1 h2 h3
    subst h1 h3
    have hc := fun (j : Nat) (hj : j < 4) => (h.cellAt (k * 4 + j) (by omega)).trans ((congrArg (fun i => (tokCells ts)[i]?) (by omega : k * 4 + j = 4 * k + j)).trans (tokCells_get ts k hk j hj))
    exact ⟨g, rfl, hc 0 (by omega), hc 1 (by omega), hc 2 (by omega), hc 3 (by omega)⟩
theorem rlex_ok {s : ByteArray} {ts : List Tok} (hs : s.size ≤ 16384) (h : lexL s.data.toList = .ok ts) (w : World) :
    Calls Try.prog 11 #[.string s] w fun e w' => ∃ (ao : Option Addr) (cap : Nat), e = .returned (.tuple #[.slice ao ts.length cap, .agg #[.int .i64 0, .int .i64 0]]) ∧ RRow w w' ao cap ts := by
  refine (rlex_any s hs w).mono ?_
  rintro e w' ⟨v, a, c, rfl, hb, ha⟩
  rw [h] at ha
  obtain ⟨rfl, rfl, ho⟩ := ha
  rcases ho.2 with ⟨rfl, h0⟩ | ⟨g, cap, cur, rfl, _⟩
  · exact ⟨none, 0, by rw [h0], by rw [h0] at ho ⊢; exact ho, hb⟩
  · exact ⟨_, _, rfl, ho, hb⟩
theorem rlex_err {s : ByteArray} {q : Nat} (hs : s.size ≤ 16384) (h : lexL s.data.toList = .error q) (w : World) :
    Calls Try.prog 11 #[.string s] w fun e w' => e = .returned (.tuple #[.slice none 0 0, .agg #[.int .i64 (q : Int), .int .i64 1]]) ∧ Below w.heap.size w w' := by
  refine (rlex_any s hs w).mono ?_
  rintro e w' ⟨v, a, c, rfl, hb, ha⟩
  rw [h] at ha
  obtain ⟨rfl, rfl, rfl⟩ := ha
  exact ⟨rfl, hb⟩
theorem RRow.kept {w w' w2 : World} {ao : Option Addr} {cap : Nat} {ts : List Tok} (h : RRow w w' ao cap ts) (h2 : Below w'.heap.size w' w2) : RRow w w2 ao cap ts :=
  ⟨row_kept h.row h2, h.bel.trans (h2.mono h.bel.size)⟩

set_option maxHeartbeats 2000000 in
theorem same_any (ts : List Tok) (ao1 ao2 : Option Addr) (cap1 cap2 B1 B2 : Nat) (w : World) (h1 : w.ownsRow B1 35 4 (.slice ao1 ts.length cap1) ts.length (tokCells ts)) (h2 : w.ownsRow B2 36 4 (.slice ao2 ts.length cap2) ts.length (tokCells ts)) (hc : ts.length ≤ 1000000) :
    Calls Try.prog 12 #[.slice ao1 ts.length cap1, .slice ao2 ts.length cap2] w fun e w' => e = .returned (.bool true) ∧ Below w.heap.size w w' := by
  have H1 := hidIt h1
  have H2 := hidIt h2
  clear h1 h2
  go_enter Try.func12, Try.ntmps12
  go_wp2
  go_loopw [5] (fun i wr => ∃ k : Nat, k ≤ ts.length ∧ i = .int .i64 k ∧ Hid (Below w.heap.size w wr)) (fun i _ => ts.length - (intOf i).toNat)
  case atStart => exact ⟨0, Nat.zero_le _, rfl, Below.refl _ _⟩
  case round =>
    obtain ⟨k, hk, rfl, HB⟩ := hrel
    by_cases hlt : k < ts.length
    · obtain ⟨g1, rfl, _, d0, d1, d2, d3⟩ := row_at (row_kept H1.out HB.out) (k := k) hlt
      obtain ⟨g2, rfl, e0, e1, e2, e3⟩ := rrow_at (row_kept H2.out HB.out) (k := k) hlt
      generalize (ts[k].kind : Int) = K at d0 e0
      generalize (ts[k].at_ : Int) = A at d1 e1
      generalize (⟨ts[k].text.toArray⟩ : ByteArray) = T at d2 e2
      generalize ts[k].n = N at d3 e3
      have hi : (k : Int) < (ts.length : Int) := by omega
      clear H1 H2
      go_wp2
      go_quiet (fail)
      go_wp2
      go_roundw
      case rel => exact ⟨k + 1, by omega, by go_num, below_drew HB.out _⟩
      case measure => simp [intOf]; omega
    · obtain rfl : k = ts.length := by omega
      clear H1 H2
      go_wp2
      go_ret
      exact ⟨rfl, HB.out⟩

set_option maxHeartbeats 1000000 in
theorem texts_early (a b : ByteArray) (h : 17000 < a.size ∨ 1000 < b.size) (w : World) :
    Calls Try.prog 3 #[.string a, .string b] w fun e w' => e = .returned (.bool true) ∧ Below w.heap.size w w' := by
  have c9 := alive_any w
  by_cases h1 : (17000 : Int) < (a.size : Int)
  · clear h
    go_enter Try.func3, Try.ntmps3
    go_wp2_with (go_at_call 9; refine c9.mono ?_)
    rintro e w1 ⟨rfl, hb⟩
    have hb' := hidIt hb
    clear c9 hb
    go_wp2
    go_ret
    exact ⟨rfl, hb'.out⟩
  · have h2 : (1000 : Int) < (b.size : Int) := by omega
    have h3 : (a.size : Int) ≤ 17000 := by omega
    clear h h1
    go_enter Try.func3, Try.ntmps3
    go_wp2_with (go_at_call 9; refine c9.mono ?_)
    rintro e w1 ⟨rfl, hb⟩
    have hb' := hidIt hb
    clear c9 hb
    go_wp2
    go_ret
    exact ⟨rfl, hb'.out⟩

set_option maxHeartbeats 4000000 in
theorem texts_ok (a b : ByteArray) (ha : a.size ≤ 16384) (hb : b.size ≤ 1000) (ts : List Tok) (hq : lexL a.data.toList = .ok ts) (hl : ts.length ≤ 1000000) (w : World) :
    Calls Try.prog 3 #[.string a, .string b] w fun e w' => e = .returned (.bool true) ∧ Below w.heap.size w w' := by
  have c9 := alive_any w
  have c10 := fun w => lex_ok ha hq w
  have c11 := fun w => rlex_ok ha hq w
  have c13 := word_any b
  have c14 := rword_any b
  have c15 := isName_any b (by omega)
  have c16 := rname_any b (by omega)
  generalize isWord b.data.toList = x at c13 c14
  generalize nameB b.data.toList = y at c15 c16
  clear hq
  go_enter Try.func3, Try.ntmps3
  go_wp2_with (go_at_call 9; refine c9.mono ?_)
  rintro e w1 ⟨rfl, b1⟩
  have b1' := hidIt b1
  clear c9 b1
  go_wp2_with (go_at_call 10; refine (c10 _).mono ?_)
  rintro e w2 ⟨ao1, cap1, rfl, r1⟩
  have r1' := hidIt r1
  clear c10 r1
  go_wp2_with (go_at_call 11; refine (c11 _).mono ?_)
  rintro e w3 ⟨ao2, cap2, rfl, r2⟩
  have R1 := hidIt fun o => (r1'.out.kept (below_box r2.bel)).kept (below_new w3 o)
  have R2 := hidIt fun o => r2.kept (below_new w3 o)
  have q0 := heap_on (box_at r2.bel) (below_new w3 (.cells #[.int .i64 0, .int .i64 0] 25))
  have BB := hidIt fun o => below_next (below_next (below_next b1'.out r1'.out.bel) (below_box r2.bel)) (below_new w3 o)
  have c12 := fun o => same_any ts ao1 ao2 cap1 cap2 _ _ (w3.alloc o) (R1.out o).row (R2.out o).row hl
  have qH := hidIt q0
  clear c11 r2 q0 R1 R2 r1' b1'
  go_wp2_with (go_at_call 12; refine (c12 _).mono ?_)
  rintro e w4 ⟨rfl, b4⟩
  have x0 := cell_later b4 (cell_at qH.out 0)
  have x1 := cell_later b4 (cell_at qH.out 1)
  have y0 := cell_later b4 (cell_at (heap_alloc_new w3 (.cells #[.int .i64 0, .int .i64 0] 25)) 0)
  have y1 := cell_later b4 (cell_at (heap_alloc_new w3 (.cells #[.int .i64 0, .int .i64 0] 25)) 1)
  have B4 := hidIt (below_next (BB.out _) b4)
  clear c12 b4 qH BB
  go_wp2_with (first | (go_at_call 13; refine (c13 _).mono ?_; rintro e w' ⟨rfl, rfl⟩) | (go_at_call 14; refine (c14 _).mono ?_))
  rintro e w5 ⟨rfl, b5⟩
  have B5 := hidIt (below_next B4.out b5)
  clear B4 b5 x0 x1 y0 y1 c13 c14
  cases x
  all_goals
    go_wp2_with (go_at_call 15; refine (c15 _).mono ?_)
    rintro e w6 ⟨rfl, b6⟩
    have B6 := hidIt (below_next B5.out b6)
    clear B5 b6 c15
    go_wp2_with (go_at_call 16; refine (c16 _).mono ?_)
    rintro e w7 ⟨rfl, b7⟩
    have B7 := hidIt (below_next B6.out b7)
    clear B6 b7 c16
    cases y
    all_goals
      go_wp2
      go_ret
      exact ⟨rfl, B7.out⟩

/-- What both Lex answer where there are no tokens. -/
structure NoLex (a : ByteArray) (p c : Int) : Prop where
  lex : ∀ w, Calls Try.prog 10 #[.string a] w fun e w' => e = .returned (.tuple #[.slice none 0 0, .agg #[.int .i64 p, .int .i64 c]]) ∧ Below w.heap.size w w'
  ref : ∀ w, Calls Try.prog 11 #[.string a] w fun e w' => e = .returned (.tuple #[.slice none 0 0, .agg #[.int .i64 p, .int .i64 c]]) ∧ Below w.heap.size w w'

set_option maxHeartbeats 4000000 in
theorem texts_none (a b : ByteArray) (ha : a.size ≤ 17000) (hb : b.size ≤ 1000) (p c : Int) (hq : NoLex a p c) (w : World) :
    Calls Try.prog 3 #[.string a, .string b] w fun e w' => e = .returned (.bool true) ∧ Below w.heap.size w w' := by
  have c9 := alive_any w
  obtain ⟨c10, c11⟩ := hq
  have c12 := fun w => same_any [] none none 0 0 0 0 w (World.ownsRow_nil _ _ _ _) (World.ownsRow_nil _ _ _ _) (by decide)
  simp only [List.length_nil] at c12
  have c13 := word_any b
  have c14 := rword_any b
  have c15 := isName_any b (by omega)
  have c16 := rname_any b (by omega)
  generalize isWord b.data.toList = x at c13 c14
  generalize nameB b.data.toList = y at c15 c16
  go_enter Try.func3, Try.ntmps3
  go_wp2_with (go_at_call 9; refine c9.mono ?_)
  rintro e w1 ⟨rfl, b1⟩
  have b1' := hidIt b1
  clear c9 b1
  go_wp2_with (go_at_call 10; refine (c10 _).mono ?_)
  rintro e w2 ⟨rfl, r1⟩
  have r1' := hidIt r1
  clear c10 r1
  go_wp2_with (go_at_call 11; refine (c11 _).mono ?_)
  rintro e w3 ⟨rfl, r2⟩
  have q0 := heap_on (box_at r2) (below_new w3 (.cells #[.int .i64 p, .int .i64 c] 25))
  have BB := hidIt fun o => below_next (below_next (below_next b1'.out r1'.out) (below_box r2)) (below_new w3 o)
  have qH := hidIt q0
  clear c11 r2 q0 r1' b1'
  go_wp2_with (go_at_call 12; refine (c12 _).mono ?_)
  rintro e w4 ⟨rfl, b4⟩
  have x0 := cell_later b4 (cell_at qH.out 0)
  have x1 := cell_later b4 (cell_at qH.out 1)
  have y0 := cell_later b4 (cell_at (heap_alloc_new w3 (.cells #[.int .i64 p, .int .i64 c] 25)) 0)
  have y1 := cell_later b4 (cell_at (heap_alloc_new w3 (.cells #[.int .i64 p, .int .i64 c] 25)) 1)
  have B4 := hidIt (below_next (BB.out _) b4)
  clear c12 b4 qH BB
  go_wp2_with (first | (go_at_call 13; refine (c13 _).mono ?_; rintro e w' ⟨rfl, rfl⟩) | (go_at_call 14; refine (c14 _).mono ?_))
  rintro e w5 ⟨rfl, b5⟩
  have B5 := hidIt (below_next B4.out b5)
  clear B4 b5 x0 x1 y0 y1 c13 c14
  cases x
  all_goals
    go_wp2_with (go_at_call 15; refine (c15 _).mono ?_)
    rintro e w6 ⟨rfl, b6⟩
    have B6 := hidIt (below_next B5.out b6)
    clear B5 b6 c15
    go_wp2_with (go_at_call 16; refine (c16 _).mono ?_)
    rintro e w7 ⟨rfl, b7⟩
    have B7 := hidIt (below_next B6.out b7)
    clear B6 b7 c16
    cases y
    all_goals
      go_wp2
      go_ret
      exact ⟨rfl, B7.out⟩

theorem texts_walk (a b : ByteArray) (ha : a.size ≤ maxLen) (hb : b.size ≤ maxLen) (w : World) :
    Calls Try.prog 3 #[.string a, .string b] w fun e w' => e = .returned (.bool true) ∧ Below w.heap.size w w' := by
  by_cases h : 17000 < a.size ∨ 1000 < b.size
  · exact texts_early a b h w
  · by_cases h2 : 16384 < a.size
    · exact texts_none a b (by omega) (by omega) _ _ ⟨fun w => lex_many a h2 w, fun w => rlex_many a h2 w⟩ w
    · cases hq : lexL a.data.toList with
      | error q => exact texts_none a b (by omega) (by omega) _ _ ⟨fun w => lex_err (by omega) hq w, fun w => rlex_err (by omega) hq w⟩ w
      | ok ts => exact texts_ok a b (by omega) (by omega) ts hq (by have := lexL_len hq; rw [← size_list] at this; omega) w
end Go.Proofs.Ytinppjjhjijoeaa
