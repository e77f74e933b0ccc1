/-
  The walk of LexCuts.
-/
import Derived.Test.YtinppjjhjijoeaaAlive
import Derived.Test.YtinppjjhjijoeaaShift
import Derived.Deep.QuietTactic
import Derived.BigQuiet
namespace Go.Proofs.Ytinppjjhjijoeaa
set_option linter.unusedVariables false
open Go.RowKit

theorem feed_list (a b : ByteArray) : (a ++ ⟨#[10]⟩ ++ b).data.toList = a.data.toList ++ 10 :: b.data.toList := by simp [ByteArray.data_append]
theorem feed_size (a b : ByteArray) : (a ++ ⟨#[10]⟩ ++ b).size = a.size + 1 + b.size := by
  rw [size_list, feed_list, List.length_append, List.length_cons, ← size_list, ← size_list]; omega

set_option maxHeartbeats 1000000 in
theorem cuts_early (a b : ByteArray) (h : 4000 < a.size ∨ 4000 < b.size) (w : World) :
    Calls Try.prog 6 #[.string a, .string b] w fun e w' => e = .returned (.bool true) ∧ Below w.heap.size w w' := by
  have c9 := alive_any w
  by_cases h1 : 4000 < a.size
  · clear h
    go_enter Try.func6, Try.ntmps6
    go_wp2_with (go_at_call 9; refine c9.mono ?_)
    rintro e w1 ⟨rfl, hb⟩
    have hb := hidIt hb
    clear c9
    go_wp2
    go_ret
    exact ⟨rfl, hb.out⟩
  · have h2 : 4000 < b.size := by omega
    have h3 : a.size ≤ 4000 := by omega
    clear h h1
    go_enter Try.func6, Try.ntmps6
    go_wp2_with (go_at_call 9; refine c9.mono ?_)
    rintro e w1 ⟨rfl, hb⟩
    have hb := hidIt hb
    clear c9
    go_wp2
    go_ret
    exact ⟨rfl, hb.out⟩

set_option maxHeartbeats 2000000 in
theorem cuts_first (a b : ByteArray) (ha : a.size ≤ 4000) (hb : b.size ≤ 4000) (q : Nat) (h : lexL a.data.toList = .error q) (w : World) :
    Calls Try.prog 6 #[.string a, .string b] w fun e w' => e = .returned (.bool true) ∧ Below w.heap.size w w' := by
  have c9 := alive_any w
  have h3 : lexL (a ++ ⟨#[10]⟩ ++ b).data.toList = .error q := by rw [feed_list, lexL_cut, h]; rfl
  have c1 := fun w => lex_err (s := a) (by omega) h w
  have c2 := fun w => lex_any b (by omega) w
  have c3 := fun w => lex_err (s := a ++ ⟨#[10]⟩ ++ b) (by rw [feed_size]; omega) h3 w
  clear h h3
  go_enter Try.func6, Try.ntmps6
  go_wp2_with (go_at_call 9; refine c9.mono ?_)
  rintro e w1 ⟨rfl, b1⟩
  have b1 := hidIt b1
  clear c9
  go_wp2_with (go_at_call 10; refine (c1 _).mono ?_)
  rintro e w2 ⟨rfl, b2⟩
  have b2 := hidIt b2
  clear c1
  go_wp2_with (go_at_call 10; refine (c2 _).mono ?_)
  rintro e w3 ⟨v, x, y, rfl, b3, _⟩
  have b3 := hidIt b3
  clear c2
  go_wp2_with (go_at_call 10; refine (c3 _).mono ?_)
  rintro e w4 ⟨rfl, b4⟩
  have q1 := heap_on (box_at b3.out) (below_box b4)
  have x0 : ∀ o, (w4.alloc o).cell? ⟨w2.heap.size, 0, none⟩ = some (.int .i64 q) := fun o => cell_later (below_new w4 o) (cell_at q1 0)
  have x1 : ∀ o, (w4.alloc o).cell? ⟨w2.heap.size, 1, none⟩ = some (.int .i64 1) := fun o => cell_later (below_new w4 o) (cell_at q1 1)
  have BB := hidIt fun o => below_next (below_next b1.out (below_next b2.out (below_next (below_box b3.out) (below_box b4)))) (below_new w4 o)
  clear q1 b1 b2 b3 b4 c3
  by_cases hq : ((q : Int) == 0) = true
  · go_wp2
    go_ret
    exact ⟨rfl, BB.out _⟩
  · have hq : ((q : Int) == 0) = false := by simpa using hq
    go_wp2
    go_ret
    exact ⟨rfl, BB.out _⟩

set_option maxHeartbeats 2000000 in
theorem cuts_second (a b : ByteArray) (ha : a.size ≤ 4000) (hb : b.size ≤ 4000) (ts : List Tok) (q : Nat) (h1 : lexL a.data.toList = .ok ts) (h2 : lexL b.data.toList = .error q) (w : World) :
    Calls Try.prog 6 #[.string a, .string b] w fun e w' => e = .returned (.bool true) ∧ Below w.heap.size w w' := by
  have c9 := alive_any w
  have hq := lexL_err h2
  rw [← size_list] at hq
  have h3 : lexL (a ++ ⟨#[10]⟩ ++ b).data.toList = .error (q + (a.size + 1)) := by rw [feed_list, lexL_cut, h1, size_list]; simp only [comb, h2, shiftR]
  have c1 := fun w => lex_ok (s := a) (by omega) h1 w
  have c2 := fun w => lex_err (s := b) (by omega) h2 w
  have c3 := fun w => lex_err (s := a ++ ⟨#[10]⟩ ++ b) (by rw [feed_size]; omega) h3 w
  have ec : ((q + (a.size + 1) : Nat) : Int) = (q : Int) + (a.size : Int) + 1 := by omega
  rw [ec] at c3
  clear h1 h2 h3 ec
  generalize ts.length = n at c1
  go_enter Try.func6, Try.ntmps6
  go_wp2_with (go_at_call 9; refine c9.mono ?_)
  rintro e w1 ⟨rfl, b1⟩
  have b1 := hidIt b1
  clear c9
  go_wp2_with (go_at_call 10; refine (c1 _).mono ?_)
  rintro e w2 ⟨ao1, cap1, rfl, ⟨_, b2⟩⟩
  have b2 := hidIt b2
  clear c1
  go_wp2_with (go_at_call 10; refine (c2 _).mono ?_)
  rintro e w3 ⟨rfl, b3⟩
  have b3 := hidIt b3
  clear c2
  go_wp2_with (go_at_call 10; refine (c3 _).mono ?_)
  rintro e w4 ⟨rfl, b4⟩
  have q1 := heap_on (box_at b3.out) (below_box b4)
  have q2 := box_at b4
  have x0 : ∀ o, (w4.alloc o).cell? ⟨w2.heap.size, 0, none⟩ = some (.int .i64 0) := fun o => cell_later (below_new w4 o) (cell_at q1 0)
  have x1 : ∀ o, (w4.alloc o).cell? ⟨w2.heap.size, 1, none⟩ = some (.int .i64 0) := fun o => cell_later (below_new w4 o) (cell_at q1 1)
  have y0 : ∀ o, (w4.alloc o).cell? ⟨w3.heap.size, 0, none⟩ = some (.int .i64 q) := fun o => cell_later (below_new w4 o) (cell_at q2 0)
  have y1 : ∀ o, (w4.alloc o).cell? ⟨w3.heap.size, 1, none⟩ = some (.int .i64 1) := fun o => cell_later (below_new w4 o) (cell_at q2 1)
  have BB := hidIt fun o => below_next (below_next b1.out (below_next b2.out (below_next (below_box b3.out) (below_box b4)))) (below_new w4 o)
  clear q1 q2 b1 b2 b3 b4 c3
  by_cases hq0 : ((q : Int) == 0) = true
  · go_wp2
    go_ret
    exact ⟨rfl, BB.out _⟩
  · have hq0 : ((q : Int) == 0) = false := by simpa using hq0
    go_wp2
    go_ret
    exact ⟨rfl, BB.out _⟩

theorem below_drewN {B : Nat} {a w : World} (h : Below B a w) (n : Nat) : Below B a (w.drewN n) := ⟨h.os, h.tape, h.output, h.size, h.block⟩
/-- A token's cells, by values. -/
def TokAt (w : World) (g k : Nat) (K A : Int) (T : ByteArray) (N : Int) : Prop :=
  w.cell? ⟨g, k * 4, none⟩ = some (.int .i64 K) ∧ w.cell? ⟨g, k * 4 + 1, none⟩ = some (.int .i64 A) ∧ w.cell? ⟨g, k * 4 + 2, none⟩ = some (.string T) ∧ w.cell? ⟨g, k * 4 + 3, none⟩ = some (.int .i64 N)
theorem TokAt.on {w w' : World} {g k : Nat} {K A N : Int} {T : ByteArray} (h : TokAt w g k K A T N) (hb : Below w.heap.size w w') : TokAt w' g k K A T N :=
  ⟨cell_later hb h.1, cell_later hb h.2.1, cell_later hb h.2.2.1, cell_later hb h.2.2.2⟩
theorem Row.tok {w w' : World} {ao : Option Addr} {cap : Nat} {ts : List Tok} (h : Row w w' ao cap ts) {k : Nat} (hk : k < ts.length) :
    ∃ g, ao = some ⟨g, 0, none⟩ ∧ TokAt w' g k ts[k].kind ts[k].at_ ⟨ts[k].text.toArray⟩ ts[k].n := by
  obtain ⟨g, hg, _, d⟩ := row_at h.row hk
  exact ⟨g, hg, d⟩

set_option maxHeartbeats 4000000 in
theorem cuts_both (a b : ByteArray) (ha : a.size ≤ 4000) (hb : b.size ≤ 4000) (ts us : List Tok) (h1 : lexL a.data.toList = .ok ts) (h2 : lexL b.data.toList = .ok us) (w : World) :
    Calls Try.prog 6 #[.string a, .string b] w fun e w' => e = .returned (.bool true) ∧ Below w.heap.size w w' := by
  have c9 := alive_any w
  have l1 := lexL_len h1
  have l2 := lexL_len h2
  have hat := hidIt (lexL_at h2)
  rw [← size_list] at l1 l2 hat
  have h3 : lexL (a ++ ⟨#[10]⟩ ++ b).data.toList = .ok (ts ++ us.map (shiftT (a.size + 1))) := by rw [feed_list, lexL_cut, h1, size_list]; simp only [comb, h2, shiftR]
  have c1 := fun w => lex_ok (s := a) (by omega) h1 w
  have c2 := fun w => lex_ok (s := b) (by omega) h2 w
  have c3 := fun w => lex_ok (s := a ++ ⟨#[10]⟩ ++ b) (by rw [feed_size]; omega) h3 w
  have hl3 : (ts ++ us.map (shiftT (a.size + 1))).length = ts.length + us.length := by rw [List.length_append, List.length_map]
  rw [hl3] at c3
  have hl3 := hidIt hl3
  clear h1 h2 h3
  go_enter Try.func6, Try.ntmps6
  go_wp2_with (go_at_call 9; refine c9.mono ?_)
  rintro e w1 ⟨rfl, b1⟩
  have b1 := hidIt b1
  clear c9
  go_wp2_with (go_at_call 10; refine (c1 _).mono ?_)
  rintro e w2 ⟨ao1, cap1, rfl, r1⟩
  have r1 := hidIt r1
  clear c1
  go_wp2_with (go_at_call 10; refine (c2 _).mono ?_)
  rintro e w3 ⟨ao2, cap2, rfl, r2⟩
  have r2 := hidIt r2
  clear c2
  go_wp2_with (go_at_call 10; refine (c3 _).mono ?_)
  rintro e w4 ⟨ao3, cap3, rfl, r3⟩
  have q1 := heap_on (box_at r2.out.bel) (below_box r3.bel)
  have q2 := box_at r3.bel
  have x0 : ∀ o, (w4.alloc o).cell? ⟨w2.heap.size, 0, none⟩ = some (.int .i64 0) := fun o => cell_later (below_new w4 o) (cell_at q1 0)
  have x1 : ∀ o, (w4.alloc o).cell? ⟨w2.heap.size, 1, none⟩ = some (.int .i64 0) := fun o => cell_later (below_new w4 o) (cell_at q1 1)
  have y0 : ∀ o, (w4.alloc o).cell? ⟨w3.heap.size, 0, none⟩ = some (.int .i64 0) := fun o => cell_later (below_new w4 o) (cell_at q2 0)
  have y1 : ∀ o, (w4.alloc o).cell? ⟨w3.heap.size, 1, none⟩ = some (.int .i64 0) := fun o => cell_later (below_new w4 o) (cell_at q2 1)
  have BB := hidIt fun o => below_next (below_next b1.out (below_next r1.out.bel (below_next (below_box r2.out.bel) (below_box r3.bel)))) (below_new w4 o)
  have R1 := hidIt fun o => ((r1.out.kept (below_box r2.out.bel)).kept (below_box r3.bel)).kept (below_new w4 o)
  have R2 := hidIt fun o => (r2.out.kept (below_box r3.bel)).kept (below_new w4 o)
  have R3 := hidIt fun o => r3.kept (below_new w4 o)
  clear q1 q2 b1 r1 r2 r3 c3
  go_wp2
  clear x0 x1 y0 y1
  have R1 := R1.out (Obj.cells #[Value.int IntKind.i64 0, Value.int IntKind.i64 0] 25)
  have R2 := R2.out (Obj.cells #[Value.int IntKind.i64 0, Value.int IntKind.i64 0] 25)
  have R3 := R3.out (Obj.cells #[Value.int IntKind.i64 0, Value.int IntKind.i64 0] 25)
  have BB := BB.out (Obj.cells #[Value.int IntKind.i64 0, Value.int IntKind.i64 0] 25)
  generalize w4.alloc (Obj.cells #[Value.int IntKind.i64 0, Value.int IntKind.i64 0] 25) = W at R1 R2 R3 BB ⊢
  have R1 := hidIt R1
  have R2 := hidIt R2
  have R3 := hidIt R3
  have BB := hidIt BB
  go_loopw [11] (fun i wr => ∃ k : Nat, k ≤ ts.length + us.length ∧ i = .int .i64 k ∧ Hid (Below W.heap.size W wr)) (fun i _ => ts.length + us.length - (intOf i).toNat)
  case atStart => exact ⟨0, Nat.zero_le _, rfl, Below.refl _ _⟩
  case round =>
    obtain ⟨k, hk, rfl, HB⟩ := hrel
    by_cases hlt : k < ts.length + us.length
    · obtain ⟨g3, rfl, T3⟩ := (R3.out.kept HB.out).tok (k := k) (by rw [hl3.out]; exact hlt)
      by_cases hl : k < ts.length
      · obtain ⟨g1, rfl, T1⟩ := (R1.out.kept HB.out).tok (k := k) hl
        have e3 : (ts ++ us.map (shiftT (a.size + 1)))[k]'(by rw [hl3.out]; exact hlt) = ts[k]'hl := List.getElem_append_left _
        rw [e3] at T3
        clear e3
        generalize (ts[k]'hl) = t at T1 T3
        generalize (t.kind : Int) = K at T1 T3
        generalize (t.at_ : Int) = A at T1 T3
        generalize (⟨t.text.toArray⟩ : ByteArray) = T at T1 T3
        generalize t.n = N at T1 T3
        have s0 : ∀ o, (wr.alloc o).cell? ⟨g1, k * 4, none⟩ = some (.int .i64 K) := fun o => (T1.on (below_new wr o)).1
        have s1 : ∀ o, (wr.alloc o).cell? ⟨g1, k * 4 + 1, none⟩ = some (.int .i64 A) := fun o => (T1.on (below_new wr o)).2.1
        have s2 : ∀ o, (wr.alloc o).cell? ⟨g1, k * 4 + 2, none⟩ = some (.string T) := fun o => (T1.on (below_new wr o)).2.2.1
        have s3 : ∀ o, (wr.alloc o).cell? ⟨g1, k * 4 + 3, none⟩ = some (.int .i64 N) := fun o => (T1.on (below_new wr o)).2.2.2
        have r0 : ∀ o, (wr.alloc o).cell? ⟨g3, k * 4, none⟩ = some (.int .i64 K) := fun o => (T3.on (below_new wr o)).1
        have r1 : ∀ o, (wr.alloc o).cell? ⟨g3, k * 4 + 1, none⟩ = some (.int .i64 A) := fun o => (T3.on (below_new wr o)).2.1
        have r2 : ∀ o, (wr.alloc o).cell? ⟨g3, k * 4 + 2, none⟩ = some (.string T) := fun o => (T3.on (below_new wr o)).2.2.1
        have r3 : ∀ o, (wr.alloc o).cell? ⟨g3, k * 4 + 3, none⟩ = some (.int .i64 N) := fun o => (T3.on (below_new wr o)).2.2.2
        have HB2 := hidIt fun o => below_next HB.out (below_new wr o)
        clear T1 T3 R1 R2 R3 BB HB hat hl3
        have hi : (k : Int) < (ts.length : Int) + (us.length : Int) := by omega
        have hi0 : (0 : Int) ≤ (k : Int) := by omega
        go_wp2
        go_quiet (fail)
        go_wp2
        go_roundw
        case rel => exact ⟨k + 1, by omega, by go_num, below_drewN (HB2.out _) _⟩
        case measure => simp [intOf]; omega
      · have hge : ts.length ≤ k := by omega
        have hjl : k - ts.length < us.length := by omega
        obtain ⟨g2, rfl, T2⟩ := (R2.out.kept HB.out).tok (k := k - ts.length) hjl
        have e3 : (ts ++ us.map (shiftT (a.size + 1)))[k]'(by rw [hl3.out]; exact hlt) = shiftT (a.size + 1) us[k - ts.length] := by
          rw [List.getElem_append_right hge, List.getElem_map]
        rw [e3] at T3
        clear e3
        have hA := hat.out us[k - ts.length] (List.getElem_mem _)
        generalize us[k - ts.length] = t at T2 T3 hA
        obtain ⟨tk, ta, tt, tn⟩ := t
        simp only [shiftT] at T2 T3 hA
        have ec : ((ta + (a.size + 1) : Nat) : Int) = (ta : Int) + ((a.size : Int) + 1) := by omega
        rw [ec] at T3
        clear ec
        generalize (tk : Int) = K at T2 T3
        generalize (⟨tt.toArray⟩ : ByteArray) = T at T2 T3
        have s0 : ∀ o, (wr.alloc o).cell? ⟨g2, (k - ts.length) * 4, none⟩ = some (.int .i64 K) := fun o => (T2.on (below_new wr o)).1
        have s1 : ∀ o, (wr.alloc o).cell? ⟨g2, (k - ts.length) * 4 + 1, none⟩ = some (.int .i64 ta) := fun o => (T2.on (below_new wr o)).2.1
        have s2 : ∀ o, (wr.alloc o).cell? ⟨g2, (k - ts.length) * 4 + 2, none⟩ = some (.string T) := fun o => (T2.on (below_new wr o)).2.2.1
        have s3 : ∀ o, (wr.alloc o).cell? ⟨g2, (k - ts.length) * 4 + 3, none⟩ = some (.int .i64 tn) := fun o => (T2.on (below_new wr o)).2.2.2
        have r0 : ∀ o, (wr.alloc o).cell? ⟨g3, k * 4, none⟩ = some (.int .i64 K) := fun o => (T3.on (below_new wr o)).1
        have r1 : ∀ o, (wr.alloc o).cell? ⟨g3, k * 4 + 1, none⟩ = some (.int .i64 ((ta : Int) + ((a.size : Int) + 1))) := fun o => (T3.on (below_new wr o)).2.1
        have r2 : ∀ o, (wr.alloc o).cell? ⟨g3, k * 4 + 2, none⟩ = some (.string T) := fun o => (T3.on (below_new wr o)).2.2.1
        have r3 : ∀ o, (wr.alloc o).cell? ⟨g3, k * 4 + 3, none⟩ = some (.int .i64 tn) := fun o => (T3.on (below_new wr o)).2.2.2
        have HB2 := hidIt fun o => below_next HB.out (below_new wr o)
        have hj2 : (k : Int) - (ts.length : Int) < (us.length : Int) := by omega
        have hj0 : (0 : Int) ≤ (k : Int) - (ts.length : Int) := by omega
        have hnl : ¬ ((k : Int) < (ts.length : Int)) := by omega
        clear T2 T3 R1 R2 R3 BB HB hat hl3 hjl hl hge
        have hi : (k : Int) < (ts.length : Int) + (us.length : Int) := by omega
        go_wp2
        go_quiet (fail)
        go_wp2
        go_roundw
        case rel => exact ⟨k + 1, by omega, by go_num, below_drewN (HB2.out _) _⟩
        case measure => simp [intOf]; omega
    · obtain rfl : k = ts.length + us.length := by omega
      have BB2 := hidIt (below_next BB.out HB.out)
      clear R1 R2 R3 BB HB
      go_wp2
      go_ret
      exact ⟨rfl, BB2.out⟩

theorem cuts_walk (a b : ByteArray) (ha : a.size ≤ maxLen) (hb : b.size ≤ maxLen) (w : World) :
    Calls Try.prog 6 #[.string a, .string b] w fun e w' => e = .returned (.bool true) ∧ Below w.heap.size w w' := by
  by_cases h : 4000 < a.size ∨ 4000 < b.size
  · exact cuts_early a b h w
  · cases h1 : lexL a.data.toList with
    | error q => exact cuts_first a b (by omega) (by omega) q h1 w
    | ok ts =>
      cases h2 : lexL b.data.toList with
      | error q => exact cuts_second a b (by omega) (by omega) ts q h1 h2 w
      | ok us => exact cuts_both a b (by omega) (by omega) ts us h1 h2 w
end Go.Proofs.Ytinppjjhjijoeaa
