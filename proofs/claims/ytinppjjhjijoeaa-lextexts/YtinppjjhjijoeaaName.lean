/-
  The walk of Name, and what a caller of Lex takes.
-/
import Derived.Test.YtinppjjhjijoeaaJoin
namespace Go.Proofs.Ytinppjjhjijoeaa
set_option linter.unusedVariables false
open Go.RowKit

/-- What Name answers. -/
def nameB (l : List UInt8) : Bool :=
  match firstL l with
  | none => false
  | some x => x.kind == 1 && l.take x.size == l

set_option maxHeartbeats 1000000 in
theorem isName_any (s : ByteArray) (hs : s.size ≤ 100000000) (w : World) :
    Calls Try.prog 15 #[.string s] w fun e w' => e = .returned (.bool (nameB s.data.toList)) ∧ Below w.heap.size w w' := by
  have c1 := first_any s hs
  unfold nameB
  rw [← ByteArray.toList_eq]
  rw [← ByteArray.toList_eq] at c1
  cases hf : firstL s.toList with
  | none =>
    rw [hf] at c1
    simp only [fstV] at c1
    clear hf
    go_enter Try.func15, Try.ntmps15
    go_wp2_with (first | (go_at_call 20; refine (c1 _).mono ?_; rintro e w' ⟨rfl, hb⟩; have hb := hidIt hb))
    go_ret
    exact ⟨rfl, hb.out.alloc hb.out.size _⟩
  | some x =>
    rw [hf] at c1
    simp only [fstV] at c1
    clear hf
    simp only
    by_cases hk : x.kind = 1
    · have hk1 : ((x.kind : Int) == 1) = true := by simp; omega
      have hk2 : (x.kind == 1) = true := by simp; omega
      rw [hk2, Bool.true_and]
      generalize (x.kind : Int) = K at c1 hk1
      have el : (⟨(s.toList.take x.size).toArray⟩ : ByteArray).toList = s.toList.take x.size := ByteArray.toList_mk _
      clear hk hk2
      generalize (s.toList.take x.size) = tk at c1 el ⊢
      go_enter Try.func15, Try.ntmps15
      go_wp2_with (first | (go_at_call 20; refine (c1 _).mono ?_; rintro e w' ⟨rfl, hb⟩; have hb := hidIt hb))
      go_ret
      exact ⟨rfl, hb.out.alloc hb.out.size _⟩
    · have hk1 : ((x.kind : Int) == 1) = false := by simp; omega
      have hk2 : (x.kind == 1) = false := by simp; omega
      rw [hk2, Bool.false_and]
      generalize (x.kind : Int) = K at c1 hk1
      clear hk hk2
      go_enter Try.func15, Try.ntmps15
      go_wp2_with (first | (go_at_call 20; refine (c1 _).mono ?_; rintro e w' ⟨rfl, hb⟩; have hb := hidIt hb))
      go_ret
      exact ⟨rfl, hb.out.alloc hb.out.size _⟩

/-- A row of tokens that a call laid. -/
structure Row (w w' : World) (ao : Option Addr) (cap : Nat) (ts : List Tok) : Prop where
  row : w'.ownsRow w.heap.size 35 4 (.slice ao ts.length cap) ts.length (tokCells ts)
  bel : Below w.heap.size w w'

theorem lex_ok {s : ByteArray} {ts : List Tok} (hs : s.size ≤ 16384) (h : lexL s.data.toList = .ok ts) (w : World) :
    Calls Try.prog 10 #[.string s] w fun e w' => ∃ (ao : Option Addr) (cap : Nat), e = .returned (.tuple #[.slice ao ts.length cap, .agg #[.int .i64 0, .int .i64 0]]) ∧ Row w w' ao cap ts := by
  refine (lex_any s hs w).mono ?_
  rintro e w' ⟨v, a, c, rfl, hb, ha⟩
  rw [h] at ha
  obtain ⟨rfl, rfl, ho⟩ := ha
  rcases ho.2 with ⟨rfl, h0⟩ | ⟨g, cap, cur, rfl, _⟩
  · exact ⟨none, 0, by rw [h0], by rw [h0] at ho ⊢; exact ho, hb⟩
  · exact ⟨_, _, rfl, ho, hb⟩
theorem lex_err {s : ByteArray} {q : Nat} (hs : s.size ≤ 16384) (h : lexL s.data.toList = .error q) (w : World) :
    Calls Try.prog 10 #[.string s] w fun e w' => e = .returned (.tuple #[.slice none 0 0, .agg #[.int .i64 (q : Int), .int .i64 1]]) ∧ Below w.heap.size w w' := by
  refine (lex_any s hs w).mono ?_
  rintro e w' ⟨v, a, c, rfl, hb, ha⟩
  rw [h] at ha
  obtain ⟨rfl, rfl, rfl⟩ := ha
  exact ⟨rfl, hb⟩
theorem Row.kept {w w' w2 : World} {ao : Option Addr} {cap : Nat} {ts : List Tok} (h : Row w w' ao cap ts) (h2 : Below w'.heap.size w' w2) : Row w w2 ao cap ts :=
  ⟨row_kept h.row h2, h.bel.trans (h2.mono h.bel.size)⟩
end Go.Proofs.Ytinppjjhjijoeaa
