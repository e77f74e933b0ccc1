/-
  The document's Lex, as data: what its loop knows. No walk here.
-/
import Derived.Test.YtinppjjhjijoeaaRName
import Derived.Laws.Rows
namespace Go.Proofs.Ytinppjjhjijoeaa
set_option linter.unusedVariables false
open Go.RowKit

/-- The tokens from a place on, where blanks and remarks may stand. -/
def lexAt (l : List UInt8) (p : Nat) : Except Nat (List Tok) := lexFrom (l.drop (passL false l)) (p + passL false l)
theorem lexAt_zero (l : List UInt8) : lexL l = lexAt l 0 := by unfold lexL lexAt; rw [Nat.zero_add]
theorem lexAt_nil (p : Nat) : lexAt [] p = .ok [] := by unfold lexAt; rw [List.drop_nil, lexFrom_nil]
theorem lexAt_blank {s : ByteArray} {k : Nat} (h : k < s.size) (hb : isBlank (s[k]'h) = true) : lexAt (s.data.toList.drop k) k = lexAt (s.data.toList.drop (k + 1)) (k + 1) := by
  unfold lexAt
  have e := drop_cons s k h
  have hp : passL false (s.data.toList.drop k) = passL false (s.data.toList.drop (k + 1)) + 1 := by rw [e, passL, if_pos hb]
  rw [hp, List.drop_drop, List.drop_drop, Nat.add_right_comm k, Nat.add_assoc k]
theorem lexAt_remark {s : ByteArray} {k : Nat} (h : k < s.size) (hr : (s[k]'h).toNat = 35) :
    lexAt (s.data.toList.drop k) k = lexAt (s.data.toList.drop (k + spanL noFeed (s.data.toList.drop k))) (k + spanL noFeed (s.data.toList.drop k)) := by
  obtain ⟨h1, _, _⟩ := pass_remark h hr rfl
  unfold lexAt
  rw [List.drop_drop, List.drop_drop, h1]
theorem lexAt_none {l : List UInt8} (p : Nat) (hl : l ≠ []) (hp : passL false l = 0) (h : firstL l = none) : lexAt l p = .error p := by
  unfold lexAt
  rw [hp, List.drop_zero, Nat.add_zero, lexFrom_none p hl h]
theorem lexAt_some {l : List UInt8} (p : Nat) {x : Fst} (h : firstL l = some x) :
    lexAt l p = (match lexAt (l.drop x.size) (p + x.size) with
      | .error q => .error q
      | .ok ts => .ok (⟨x.kind, p, l.take x.size, x.n⟩ :: ts)) := by
  have hp := firstL_head h
  unfold lexAt
  rw [hp, List.drop_zero, Nat.add_zero, lexFrom_some p h]
  generalize lexFrom _ _ = r
  cases r <;> rfl
theorem stop_pass {s : ByteArray} {k : Nat} (h : k < s.size) (hb : isBlank (s[k]'h) = false) (hr : (s[k]'h).toNat ≠ 35) : passL false (s.data.toList.drop k) = 0 := by
  have := pass_stop h hb hr (N := k + passL false (s.data.toList.drop k)) rfl
  omega
theorem drop_ne {s : ByteArray} {k : Nat} (h : k < s.size) : s.data.toList.drop k ≠ [] := by
  rw [drop_cons s k h]; simp

/-- At the head of the loop. -/
structure RLI (s : ByteArray) (w wr : World) (v : Value) (ts : List Tok) (k : Nat) : Prop where
  row : wr.ownsRow (w.heap.size + 1) 36 4 v ts.length (tokCells ts)
  bel : Below (w.heap.size + 1) (w.alloc diag0) wr
  len : ts.length ≤ k
  lex : lexL s.data.toList = pre ts (lexAt (s.data.toList.drop k) k)

theorem RLI.start (s : ByteArray) (w : World) : RLI s w ((w.alloc diag0).alloc (.cells #[] 36)) (.slice (some ⟨w.heap.size + 1, 0, none⟩) 0 0) [] 0 := by
  have hsz : (w.alloc diag0).heap.size = w.heap.size + 1 := World.size_alloc _ _
  refine ⟨⟨rfl, .inr ⟨w.heap.size + 1, 0, #[], rfl, Nat.le_refl _, ?_, Nat.le_refl _, Nat.zero_le _, rfl, rfl⟩⟩, ?_, Nat.le_refl _, ?_⟩
  · rw [← hsz]; exact heap_alloc_new _ _
  · rw [← hsz]; exact below_new _ _
  · rw [pre_nil, List.drop_zero, lexAt_zero]
theorem RLI.below {s : ByteArray} {w wr : World} {v : Value} {ts : List Tok} {k : Nat} (h : RLI s w wr v ts k) : Below w.heap.size w wr :=
  ((Below.refl w.heap.size w).alloc (Nat.le_refl _) diag0).trans (h.bel.mono (by omega))
theorem RLI.to {s : ByteArray} {w wr : World} {v : Value} {ts : List Tok} {k k' : Nat} (h : RLI s w wr v ts k) (hk : k ≤ k') (e : lexAt (s.data.toList.drop k) k = lexAt (s.data.toList.drop k') k') : RLI s w wr v ts k' :=
  ⟨h.row, h.bel, Nat.le_trans h.len hk, by rw [h.lex, e]⟩

/-- What the document's Lex answers. -/
def RLexAns (s : ByteArray) (w w' : World) (v : Value) (a c : Int) : Prop :=
  Below w.heap.size w w' ∧
  match lexL s.data.toList with
  | .ok ts => a = 0 ∧ c = 0 ∧ w'.ownsRow w.heap.size 36 4 v ts.length (tokCells ts)
  | .error q => v = .slice none 0 0 ∧ a = q ∧ c = 1
def RLexPost (s : ByteArray) (w : World) (e : Ending) (w' : World) : Prop :=
  ∃ (v : Value) (a c : Int), e = .returned (.tuple #[v, .agg #[.int .i64 a, .int .i64 c]]) ∧ RLexAns s w w' v a c

theorem RLI.atEnd {s : ByteArray} {w wr : World} {v : Value} {ts : List Tok} (h : RLI s w wr v ts s.size) (x y : Value) :
    RLexAns s w ((wr.setCell ⟨w.heap.size, 0, none⟩ x).setCell ⟨w.heap.size, 1, none⟩ y) v 0 0 := by
  refine ⟨below_put (below_put h.below _ _) _ _, ?_⟩
  have e : lexL s.data.toList = .ok ts := by
    rw [h.lex, size_list, List.drop_length, lexAt_nil]
    simp [pre]
  rw [e]
  exact ⟨rfl, rfl, ownsRow_base (ownsRow_setCell_below (ownsRow_setCell_below h.row (by show w.heap.size < _; omega) _) (by show w.heap.size < _; omega) _) (by omega)⟩

theorem RLI.fail {s : ByteArray} {w wr w2 : World} {v : Value} {ts : List Tok} {k : Nat} (h : RLI s w wr v ts k) (hk : k < s.size) (hp : passL false (s.data.toList.drop k) = 0) (hf : firstL (s.data.toList.drop k) = none) (h2 : Below wr.heap.size wr w2) (x y : Value) :
    RLexAns s w ((w2.setCell ⟨w.heap.size, 0, none⟩ x).setCell ⟨w.heap.size, 1, none⟩ y) (.slice none 0 0) k 1 := by
  have hb : Below w.heap.size w w2 := h.below.trans (h2.mono h.below.size)
  refine ⟨below_put (below_put hb _ _) _ _, ?_⟩
  have e : lexL s.data.toList = .error k := by
    rw [h.lex, lexAt_none k (drop_ne hk) hp hf]
    rfl
  rw [e]
  exact ⟨rfl, rfl, rfl⟩

theorem RLI.more {s : ByteArray} {w wr w2 w3 : World} {v v' : Value} {ts : List Tok} {k : Nat} {x : Fst} {o : Obj} (h : RLI s w wr v ts k) (hf : firstL (s.data.toList.drop k) = some x) (h2 : Below wr.heap.size wr w2)
    (ho : w3.ownsRow (w.heap.size + 1) 36 4 v' (ts.length + 1) (tokCells ts ++ tokCell ⟨x.kind, k, (s.data.toList.drop k).take x.size, x.n⟩))
    (hg : (w2.alloc o).grownBy w3 v.ownBlock) :
    RLI s w w3 v' (ts ++ [⟨x.kind, k, (s.data.toList.drop k).take x.size, x.n⟩]) (k + x.size) := by
  have hx := firstL_size hf
  have hb2 := diag_on h.bel h2
  have hsz : w.heap.size + 1 ≤ w2.heap.size := by have := hb2.size; rw [World.size_alloc] at this; exact this
  refine ⟨?_, ?_, ?_, ?_⟩
  · rw [tokCells_snoc, List.length_append, List.length_singleton]; exact ho
  · exact (hb2.alloc hsz _).grown hg (by rw [World.size_alloc]; omega) fun j hj => (h.row.lt j hj).1
  · rw [List.length_append, List.length_singleton]; have := h.len; omega
  · rw [h.lex, lexAt_some k hf, List.drop_drop]
    generalize lexAt (s.data.toList.drop (k + x.size)) (k + x.size) = r
    cases r with
    | error q => rfl
    | ok us => simp [pre]

def tbox (kind k : Nat) (n : Int) : Obj := .cells #[.int .i64 (kind : Int), .int .i64 (k : Int), .string ⟨#[]⟩, .int .i64 n] 36 (0, 0)
/-- Behind the switch: the token's box, its end, and whether it is one. -/
def Sw (s : ByteArray) (k : Nat) (wr wx : World) (j : Nat) (ok : Bool) : Prop :=
  Below wr.heap.size wr wx ∧
  match firstL (s.data.toList.drop k) with
  | none => ok = false
  | some x => ok = true ∧ j = k + x.size ∧ wx.heap[wr.heap.size]? = some (tbox x.kind k x.n)
def SwR (s : ByteArray) (k : Nat) (wr : World) (jv okv : Value) (wx : World) : Prop :=
  ∃ (j : Nat) (ok : Bool), jv = .int .i64 (j : Int) ∧ okv = .bool ok ∧ Sw s k wr wx j ok

theorem drop_head {s : ByteArray} {k : Nat} (h : k < s.size) : s.data.toList.drop k = (s[k]'h) :: s.data.toList.drop (k + 1) := drop_cons s k h
theorem extract_between (s : ByteArray) (k n : Nat) : (s.extract k (k + n)).data.toList = (s.data.toList.drop k).take n := by
  rw [ByteArray.data_extract, Array.toList_extract, List.extract_eq_take_drop]
  congr 1
  omega

/-- A name's case. -/
theorem first_letter {s : ByteArray} {k : Nat} (h : k < s.size) (hl : isLetter (s[k]'h) = true) : firstL (s.data.toList.drop k) = nameL (s.data.toList.drop k) ∧
    spanL nameByte (s.data.toList.drop k) = 1 + spanL nameByte (s.data.toList.drop (k + 1)) := by
  rw [drop_cons s k h]
  refine ⟨by rw [firstL, if_pos hl], ?_⟩
  rw [spanL, if_pos (by simp [nameByte, hl])]
  omega
theorem first_digit {s : ByteArray} {k : Nat} (h : k < s.size) (hl : isLetter (s[k]'h) = false) (hd : isDigit (s[k]'h) = true) (V C : Nat) (hC : C = 1 + spanL isDigit (s.data.toList.drop (k + 1))) (hV : V = numR ((s.data.toList.drop k).take C)) :
    firstL (s.data.toList.drop k) = (if 1099511627776 < V then none else some ⟨3, C, (V : Int)⟩) := by
  have e := drop_cons s k h
  have h45 : (s[k]'h).toNat ≠ 45 := by simp only [isDigit, Bool.and_eq_true, decide_eq_true_eq] at hd; omega
  have hdm : dropMinus (s.data.toList.drop k) = s.data.toList.drop k := by rw [e, dropMinus, if_neg (by simpa using h45)]
  have hsp : spanL isDigit (s.data.toList.drop k) = C := by rw [hC, e, spanL, if_pos hd]; omega
  have hf : firstL (s.data.toList.drop k) = numL (s.data.toList.drop k) := by rw [e, firstL, if_neg (by simp [hl]), if_pos (by simp [hd])]
  have hv : valL ((s.data.toList.drop k).take C) = V := by
    rw [hV]
    unfold numR valL
    rw [numR_digits]
    intro b hb
    rw [← hsp] at hb
    obtain ⟨i, hi, rfl⟩ := List.mem_iff_getElem.1 hb
    exact span_all isDigit _ i hi
  rw [hf]
  unfold numL
  simp only [hdm, hsp, hv, Nat.sub_self, Nat.zero_add, Nat.lt_irrefl, if_false]
  by_cases hb : 1099511627776 < V
  · rw [if_pos (.inr hb), if_pos hb]
  · rw [if_neg (by rintro (h | h) <;> omega), if_neg hb]
theorem first_min {s : ByteArray} {k : Nat} (h : k < s.size) (hl : isLetter (s[k]'h) = false) (hd : isDigit (s[k]'h) = false) (h45 : (s[k]'h).toNat = 45) (V M : Nat) (hM : M = spanL isDigit (s.data.toList.drop (k + 1))) (hV : V = numR ((s.data.toList.drop k).take (1 + M))) :
    firstL (s.data.toList.drop k) = (if M = 0 ∨ 1099511627776 < V then none else some ⟨3, 1 + M, -(V : Int)⟩) := by
  have e := drop_cons s k h
  have hdm : dropMinus (s.data.toList.drop k) = s.data.toList.drop (k + 1) := by rw [e, dropMinus, if_pos (by simpa using h45)]
  have hf : firstL (s.data.toList.drop k) = numL (s.data.toList.drop k) := by rw [e, firstL, if_neg (by simp [hl]), if_pos (by simp [h45])]
  have hv : valL ((s.data.toList.drop (k + 1)).take M) = V := by
    rw [hV, e, Nat.add_comm 1 M, List.take_succ_cons]
    unfold numR valL
    rw [List.foldl_cons, numR_digits]
    · simp [numStep, h45]
    · intro b hb
      rw [hM] at hb
      obtain ⟨i, hi, rfl⟩ := List.mem_iff_getElem.1 hb
      exact span_all isDigit _ i hi
  have hlen : (s.data.toList.drop k).length - (s.data.toList.drop (k + 1)).length = 1 := by rw [e, List.length_cons]; omega
  rw [hf]
  unfold numL
  simp only [hdm, ← hM, hv, hlen, Nat.lt_succ_self, if_true]
theorem first_sig {s : ByteArray} {k : Nat} (h : k < s.size) (hl : isLetter (s[k]'h) = false) (hd : isDigit (s[k]'h) = false) (h45 : (s[k]'h).toNat ≠ 45) :
    firstL (s.data.toList.drop k) = (if isSign (s[k]'h) then some ⟨4, 1, 0⟩ else none) := by
  rw [drop_cons s k h, firstL, if_neg (by simp [hl]), if_neg (by simp [hd, h45])]
end Go.Proofs.Ytinppjjhjijoeaa
