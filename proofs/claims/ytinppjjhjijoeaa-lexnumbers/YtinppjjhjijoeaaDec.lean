/-
  A number's digits, and the tokens of a text with them. No walk here.
-/
import Derived.Test.YtinppjjhjijoeaaPure
namespace Go.Proofs.Ytinppjjhjijoeaa
set_option linter.unusedVariables false
open Go.RowKit

def numV (l : List UInt8) : Nat := l.foldl (fun v b => v * 10 + (b.toNat - 48)) 0
theorem numV_go : ∀ (l : List UInt8) (v : Nat), l.foldl (fun v b => v * 10 + (b.toNat - 48)) v = v * 10 ^ l.length + numV l
  | [], v => by simp [numV]
  | b :: l, v => by
    unfold numV
    simp only [List.foldl_cons]
    rw [numV_go l, numV_go l (0 * 10 + (b.toNat - 48)), List.length_cons, Nat.pow_succ]
    have : (v * 10 + (b.toNat - 48)) * 10 ^ l.length = v * (10 ^ l.length * 10) + (0 * 10 + (b.toNat - 48)) * 10 ^ l.length := by
      rw [Nat.zero_mul, Nat.zero_add, Nat.add_mul, Nat.mul_assoc, Nat.mul_comm 10]
    omega
theorem numV_cons (b : UInt8) (l : List UInt8) : numV (b :: l) = (b.toNat - 48) * 10 ^ l.length + numV l := by
  have := numV_go l (b.toNat - 48)
  unfold numV at this ⊢
  simp only [List.foldl_cons, Nat.zero_mul, Nat.zero_add]
  exact this
theorem valL_go : ∀ (l : List UInt8) (v : Nat), l.foldl valStep (min v 1099511627777) = min (l.foldl (fun v b => v * 10 + (b.toNat - 48)) v) 1099511627777
  | [], v => rfl
  | b :: l, v => by
    simp only [List.foldl_cons]
    have : valStep (min v 1099511627777) b = min (v * 10 + (b.toNat - 48)) 1099511627777 := by unfold valStep; omega
    rw [this]
    exact valL_go l _
theorem valL_num (l : List UInt8) : valL l = min (numV l) 1099511627777 := by
  have := valL_go l 0
  simpa [valL, numV] using this

def AllD (l : List UInt8) : Prop := ∀ b ∈ l, isDigit b = true
theorem span_digits : ∀ (l : List UInt8), AllD l → spanL isDigit l = l.length
  | [], _ => rfl
  | b :: l, h => by rw [spanL, if_pos (h b (by simp)), span_digits l fun c hc => h c (by simp [hc])]; rfl

/-- The sign's bytes. -/
def sgn (neg : Bool) : List UInt8 := if neg then [45] else []
def sval (neg : Bool) (v : Nat) : Int := if neg then -(v : Int) else v
theorem digit_not {b : UInt8} (h : isDigit b = true) : isLetter b = false ∧ b.toNat ≠ 45 ∧ isBlank b = false ∧ b.toNat ≠ 35 := by
  simp only [isDigit, Bool.and_eq_true, decide_eq_true_eq] at h
  refine ⟨?_, by omega, ?_, by omega⟩
  · simp only [isLetter, Bool.and_eq_false_iff, decide_eq_false_iff_not]; omega
  · simp only [isBlank, Bool.or_eq_false_iff, beq_eq_false_iff_ne]; omega
theorem dropMinus_sgn (neg : Bool) {D : List UInt8} (hD : AllD D) (h0 : D ≠ []) (r : List UInt8) : dropMinus (sgn neg ++ D ++ r) = D ++ r ∧ (sgn neg ++ D ++ r).length - (D ++ r).length = (sgn neg).length := by
  cases neg with
  | true => exact ⟨by simp [sgn, dropMinus], by simp [sgn]⟩
  | false =>
    cases D with
    | nil => exact absurd rfl h0
    | cons b D =>
      have := (digit_not (hD b (by simp))).2.1
      refine ⟨?_, by simp [sgn]⟩
      simp only [sgn, Bool.false_eq_true, if_false, List.nil_append, List.cons_append, dropMinus]
      rw [if_neg (by simpa using this)]
theorem first_sgn (neg : Bool) {D : List UInt8} (hD : AllD D) (h0 : D ≠ []) (r : List UInt8) : firstL (sgn neg ++ D ++ r) = numL (sgn neg ++ D ++ r) ∧ passL false (sgn neg ++ D ++ r) = 0 := by
  cases neg with
  | true =>
    simp only [sgn, if_true, List.cons_append, List.nil_append]
    exact ⟨by simp [firstL, isLetter], by simp [passL, isBlank]⟩
  | false =>
    cases D with
    | nil => exact absurd rfl h0
    | cons b D =>
      have hb := hD b (by simp)
      have hn := digit_not hb
      simp only [sgn, Bool.false_eq_true, if_false, List.nil_append, List.cons_append]
      refine ⟨?_, ?_⟩
      · simp only [firstL]
        rw [if_neg (by simp [hn.1]), if_pos (by simp [hb])]
      · rw [passL, if_neg (by simp [hn.2.2.1]), if_neg (by simpa using hn.2.2.2)]
theorem num_sgn (neg : Bool) {D : List UInt8} (hD : AllD D) (h0 : D ≠ []) : numL (sgn neg ++ D ++ [121]) =
    if 1099511627776 < numV D then none else some ⟨3, (sgn neg).length + D.length, sval neg (numV D)⟩ := by
  have hs : spanL isDigit (D ++ [121]) = D.length := by rw [spanL_app (by decide) [] D]; exact span_digits D hD
  obtain ⟨e1, e2⟩ := dropMinus_sgn neg hD h0 [121]
  have hl : D.length ≠ 0 := fun e => h0 (List.eq_nil_of_length_eq_zero e)
  unfold numL
  simp only
  rw [e1, e2, hs, List.take_left, valL_num]
  by_cases hv : 1099511627776 < numV D
  · rw [if_pos hv, if_pos (.inr (by omega))]
  · rw [if_neg hv, if_neg (by rintro (h | h) <;> omega)]
    have : min (numV D) 1099511627777 = numV D := by omega
    rw [this]
    cases neg <;> rfl
theorem x_first (r : List UInt8) : firstL (120 :: 32 :: r) = some ⟨1, 1, 0⟩ := by
  have := firstL_app (c := 32) (by decide) r (l := [120]) (by simp)
  exact this.trans (by decide)
theorem lex_num (neg : Bool) {D : List UInt8} (hD : AllD D) (h0 : D ≠ []) : lexL (120 :: 32 :: (sgn neg ++ D ++ [121])) =
    if 1099511627776 < numV D then .error 2 else .ok [⟨1, 0, [120], 0⟩, ⟨3, 2, sgn neg ++ D, sval neg (numV D)⟩, ⟨1, 2 + (sgn neg ++ D).length, [121], 0⟩] := by
  obtain ⟨hf, hp⟩ := first_sgn neg hD h0 [121]
  have hn := num_sgn neg hD h0
  have hx := x_first (sgn neg ++ D ++ [121])
  have hp2 : passL false (32 :: (sgn neg ++ D ++ [121])) = 1 := by rw [passL, if_pos (by decide), hp]
  unfold lexL
  rw [firstL_head hx, List.drop_zero, lexFrom_some 0 hx]
  simp only [List.drop_succ_cons, List.drop_zero, hp2, Nat.zero_add, Nat.reduceAdd, List.take_succ_cons, List.take_zero]
  by_cases hv : 1099511627776 < numV D
  · rw [if_pos hv] at hn ⊢
    rw [lexFrom_none 2 (by simp) (hf.trans hn)]
  · rw [if_neg hv] at hn ⊢
    have hff := hf.trans hn
    have hy : firstL [121] = some ⟨1, 1, 0⟩ := by decide
    rw [lexFrom_some 2 hff]
    have e1 : (sgn neg ++ D ++ [121]).drop ((sgn neg).length + D.length) = [121] := by
      rw [← List.length_append]; exact List.drop_left
    have e2 : (sgn neg ++ D ++ [121]).take ((sgn neg).length + D.length) = sgn neg ++ D := by
      rw [← List.length_append]; exact List.take_left
    have hpy : passL false [121] = 0 := by decide
    simp only [e1, e2, hpy, List.drop_zero, Nat.add_zero]
    rw [lexFrom_some _ hy]
    simp only [List.drop_succ_cons, passL, List.drop_nil, lexFrom_nil, List.take_succ_cons, List.take_zero]
    rw [← List.length_append]

/-- While the digits are laid, the last one first. -/
structure DI (l : List UInt8) (m N : Nat) : Prop where
  dig : AllD l
  val : m * 10 ^ l.length + numV l = N
  fit : m < 10 ^ (17 - l.length)
  len : l.length ≤ 17
def dbyte (d : Nat) : UInt8 := UInt8.ofNat (48 + d)
theorem dbyte_nat {d : Nat} (h : d < 10) : (dbyte d).toNat = 48 + d := by
  unfold dbyte
  rw [UInt8.toNat_ofNat']
  omega
theorem DI.next {l : List UInt8} {m N : Nat} (h : DI l m N) (hm : 0 < m ∨ l = []) : DI (dbyte (m % 10) :: l) (m / 10) N := by
  have hd : m % 10 < 10 := Nat.mod_lt _ (by omega)
  have hb := dbyte_nat hd
  have hl17 : l.length + 1 ≤ 17 := by
    rcases hm with hm | hm
    · have h1 := h.fit
      by_cases he : l.length = 17
      · rw [he] at h1; simp at h1; omega
      · have := h.len; omega
    · subst hm; simp
  refine ⟨?_, ?_, ?_, by simpa using hl17⟩
  · intro b hm
    rw [List.mem_cons] at hm
    rcases hm with rfl | hm
    · simp only [isDigit, hb, Bool.and_eq_true, decide_eq_true_eq]; omega
    · exact h.dig b hm
  · rw [numV_cons, hb, List.length_cons, Nat.pow_succ, ← h.val]
    have e : 48 + m % 10 - 48 = m % 10 := by omega
    rw [e]
    have hdm : m = 10 * (m / 10) + m % 10 := (Nat.div_add_mod m 10).symm
    have : m * 10 ^ l.length = m / 10 * (10 ^ l.length * 10) + m % 10 * 10 ^ l.length := by
      conv => lhs; rw [hdm, Nat.add_mul]
      rw [Nat.mul_comm 10 (m / 10), Nat.mul_assoc, Nat.mul_comm 10 (10 ^ l.length)]
    omega
  · have h1 := h.fit
    have e : 17 - l.length = 17 - (l.length + 1) + 1 := by omega
    rw [e, Nat.pow_succ] at h1
    rw [List.length_cons]
    exact Nat.div_lt_of_lt_mul (by rw [Nat.mul_comm]; exact h1)
theorem DI.zero {l : List UInt8} {N : Nat} (h : DI l 0 N) : AllD l ∧ numV l = N := ⟨h.dig, by have := h.val; simpa using this⟩
theorem nought {l : List UInt8} (h : AllD l) : AllD (48 :: l) ∧ numV (48 :: l) = numV l := by
  refine ⟨?_, ?_⟩
  · intro b hm
    rw [List.mem_cons] at hm
    rcases hm with rfl | hm
    · decide
    · exact h b hm
  · rw [numV_cons]; simp
theorem ten_digit (d : Nat) (h : d < 10) : (ByteArray.extract ⟨#[48, 49, 50, 51, 52, 53, 54, 55, 56, 57]⟩ d (d + 1)).data.toList = [dbyte d] := by
  match d, h with
  | 0, _ => decide
  | 1, _ => decide
  | 2, _ => decide
  | 3, _ => decide
  | 4, _ => decide
  | 5, _ => decide
  | 6, _ => decide
  | 7, _ => decide
  | 8, _ => decide
  | 9, _ => decide
end Go.Proofs.Ytinppjjhjijoeaa
