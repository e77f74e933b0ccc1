/-
  The tokens of two texts with a line feed between. No walk here.
-/
import Derived.Test.YtinppjjhjijoeaaPure
namespace Go.Proofs.Ytinppjjhjijoeaa
set_option linter.unusedVariables false
open Go.RowKit

theorem pass_cut (b : List UInt8) : ∀ (l : List UInt8) (c : Bool), passL c (l ++ 10 :: b) = if passL c l < l.length then passL c l else l.length + 1 + passL false b
  | [], false => by simp [passL, isBlank]; omega
  | [], true => by simp [passL]; omega
  | x :: l, false => by
    have h1 := pass_cut b l false
    have h2 := pass_cut b l true
    simp only [List.cons_append, passL, List.length_cons]
    split
    · rw [h1]; split <;> rename_i h <;> split <;> omega
    · split
      · rw [h2]; split <;> rename_i h <;> split <;> omega
      · simp
  | x :: l, true => by
    have h1 := pass_cut b l false
    have h2 := pass_cut b l true
    simp only [List.cons_append, passL, List.length_cons]
    split
    · rw [h1]; split <;> rename_i h <;> split <;> omega
    · rw [h2]; split <;> rename_i h <;> split <;> omega

def shiftT (d : Nat) (t : Tok) : Tok := ⟨t.kind, t.at_ + d, t.text, t.n⟩
def shiftR (d : Nat) : Except Nat (List Tok) → Except Nat (List Tok)
  | .error q => .error (q + d)
  | .ok ts => .ok (ts.map (shiftT d))
theorem lexGo_shift (d : Nat) : ∀ (f : Nat) (l : List UInt8) (p : Nat), lexGo f l (p + d) = shiftR d (lexGo f l p)
  | 0, _, _ => rfl
  | f + 1, [], _ => rfl
  | f + 1, b :: l, p => by
    unfold lexGo
    cases hf : firstL (b :: l) with
    | none => rfl
    | some x =>
      simp only
      have e : p + d + x.size + passL false ((b :: l).drop x.size) = p + x.size + passL false ((b :: l).drop x.size) + d := by omega
      rw [e, lexGo_shift d f]
      generalize lexGo f _ _ = r
      cases r <;> rfl
theorem lexFrom_shift (d : Nat) (l : List UInt8) (p : Nat) : lexFrom l (p + d) = shiftR d (lexFrom l p) := lexGo_shift d _ l p

/-- What stands behind the first text's tokens. -/
def comb (r : Except Nat (List Tok)) (n : Nat) (b : List UInt8) : Except Nat (List Tok) :=
  match r with
  | .error q => .error q
  | .ok ts => match shiftR n (lexL b) with
    | .error q => .error q
    | .ok us => .ok (ts ++ us)
theorem feed_name : nameByte 10 = false := by decide

theorem lexFrom_cut (b : List UInt8) : ∀ (m : Nat) (l : List UInt8) (p : Nat), l.length ≤ m → l ≠ [] → lexFrom (l ++ 10 :: b) p = comb (lexFrom l p) (p + l.length + 1) b
  | 0, l, p, hm, hl => absurd (List.eq_nil_of_length_eq_zero (by omega)) hl
  | m + 1, l, p, hm, hl => by
    have ha := firstL_app feed_name b hl
    cases hf : firstL l with
    | none =>
      rw [hf] at ha
      rw [lexFrom_none p (by simp) ha, lexFrom_none p hl hf]
      rfl
    | some x =>
      rw [hf] at ha
      have hx := firstL_size hf
      rw [lexFrom_some p ha, lexFrom_some p hf]
      have e1 : (l ++ 10 :: b).drop x.size = l.drop x.size ++ 10 :: b := List.drop_append_of_le_length hx.2
      have e2 : (l ++ 10 :: b).take x.size = l.take x.size := take_app hx.2
      rw [e1, e2]
      have hr : (l.drop x.size).length = l.length - x.size := List.length_drop
      generalize l.drop x.size = r at hr ⊢
      have hp := passL_le false r
      rw [pass_cut b r false]
      by_cases hlt : passL false r < r.length
      · rw [if_pos hlt]
        have e3 : (r ++ 10 :: b).drop (passL false r) = r.drop (passL false r) ++ 10 :: b := List.drop_append_of_le_length hp
        have hne : r.drop (passL false r) ≠ [] := fun e => by have := congrArg List.length e; rw [List.length_drop] at this; simp at this; omega
        have hlen : (r.drop (passL false r)).length = r.length - passL false r := List.length_drop
        rw [e3, lexFrom_cut b m _ _ (by rw [hlen]; omega) hne]
        have e4 : p + x.size + passL false r + (r.drop (passL false r)).length + 1 = p + l.length + 1 := by rw [hlen]; omega
        rw [e4]
        generalize lexFrom (r.drop (passL false r)) _ = z
        cases z with
        | error q => rfl
        | ok ts =>
          simp only [comb]
          generalize shiftR _ (lexL b) = y
          cases y <;> rfl
      · rw [if_neg hlt]
        have hpe : passL false r = r.length := by omega
        have e3 : (r ++ 10 :: b).drop (r.length + 1 + passL false b) = b.drop (passL false b) := by
          have : r.length + 1 + passL false b = r.length + (1 + passL false b) := by omega
          rw [this, List.drop_append, List.drop_eq_nil_of_le (by omega), List.nil_append]
          have : r.length + (1 + passL false b) - r.length = passL false b + 1 := by omega
          rw [this, List.drop_succ_cons]
        have e4 : p + x.size + (r.length + 1 + passL false b) = passL false b + (p + l.length + 1) := by omega
        rw [e3, e4, lexFrom_shift, hpe, List.drop_length, lexFrom_nil]
        show (match shiftR (p + l.length + 1) (lexL b) with | .error q => _ | .ok ts => _) = _
        simp only [comb]
        generalize shiftR (p + l.length + 1) (lexL b) = y
        cases y <;> rfl
theorem lexL_cut (a b : List UInt8) : lexL (a ++ 10 :: b) = comb (lexL a) (a.length + 1) b := by
  have hp := passL_le false a
  unfold lexL
  rw [pass_cut b a false]
  by_cases hlt : passL false a < a.length
  · rw [if_pos hlt]
    have e3 : (a ++ 10 :: b).drop (passL false a) = a.drop (passL false a) ++ 10 :: b := List.drop_append_of_le_length hp
    have hne : a.drop (passL false a) ≠ [] := fun e => by have := congrArg List.length e; rw [List.length_drop] at this; simp at this; omega
    have hlen : (a.drop (passL false a)).length = a.length - passL false a := List.length_drop
    rw [e3, lexFrom_cut b _ _ _ (Nat.le_refl _) hne]
    have e4 : passL false a + (a.drop (passL false a)).length + 1 = a.length + 1 := by rw [hlen]; omega
    rw [e4]
  · rw [if_neg hlt]
    have hpe : passL false a = a.length := by omega
    have e3 : (a ++ 10 :: b).drop (a.length + 1 + passL false b) = b.drop (passL false b) := by
      have : a.length + 1 + passL false b = a.length + (1 + passL false b) := by omega
      rw [this, List.drop_append, List.drop_eq_nil_of_le (by omega), List.nil_append]
      have : a.length + (1 + passL false b) - a.length = passL false b + 1 := by omega
      rw [this, List.drop_succ_cons]
    have e4 : a.length + 1 + passL false b = passL false b + (a.length + 1) := by omega
    rw [e3, e4, lexFrom_shift, hpe, List.drop_length, lexFrom_nil]
    simp only [comb]
    show shiftR (a.length + 1) (lexL b) = _
    generalize shiftR (a.length + 1) (lexL b) = y
    cases y <;> rfl

/-- How many tokens there are at most, and where they lie. -/
theorem lexFrom_len : ∀ (m : Nat) (l : List UInt8) (p : Nat) (ts : List Tok), l.length ≤ m → lexFrom l p = .ok ts → ts.length ≤ l.length
  | 0, l, p, ts, hm, h => by
    have : l = [] := List.eq_nil_of_length_eq_zero (by omega)
    subst this
    rw [lexFrom_nil] at h
    injection h with h
    subst h
    simp
  | m + 1, [], p, ts, hm, h => by
    rw [lexFrom_nil] at h
    injection h with h
    subst h
    simp
  | m + 1, b :: l, p, ts, hm, h => by
    cases hf : firstL (b :: l) with
    | none => rw [lexFrom_none p (by simp) hf] at h; cases h
    | some x =>
      have hx := firstL_size hf
      rw [lexFrom_some p hf] at h
      have hlen : (((b :: l).drop x.size).drop (passL false ((b :: l).drop x.size))).length ≤ (b :: l).length - x.size := by
        rw [List.length_drop, List.length_drop]; omega
      generalize hr : lexFrom _ _ = r at h
      cases r with
      | error q => cases h
      | ok us =>
        injection h with h
        have := lexFrom_len m _ _ us (by omega) hr
        subst h
        rw [List.length_cons]
        omega
theorem lexL_len {l : List UInt8} {ts : List Tok} (h : lexL l = .ok ts) : ts.length ≤ l.length := by
  have := lexFrom_len _ _ _ ts (Nat.le_refl _) h
  rw [List.length_drop] at this
  omega
theorem lexGo_err : ∀ (f : Nat) (l : List UInt8) (p q : Nat), lexGo f l p = .error q → p ≤ q ∧ q < p + l.length
  | 0, _, _, _, h => by cases h
  | f + 1, [], _, _, h => by cases h
  | f + 1, b :: l, p, q, h => by
    unfold lexGo at h
    cases hf : firstL (b :: l) with
    | none =>
      rw [hf] at h
      injection h with h
      subst h
      simp
    | some x =>
      have hx := firstL_size hf
      rw [hf] at h
      simp only at h
      generalize hr : lexGo f _ _ = r at h
      cases r with
      | ok us => cases h
      | error q' =>
        injection h with h
        subst h
        have := lexGo_err f _ _ _ hr
        rw [List.length_drop, List.length_drop] at this
        have h3 := passL_le false ((b :: l).drop x.size)
        rw [List.length_drop] at h3
        omega
theorem lexL_err {l : List UInt8} {q : Nat} (h : lexL l = .error q) : q < l.length := by
  have := lexGo_err _ _ _ _ h
  have h3 := passL_le false l
  rw [List.length_drop] at this
  omega
theorem lexGo_at : ∀ (f : Nat) (l : List UInt8) (p : Nat) (ts : List Tok), lexGo f l p = .ok ts → ∀ t ∈ ts, p ≤ t.at_ ∧ t.at_ < p + l.length
  | 0, _, _, ts, h => by injection h with h; subst h; simp
  | f + 1, [], _, ts, h => by injection h with h; subst h; simp
  | f + 1, b :: l, p, ts, h => by
    unfold lexGo at h
    cases hf : firstL (b :: l) with
    | none => rw [hf] at h; cases h
    | some x =>
      have hx := firstL_size hf
      rw [hf] at h
      simp only at h
      generalize hr : lexGo f _ _ = r at h
      cases r with
      | error q => cases h
      | ok us =>
        injection h with h
        subst h
        have ih := lexGo_at f _ _ us hr
        have h3 := passL_le false ((b :: l).drop x.size)
        rw [List.length_drop] at h3
        intro t ht
        rw [List.mem_cons] at ht
        rcases ht with rfl | ht
        · exact ⟨Nat.le_refl _, by simp⟩
        · have := ih t ht
          rw [List.length_drop, List.length_drop] at this
          omega
theorem lexL_at {l : List UInt8} {ts : List Tok} (h : lexL l = .ok ts) : ∀ t ∈ ts, t.at_ < l.length := by
  intro t ht
  have := lexGo_at _ _ _ _ h t ht
  have h3 := passL_le false l
  rw [List.length_drop] at this
  omega
end Go.Proofs.Ytinppjjhjijoeaa
