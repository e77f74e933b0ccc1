/-
  Tokens come back by their texts. No walk here.
-/
import Derived.Test.YtinppjjhjijoeaaShift
import Derived.Test.YtinppjjhjijoeaaJoin
namespace Go.Proofs.Ytinppjjhjijoeaa
set_option linter.unusedVariables false
open Go.RowKit

/-- A token's text is that token. -/
def TokOK (t : Tok) : Prop := firstL t.text = some ⟨t.kind, t.text.length, t.n⟩
theorem lexGo_ok : ∀ (f : Nat) (l : List UInt8) (p : Nat) (ts : List Tok), lexGo f l p = .ok ts → (∀ t ∈ ts, TokOK t) ∧ (joinL (texts ts)).length ≤ 2 * l.length
  | 0, _, _, ts, h => by injection h with h; subst h; simp [texts, joinL]
  | f + 1, [], _, ts, h => by injection h with h; subst h; simp [texts, joinL]
  | f + 1, b :: l, p, ts, h => by
    unfold lexGo at h
    cases hf : firstL (b :: l) with
    | none => rw [hf] at h; cases h
    | some x =>
      have hx := firstL_size hf
      rw [hf] at h
      simp only at h
      generalize hr : lexGo f _ _ = r at h
      cases r with
      | error q => cases h
      | ok us =>
        injection h with h
        subst h
        have ih := lexGo_ok f _ _ us hr
        have hlen : ((b :: l).take x.size).length = x.size := by rw [List.length_take]; omega
        refine ⟨?_, ?_⟩
        · intro t ht
          rw [List.mem_cons] at ht
          rcases ht with rfl | ht
          · show firstL ((b :: l).take x.size) = some ⟨x.kind, ((b :: l).take x.size).length, x.n⟩
            rw [hlen]
            exact firstL_take hf
          · exact ih.1 t ht
        · have h2 := ih.2
          rw [List.length_drop, List.length_drop] at h2
          cases us with
          | nil =>
            show ((b :: l).take x.size).length ≤ _
            rw [hlen]; omega
          | cons u us =>
            have e : joinL (texts (⟨x.kind, p, (b :: l).take x.size, x.n⟩ :: u :: us)) = joinT ((b :: l).take x.size ++ 32 :: u.text) (texts us) := rfl
            have e2 : joinL (texts (u :: us)) = joinT u.text (texts us) := rfl
            have hj : ∀ (z : List (List UInt8)) (a c : List UInt8), (joinT (a ++ c) z).length = a.length + (joinT c z).length := by
              intro z
              induction z with
              | nil => intro a c; simp [joinT]
              | cons y z ih => intro a c; simp only [joinT]; rw [List.append_assoc]; exact ih a (c ++ 32 :: y)
            rw [e2] at h2
            have e3 := hj (texts us) [32] u.text
            have e4 := hj (texts us) ((b :: l).take x.size) (32 :: u.text)
            rw [e, e4, hlen]
            simp only [List.singleton_append, List.length_singleton] at e3
            rw [e3]
            omega

theorem lexL_toks {l : List UInt8} {ts : List Tok} (h : lexL l = .ok ts) : (∀ t ∈ ts, TokOK t) ∧ (joinL (texts ts)).length ≤ 2 * l.length := by
  have := lexGo_ok _ _ _ _ h
  refine ⟨this.1, ?_⟩
  have h2 := this.2
  rw [List.length_drop] at h2
  omega

theorem joinT_app : ∀ (z : List (List UInt8)) (a c : List UInt8), joinT (a ++ c) z = a ++ joinT c z
  | [], a, c => rfl
  | y :: z, a, c => by simp only [joinT]; rw [List.append_assoc]; exact joinT_app z a (c ++ 32 :: y)
theorem joinL_cons (x y : List UInt8) (l : List (List UInt8)) : joinL (x :: y :: l) = x ++ 32 :: joinL (y :: l) := by
  show joinT (x ++ 32 :: y) l = x ++ 32 :: joinT y l
  rw [joinT_app]
  have := joinT_app l [32] y
  simp only [List.singleton_append] at this
  rw [this]

def relex : Nat → List Tok → List Tok
  | _, [] => []
  | p, t :: l => ⟨t.kind, p, t.text, t.n⟩ :: relex (p + t.text.length + 1) l
theorem relex_len : ∀ (l : List Tok) (p : Nat), (relex p l).length = l.length
  | [], _ => rfl
  | t :: l, p => by simp only [relex, List.length_cons, relex_len l]
theorem relex_get : ∀ (l : List Tok) (p k : Nat) (h : k < l.length) (h' : k < (relex p l).length), (relex p l)[k].kind = l[k].kind ∧ (relex p l)[k].text = l[k].text ∧ (relex p l)[k].n = l[k].n
  | [], _, _, h, _ => absurd h (by simp)
  | t :: l, p, 0, _, _ => ⟨rfl, rfl, rfl⟩
  | t :: l, p, k + 1, h, h' => by
    have := relex_get l (p + t.text.length + 1) k (by simpa using h) (by simpa [relex] using h')
    simp only [relex, List.getElem_cons_succ]
    exact this
theorem blank_name : nameByte 32 = false := by decide
theorem tok_ne {t : Tok} (h : TokOK t) : t.text ≠ [] := fun e => by unfold TokOK at h; rw [e] at h; cases h
theorem join_first {t : Tok} (ht : TokOK t) (l : List Tok) : firstL (joinL (texts (t :: l))) = some ⟨t.kind, t.text.length, t.n⟩ := by
  cases l with
  | nil => exact ht
  | cons u l =>
    show firstL (joinL (t.text :: u.text :: texts l)) = _
    rw [joinL_cons, firstL_app blank_name _ (tok_ne ht)]
    exact ht
theorem lexFrom_join : ∀ (l : List Tok) (p : Nat), (∀ t ∈ l, TokOK t) → lexFrom (joinL (texts l)) p = .ok (relex p l)
  | [], p, _ => rfl
  | [t], p, h => by
    have ht := h t (by simp)
    have e : joinL (texts [t]) = t.text := rfl
    rw [e, lexFrom_some p ht]
    simp only [List.drop_length, passL, List.drop_nil, lexFrom_nil, List.take_length]
    rfl
  | t :: u :: l, p, h => by
    have ht := h t (by simp)
    have hu := h u (by simp)
    have hf := join_first ht (u :: l)
    have hJ := join_first hu l
    have ih := lexFrom_join (u :: l) (p + t.text.length + 1) fun x hx => h x (by simp only [List.mem_cons] at hx ⊢; exact .inr hx)
    have e : joinL (texts (t :: u :: l)) = t.text ++ 32 :: joinL (texts (u :: l)) := joinL_cons _ _ _
    have hp : passL false (32 :: joinL (texts (u :: l))) = 1 := by
      rw [passL, if_pos (by decide), firstL_head hJ]
    rw [lexFrom_some p hf, e]
    simp only [List.drop_left, List.take_left, hp, List.drop_succ_cons, List.drop_zero]
    rw [ih]
    rfl
theorem lexL_join {l : List Tok} (h : ∀ t ∈ l, TokOK t) : lexL (joinL (texts l)) = .ok (relex 0 l) := by
  unfold lexL
  have hp : passL false (joinL (texts l)) = 0 := by
    cases l with
    | nil => rfl
    | cons t l => exact firstL_head (join_first (h t (by simp)) l)
  rw [hp, List.drop_zero]
  exact lexFrom_join l 0 h
end Go.Proofs.Ytinppjjhjijoeaa
