/-
  What the tokens of texts that are put together are. No walk here.
-/
import Derived.Test.YtinppjjhjijoeaaMod
namespace Go.Proofs.Ytinppjjhjijoeaa
set_option linter.unusedVariables false
open Go.RowKit

theorem spanL_app {p : UInt8 → Bool} {c : UInt8} (hc : p c = false) (r : List UInt8) : ∀ l, spanL p (l ++ c :: r) = spanL p l
  | [] => by simp [spanL, hc]
  | b :: l => by simp only [List.cons_append, spanL, spanL_app hc r l]
theorem spanL_take (p : UInt8 → Bool) : ∀ l, spanL p (l.take (spanL p l)) = spanL p l
  | [] => rfl
  | b :: l => by
    by_cases hb : p b = true
    · have e : spanL p (b :: l) = spanL p l + 1 := by rw [spanL, if_pos hb]
      rw [e, List.take_succ_cons, spanL, if_pos hb, spanL_take p l]
    · have e : spanL p (b :: l) = 0 := by rw [spanL, if_neg hb]
      rw [e]
      rfl
theorem take_app {l r : List UInt8} {n : Nat} (h : n ≤ l.length) : (l ++ r).take n = l.take n := List.take_append_of_le_length h
theorem name_digit {c : UInt8} (h : nameByte c = false) : isDigit c = false := by
  unfold nameByte at h
  cases hd : isDigit c with
  | false => rfl
  | true => rw [hd] at h; simp at h
theorem nameL_app {c : UInt8} (hc : nameByte c = false) (r l : List UInt8) : nameL (l ++ c :: r) = nameL l := by
  unfold nameL
  rw [spanL_app hc r l, take_app (spanL_le _ _)]
theorem dropMinus_app {l : List UInt8} (hl : l ≠ []) (r : List UInt8) : dropMinus (l ++ r) = dropMinus l ++ r := by
  cases l with
  | nil => exact absurd rfl hl
  | cons b l => simp only [List.cons_append, dropMinus]; split <;> rfl
theorem numL_app {c : UInt8} (hc : isDigit c = false) (r : List UInt8) {l : List UInt8} (hl : l ≠ []) : numL (l ++ c :: r) = numL l := by
  unfold numL
  simp only
  have e : (l ++ c :: r).length - (dropMinus l ++ c :: r).length = l.length - (dropMinus l).length := by simp only [List.length_append]; omega
  rw [dropMinus_app hl, spanL_app hc r, take_app (spanL_le _ _), e]
theorem firstL_app {c : UInt8} (hc : nameByte c = false) (r : List UInt8) {l : List UInt8} (hl : l ≠ []) : firstL (l ++ c :: r) = firstL l := by
  have hn := nameL_app hc r l
  have hm := numL_app (name_digit hc) r hl
  cases l with
  | nil => exact absurd rfl hl
  | cons b l =>
    simp only [List.cons_append] at hn hm
    simp only [List.cons_append, firstL]
    rw [hn, hm]

theorem nameL_take {l : List UInt8} {x : Fst} (h : nameL l = some x) : nameL (l.take x.size) = some x ∧ x.size = spanL nameByte l := by
  have hx : x.size = spanL nameByte l := by
    unfold nameL at h
    split at h
    · cases h
    · split at h
      · injection h with h; subst h; rfl
      · injection h with h; subst h; rfl
  refine ⟨?_, hx⟩
  rw [← h, hx]
  unfold nameL
  rw [spanL_take, List.take_take, Nat.min_self]
theorem dropMinus_cases (l : List UInt8) : (dropMinus l = l ∧ l.length - (dropMinus l).length = 0 ∧ ∀ n, 0 < n → dropMinus (l.take n) = (dropMinus l).take n) ∨
    (l.length - (dropMinus l).length = 1 ∧ ∀ n, dropMinus (l.take (1 + n)) = (dropMinus l).take n) := by
  cases l with
  | nil => left; simp [dropMinus]
  | cons b l =>
    by_cases hb : (b.toNat == 45) = true
    · right
      have e : dropMinus (b :: l) = l := by simp only [dropMinus]; rw [if_pos hb]
      refine ⟨by rw [e]; simp, fun n => ?_⟩
      rw [e, Nat.add_comm, List.take_succ_cons]
      simp only [dropMinus]
      rw [if_pos hb]
    · left
      have e : dropMinus (b :: l) = b :: l := by simp only [dropMinus]; rw [if_neg hb]
      refine ⟨e, by rw [e]; simp, fun n hn => ?_⟩
      rw [e]
      obtain ⟨m, rfl⟩ : ∃ m, n = m + 1 := ⟨n - 1, by omega⟩
      rw [List.take_succ_cons]
      simp only [dropMinus]
      rw [if_neg hb]
theorem numL_take {l : List UInt8} {x : Fst} (h : numL l = some x) : numL (l.take x.size) = some x := by
  have h' := h
  unfold numL at h
  simp only at h
  split at h
  · cases h
  · rename_i hc
    injection h with h
    have hx : x.size = l.length - (dropMinus l).length + spanL isDigit (dropMinus l) := by rw [← h]
    have h0 : spanL isDigit (dropMinus l) ≠ 0 := fun e => hc (.inl e)
    have hle := spanL_le isDigit (dropMinus l)
    have hlen := dropMinus_len l
    rw [← h', hx]
    have key : dropMinus (l.take (l.length - (dropMinus l).length + spanL isDigit (dropMinus l))) = (dropMinus l).take (spanL isDigit (dropMinus l)) := by
      rcases dropMinus_cases l with ⟨_, h2, h3⟩ | ⟨h2, h3⟩
      · rw [h2, Nat.zero_add]; exact h3 _ (by omega)
      · rw [h2]; exact h3 _
    have hl2 : (l.take (l.length - (dropMinus l).length + spanL isDigit (dropMinus l))).length - ((dropMinus l).take (spanL isDigit (dropMinus l))).length = l.length - (dropMinus l).length := by
      rw [List.length_take, List.length_take]; omega
    unfold numL
    simp only
    rw [key, spanL_take, List.take_take, Nat.min_self, hl2]
theorem firstL_take {l : List UInt8} {x : Fst} (h : firstL l = some x) : firstL (l.take x.size) = some x := by
  have hs := firstL_size h
  cases l with
  | nil => cases h
  | cons b l =>
    obtain ⟨m, hm⟩ : ∃ m, x.size = m + 1 := ⟨x.size - 1, by omega⟩
    have e : (b :: l).take x.size = b :: l.take m := by rw [hm, List.take_succ_cons]
    rw [e]
    simp only [firstL] at h ⊢
    split at h
    · rename_i hb
      rw [if_pos hb, ← e]
      exact (nameL_take h).1
    · rename_i hb
      rw [if_neg hb]
      split at h
      · rename_i hd
        rw [if_pos hd, ← e]
        exact numL_take h
      · rename_i hd
        rw [if_neg hd]
        exact h

/-- A token has no blank ahead. -/
theorem firstL_head {l : List UInt8} {x : Fst} (h : firstL l = some x) : passL false l = 0 := by
  cases l with
  | nil => cases h
  | cons b l =>
    have hb : isBlank b = false ∧ b.toNat ≠ 35 := by
      refine ⟨?_, ?_⟩
      · cases hk : isBlank b with
        | false => rfl
        | true =>
          exfalso
          simp only [isBlank, Bool.or_eq_true, beq_iff_eq] at hk
          have : b = 32 ∨ b = 9 ∨ b = 10 := by
            rcases hk with (hk | hk) | hk
            · left; exact UInt8.toNat_inj.1 hk
            · right; left; exact UInt8.toNat_inj.1 hk
            · right; right; exact UInt8.toNat_inj.1 hk
          rcases this with rfl | rfl | rfl <;> simp [firstL, isLetter, isDigit, isSign, signs] at h
      · intro hk
        have : b = 35 := UInt8.toNat_inj.1 hk
        subst this
        simp [firstL, isLetter, isDigit, isSign, signs] at h
    rw [passL, if_neg (by simp [hb.1]), if_neg (by simpa using hb.2)]

theorem lexL_one {l : List UInt8} {x : Fst} (h : firstL l = some x) (hx : x.size = l.length) : lexL l = .ok [⟨x.kind, 0, l, x.n⟩] := by
  unfold lexL
  rw [firstL_head h, List.drop_zero, lexFrom_some 0 h, hx, List.drop_length]
  simp only [passL, List.drop_nil, lexFrom_nil, List.take_length]
theorem lexL_bad {l : List UInt8} (hl : l ≠ []) (hp : passL false l = 0) (h : firstL l = none) : lexL l = .error 0 := by
  unfold lexL
  rw [hp, List.drop_zero, lexFrom_none 0 hl h]
end Go.Proofs.Ytinppjjhjijoeaa
