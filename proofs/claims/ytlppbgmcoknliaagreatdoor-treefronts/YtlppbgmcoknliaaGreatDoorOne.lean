/-
  The walk of first.
-/
import Derived.Test.YtlppbgmcoknliaaGreatDoorNum
namespace Go.Proofs.YtlppbgmcoknliaaGreatDoor
set_option linter.unusedVariables false
open Go.RowKit

/-- What first, name and number answer. -/
def fstV (l : List UInt8) : Option Fst → Value
  | none => .tuple #[.agg #[.int .i64 0, .int .i64 0, .string ⟨#[]⟩, .int .i64 0], .bool false]
  | some x => .tuple #[.agg #[.int .i64 (x.kind : Int), .int .i64 0, .string ⟨(l.take x.size).toArray⟩, .int .i64 x.n], .bool true]
theorem fstV_form (l : List UInt8) (o : Option Fst) : ∃ a0 a1 a2 a3 ok, fstV l o = .tuple #[.agg #[.int .i64 a0, .int .i64 a1, .string a2, .int .i64 a3], .bool ok] := by
  cases o with
  | none => exact ⟨_, _, _, _, _, rfl⟩
  | some x => exact ⟨_, _, _, _, _, rfl⟩

theorem name_any (s : ByteArray) (hs : s.size ≤ 100000000) (w : World) :
    Calls Tryz.prog 156 #[.string s] w fun e w' => e = .returned (fstV s.data.toList (nameL s.data.toList)) ∧ Below w.heap.size w w' := by
  by_cases h : 16 < spanL nameByte s.data.toList
  · have e : nameL s.data.toList = none := by unfold nameL; rw [if_pos h]
    rw [e]
    exact name_none s hs w h
  · have e : nameL s.data.toList = some ⟨if isWord (s.data.toList.take (spanL nameByte s.data.toList)) then 2 else 1, spanL nameByte s.data.toList, 0⟩ := by
      unfold nameL
      rw [if_neg h]
      split <;> rfl
    rw [e]
    refine (name_some s hs w _ (by omega) rfl).mono ?_
    rintro e w' ⟨rfl, hb⟩
    refine ⟨?_, hb⟩
    simp only [fstV]
    split <;> rfl

theorem number_any (s : ByteArray) (hs : s.size ≤ 100000000) (w : World) :
    Calls Tryz.prog 158 #[.string s] w fun e w' => e = .returned (fstV s.data.toList (numL s.data.toList)) ∧ Below w.heap.size w w' := by
  have hc := numC s hs
  have hl := dropMinus_len s.data.toList
  have hsz : (⟨(dropMinus s.data.toList).toArray⟩ : ByteArray).size = (dropMinus s.data.toList).length := by rw [size_list]
  have hss := size_list s
  by_cases h : spanL isDigit (dropMinus s.data.toList) = 0 ∨ 1099511627776 < valL ((dropMinus s.data.toList).take (spanL isDigit (dropMinus s.data.toList)))
  · have e : numL s.data.toList = none := by unfold numL; simp only; rw [if_pos h]
    rw [e]
    exact number_none s _ _ _ hs hc w h
  · have e : numL s.data.toList = some ⟨3, s.data.toList.length - (dropMinus s.data.toList).length + spanL isDigit (dropMinus s.data.toList), if 0 < s.data.toList.length - (dropMinus s.data.toList).length then -(valL ((dropMinus s.data.toList).take (spanL isDigit (dropMinus s.data.toList))) : Int) else valL ((dropMinus s.data.toList).take (spanL isDigit (dropMinus s.data.toList)))⟩ := by unfold numL; simp only; rw [if_neg h]
    rw [e]
    have h1 : spanL isDigit (dropMinus s.data.toList) ≠ 0 := fun x => h (.inl x)
    have h2 : valL ((dropMinus s.data.toList).take (spanL isDigit (dropMinus s.data.toList))) ≤ 1099511627776 := Nat.le_of_not_lt fun x => h (.inr x)
    clear h e
    by_cases hd : s.data.toList.length = (dropMinus s.data.toList).length
    · refine (number_plus s _ _ _ hs hc w h1 h2 (by omega)).mono ?_
      rintro e w' ⟨rfl, hb⟩
      refine ⟨?_, hb⟩
      rw [extract_take]
      simp only [fstV, hd, Nat.sub_self, Nat.zero_add, Nat.lt_irrefl, if_false]
      rfl
    · refine (number_minus s _ _ _ hs hc w h1 h2 (by omega)).mono ?_
      rintro e w' ⟨rfl, hb⟩
      refine ⟨?_, hb⟩
      have h3 : s.data.toList.length - (dropMinus s.data.toList).length = 1 := by omega
      rw [extract_take]
      simp only [fstV, h3, Nat.zero_lt_one, if_true]
      rfl

set_option maxHeartbeats 1000000 in
theorem first_name (s : ByteArray) (a0 a1 a3 : Int) (a2 : ByteArray) (ok : Bool) (hs0 : 0 < s.size) (hl : isLetter (s[0]'hs0) = true) (c : ∀ w, Calls Tryz.prog 156 #[.string s] w fun e w' => e = .returned (.tuple #[.agg #[.int .i64 a0, .int .i64 a1, .string a2, .int .i64 a3], .bool ok]) ∧ Below w.heap.size w w') (w : World) :
    Calls Tryz.prog 120 #[.string s] w fun e w' => e = .returned (.tuple #[.agg #[.int .i64 a0, .int .i64 a1, .string a2, .int .i64 a3], .bool ok]) ∧ Below w.heap.size w w' := by
  have hE : s.toList.isEmpty = false := by
    rw [ByteArray.toList_eq]
    cases h : s.data.toList with
    | nil => rw [size_list, h] at hs0; simp at hs0
    | cons b l => rfl
  have c1 := letter_any (s[0]'hs0)
  rw [hl] at c1
  clear hl
  go_enter Tryz.func120, Tryz.ntmps120
  go_wp2_with (first | (go_at_call 155; refine (c1 _).mono ?_; rintro e w' ⟨rfl, rfl⟩) | (go_at_call 156; refine (c _).mono ?_; rintro e w' ⟨rfl, hb⟩; obtain ⟨q0, q1, q2, q3, f0, f1, f2, f3⟩ := box4 hb; have hb := hidIt hb))
  (try simp only [Exit.inBlock, Exit.then])
  refine bodyPost_ret (by simp [results, Tryz.results120, go_sem, q0, q1, q2, q3]; try rfl) rfl ?_
  exact ⟨rfl, below_put (below_put (below_put (below_put (below_box hb.out) _ _) _ _) _ _) _ _⟩

set_option maxHeartbeats 1000000 in
theorem first_num (s : ByteArray) (a0 a1 a3 : Int) (a2 : ByteArray) (ok : Bool) (hs0 : 0 < s.size) (hl : isLetter (s[0]'hs0) = false) (hd : isDigit (s[0]'hs0) = true) (c : ∀ w, Calls Tryz.prog 158 #[.string s] w fun e w' => e = .returned (.tuple #[.agg #[.int .i64 a0, .int .i64 a1, .string a2, .int .i64 a3], .bool ok]) ∧ Below w.heap.size w w') (w : World) :
    Calls Tryz.prog 120 #[.string s] w fun e w' => e = .returned (.tuple #[.agg #[.int .i64 a0, .int .i64 a1, .string a2, .int .i64 a3], .bool ok]) ∧ Below w.heap.size w w' := by
  have hE : s.toList.isEmpty = false := by
    rw [ByteArray.toList_eq]
    cases h : s.data.toList with
    | nil => rw [size_list, h] at hs0; simp at hs0
    | cons b l => rfl
  have c1 := letter_any (s[0]'hs0)
  have c2 := digit_any (s[0]'hs0)
  rw [hl] at c1
  rw [hd] at c2
  clear hl hd
  go_enter Tryz.func120, Tryz.ntmps120
  go_wp2_with (first | (go_at_call 155; refine (c1 _).mono ?_; rintro e w' ⟨rfl, rfl⟩) | (go_at_call 157; refine (c2 _).mono ?_; rintro e w' ⟨rfl, rfl⟩) | (go_at_call 158; refine (c _).mono ?_; rintro e w' ⟨rfl, hb⟩; obtain ⟨q0, q1, q2, q3, f0, f1, f2, f3⟩ := box4 hb; have hb := hidIt hb))
  (try simp only [Exit.inBlock, Exit.then])
  refine bodyPost_ret (by simp [results, Tryz.results120, go_sem, q0, q1, q2, q3]; try rfl) rfl ?_
  exact ⟨rfl, below_put (below_put (below_put (below_put (below_box hb.out) _ _) _ _) _ _) _ _⟩

set_option maxHeartbeats 1000000 in
theorem first_minus (s : ByteArray) (a0 a1 a3 : Int) (a2 : ByteArray) (ok : Bool) (hs0 : 0 < s.size) (hl : isLetter (s[0]'hs0) = false) (hd : isDigit (s[0]'hs0) = false) (hm : (s[0]'hs0).toNat = 45) (c : ∀ w, Calls Tryz.prog 158 #[.string s] w fun e w' => e = .returned (.tuple #[.agg #[.int .i64 a0, .int .i64 a1, .string a2, .int .i64 a3], .bool ok]) ∧ Below w.heap.size w w') (w : World) :
    Calls Tryz.prog 120 #[.string s] w fun e w' => e = .returned (.tuple #[.agg #[.int .i64 a0, .int .i64 a1, .string a2, .int .i64 a3], .bool ok]) ∧ Below w.heap.size w w' := by
  have hE : s.toList.isEmpty = false := by
    rw [ByteArray.toList_eq]
    cases h : s.data.toList with
    | nil => rw [size_list, h] at hs0; simp at hs0
    | cons b l => rfl
  have c1 := letter_any (s[0]'hs0)
  have c2 := digit_any (s[0]'hs0)
  rw [hl] at c1
  rw [hd] at c2
  have hm2 : (((s[0]'hs0).toNat : Int) == 45) = true := by simp; omega
  clear hl hd hm
  go_enter Tryz.func120, Tryz.ntmps120
  go_wp2_with (first | (go_at_call 155; refine (c1 _).mono ?_; rintro e w' ⟨rfl, rfl⟩) | (go_at_call 157; refine (c2 _).mono ?_; rintro e w' ⟨rfl, rfl⟩) | (go_at_call 158; refine (c _).mono ?_; rintro e w' ⟨rfl, hb⟩; obtain ⟨q0, q1, q2, q3, f0, f1, f2, f3⟩ := box4 hb; have hb := hidIt hb))
  (try simp only [Exit.inBlock, Exit.then])
  refine bodyPost_ret (by simp [results, Tryz.results120, go_sem, q0, q1, q2, q3]; try rfl) rfl ?_
  exact ⟨rfl, below_put (below_put (below_put (below_put (below_box hb.out) _ _) _ _) _ _) _ _⟩

set_option maxHeartbeats 1000000 in
theorem first_sign (s : ByteArray) (hs : s.size ≤ 100000000) (hs0 : 0 < s.size) (hl : isLetter (s[0]'hs0) = false) (hd : isDigit (s[0]'hs0) = false) (hm : (s[0]'hs0).toNat ≠ 45) (hsg : isSign (s[0]'hs0) = true) (w : World) :
    Calls Tryz.prog 120 #[.string s] w fun e w' => e = .returned (.tuple #[.agg #[.int .i64 4, .int .i64 0, .string (s.extract 0 1), .int .i64 0], .bool true]) ∧ Below w.heap.size w w' := by
  have hE : s.toList.isEmpty = false := by
    rw [ByteArray.toList_eq]
    cases h : s.data.toList with
    | nil => rw [size_list, h] at hs0; simp at hs0
    | cons b l => rfl
  have c1 := letter_any (s[0]'hs0)
  have c2 := digit_any (s[0]'hs0)
  have c3 := sign_any (s[0]'hs0)
  have c : ∀ w, Calls Tryz.prog 160 #[.int .i64 4, .string s, .int .i64 1] w fun e w' => e = .returned (.agg #[.int .i64 4, .int .i64 0, .string (s.extract 0 1), .int .i64 0]) ∧ Below w.heap.size w w' := fun w => newToken_any 4 s 1 w hs hs0
  rw [hl] at c1
  rw [hd] at c2
  rw [hsg] at c3
  have hm2 : (((s[0]'hs0).toNat : Int) == 45) = false := by simp; omega
  clear hl hd hm hsg
  go_enter Tryz.func120, Tryz.ntmps120
  go_wp2_with (first | (go_at_call 155; refine (c1 _).mono ?_; rintro e w' ⟨rfl, rfl⟩) | (go_at_call 157; refine (c2 _).mono ?_; rintro e w' ⟨rfl, rfl⟩) | (go_at_call 159; refine (c3 _).mono ?_; rintro e w' ⟨rfl, rfl⟩) | (go_at_call 160; refine (c _).mono ?_; rintro e w' ⟨rfl, hb⟩; obtain ⟨q0, q1, q2, q3, f0, f1, f2, f3⟩ := box4 hb; have hb := hidIt hb))
  (try simp only [Exit.inBlock, Exit.then])
  refine bodyPost_ret (by simp [results, Tryz.results120, go_sem, q0, q1, q2, q3]; try rfl) rfl ?_
  exact ⟨rfl, below_put (below_put (below_put (below_put (below_box hb.out) _ _) _ _) _ _) _ _⟩

set_option maxHeartbeats 1000000 in
theorem first_none (s : ByteArray) (hs0 : 0 < s.size) (hl : isLetter (s[0]'hs0) = false) (hd : isDigit (s[0]'hs0) = false) (hm : (s[0]'hs0).toNat ≠ 45) (hsg : isSign (s[0]'hs0) = false) (w : World) :
    Calls Tryz.prog 120 #[.string s] w fun e w' => e = .returned (.tuple #[.agg #[.int .i64 0, .int .i64 0, .string ⟨#[]⟩, .int .i64 0], .bool false]) ∧ Below w.heap.size w w' := by
  have hE : s.toList.isEmpty = false := by
    rw [ByteArray.toList_eq]
    cases h : s.data.toList with
    | nil => rw [size_list, h] at hs0; simp at hs0
    | cons b l => rfl
  have c1 := letter_any (s[0]'hs0)
  have c2 := digit_any (s[0]'hs0)
  have c3 := sign_any (s[0]'hs0)
  rw [hl] at c1
  rw [hd] at c2
  rw [hsg] at c3
  have hm2 : (((s[0]'hs0).toNat : Int) == 45) = false := by simp; omega
  clear hl hd hm hsg
  go_enter Tryz.func120, Tryz.ntmps120
  go_wp2_with (first | (go_at_call 155; refine (c1 _).mono ?_; rintro e w' ⟨rfl, rfl⟩) | (go_at_call 157; refine (c2 _).mono ?_; rintro e w' ⟨rfl, rfl⟩) | (go_at_call 159; refine (c3 _).mono ?_; rintro e w' ⟨rfl, rfl⟩))
  (try simp only [Exit.inBlock, Exit.then])
  refine bodyPost_ret (by simp [results, Tryz.results120, go_sem]; try rfl) rfl ?_
  exact ⟨rfl, (Below.refl w.heap.size w).alloc (Nat.le_refl _) _⟩

set_option maxHeartbeats 1000000 in
theorem first_empty (s : ByteArray) (hs0 : s.size = 0) (w : World) :
    Calls Tryz.prog 120 #[.string s] w fun e w' => e = .returned (.tuple #[.agg #[.int .i64 0, .int .i64 0, .string ⟨#[]⟩, .int .i64 0], .bool false]) ∧ Below w.heap.size w w' := by
  have hE : s.toList.isEmpty = true := by
    rw [ByteArray.toList_eq]
    cases h : s.data.toList with
    | nil => rfl
    | cons b l => rw [size_list, h] at hs0; simp at hs0
  clear hs0
  go_enter Tryz.func120, Tryz.ntmps120
  go_wp2
  (try simp only [Exit.inBlock, Exit.then])
  refine bodyPost_ret (by simp [results, Tryz.results120, go_sem]; try rfl) rfl ?_
  exact ⟨rfl, (Below.refl w.heap.size w).alloc (Nat.le_refl _) _⟩

theorem first_any (s : ByteArray) (hs : s.size ≤ 100000000) (w : World) :
    Calls Tryz.prog 120 #[.string s] w fun e w' => e = .returned (fstV s.data.toList (firstL s.data.toList)) ∧ Below w.heap.size w w' := by
  by_cases h0 : s.size = 0
  · have e : s.data.toList = [] := List.eq_nil_of_length_eq_zero (by rw [← size_list]; exact h0)
    rw [e]
    exact first_empty s h0 w
  · have hs0 : 0 < s.size := by omega
    have e : s.data.toList = (s[0]'hs0) :: s.data.toList.drop 1 := drop_cons s 0 hs0
    have ef : firstL s.data.toList = if isLetter (s[0]'hs0) then nameL s.data.toList else if isDigit (s[0]'hs0) || (s[0]'hs0).toNat == 45 then numL s.data.toList else if isSign (s[0]'hs0) then some ⟨4, 1, 0⟩ else none := by
      conv => lhs; rw [e]
      simp only [firstL]
      rw [← e]
    rw [ef]
    cases hl : isLetter (s[0]'hs0) with
    | true =>
      simp only [if_true]
      obtain ⟨a0, a1, a2, a3, ok, ev⟩ := fstV_form s.data.toList (nameL s.data.toList)
      have c := name_any s hs
      rw [ev] at c ⊢
      exact first_name s a0 a1 a3 a2 ok hs0 hl c w
    | false =>
      simp only [Bool.false_eq_true, if_false]
      cases hd : isDigit (s[0]'hs0) with
      | true =>
        simp only [Bool.true_or, if_true]
        obtain ⟨a0, a1, a2, a3, ok, ev⟩ := fstV_form s.data.toList (numL s.data.toList)
        have c := number_any s hs
        rw [ev] at c ⊢
        exact first_num s a0 a1 a3 a2 ok hs0 hl hd c w
      | false =>
        by_cases hm : (s[0]'hs0).toNat = 45
        · have hmb : ((s[0]'hs0).toNat == 45) = true := by simp [hm]
          simp only [hmb, Bool.or_true, if_true]
          obtain ⟨a0, a1, a2, a3, ok, ev⟩ := fstV_form s.data.toList (numL s.data.toList)
          have c := number_any s hs
          rw [ev] at c ⊢
          exact first_minus s a0 a1 a3 a2 ok hs0 hl hd hm c w
        · have hmb : ((s[0]'hs0).toNat == 45) = false := by simp [hm]
          simp only [hmb, Bool.or_self, Bool.false_eq_true, if_false]
          cases hsg : isSign (s[0]'hs0) with
          | true =>
            refine (first_sign s hs hs0 hl hd hm hsg w).mono ?_
            rintro e w' ⟨rfl, hb⟩
            refine ⟨?_, hb⟩
            rw [extract_take]
            rfl
          | false => exact first_none s hs0 hl hd hm hsg w
end Go.Proofs.YtlppbgmcoknliaaGreatDoor
