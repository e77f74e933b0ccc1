/-
  The walks of name, number, first.
-/
import Derived.Test.YtlppbgmcoknliaaGreatDoorVal
namespace Go.Proofs.YtlppbgmcoknliaaGreatDoor
set_option linter.unusedVariables false
open Go.RowKit

/-- A token as a value. -/
def tokV (k a : Int) (t : List UInt8) (n : Int) : Value := .agg #[.int .i64 k, .int .i64 a, .string ⟨t.toArray⟩, .int .i64 n]
theorem extract_take (s : ByteArray) (n : Nat) : s.extract 0 n = ⟨(s.data.toList.take n).toArray⟩ := by
  rw [Lib.extract_eq]; simp
theorem extract_drop (s : ByteArray) (n : Nat) : (s.extract n s.size).data.toList = s.data.toList.drop n := by
  rw [Lib.extract_data]
  refine List.take_of_length_le ?_
  rw [List.length_drop, size_list]
  exact Nat.le_refl _

set_option maxHeartbeats 1000000 in
theorem name_none (s : ByteArray) (hs : s.size ≤ 100000000) (w : World) (h : 16 < spanL nameByte s.data.toList) :
    Calls Tryz.prog 156 #[.string s] w fun e w' => e = .returned (.tuple #[.agg #[.int .i64 0, .int .i64 0, .string ⟨#[]⟩, .int .i64 0], .bool false]) ∧ Below w.heap.size w w' := by
  have c1 := span_name s hs
  generalize spanL nameByte s.data.toList = N at c1 h
  go_enter Tryz.func156, Tryz.ntmps156
  go_wp2_with (first | (go_at_call 187; refine (c1 _).mono ?_; rintro e w' ⟨rfl, rfl⟩))
  (try simp only [Exit.inBlock, Exit.then])
  refine bodyPost_ret (by simp [results, Tryz.results156, go_sem]; try rfl) rfl ?_
  exact ⟨rfl, (Below.refl w.heap.size w).alloc (Nat.le_refl _) _⟩

set_option maxHeartbeats 1000000 in
theorem name_some (s : ByteArray) (hs : s.size ≤ 100000000) (w : World) (b : Bool) (h : spanL nameByte s.data.toList ≤ 16) (hb : isWord (s.data.toList.take (spanL nameByte s.data.toList)) = b) :
    Calls Tryz.prog 156 #[.string s] w fun e w' => e = .returned (.tuple #[.agg #[.int .i64 (if b then 2 else 1), .int .i64 0, .string ⟨(s.data.toList.take (spanL nameByte s.data.toList)).toArray⟩, .int .i64 0], .bool true]) ∧ Below w.heap.size w w' := by
  have c1 := span_name s hs
  have hN := spanL_le nameByte s.data.toList
  rw [← extract_take]
  have hb : isWord (s.extract 0 (spanL nameByte s.data.toList)).data.toList = b := by rw [extract_take]; exact hb
  generalize spanL nameByte s.data.toList = N at c1 h hb hN ⊢
  have hN : N ≤ s.size := by rw [size_list]; exact hN
  have c2 := word_any (s.extract 0 N)
  rw [hb] at c2
  clear hb
  cases b
  · have c3 := fun w => newToken_any 1 s N w hs hN
    go_enter Tryz.func156, Tryz.ntmps156
    go_wp2_with (first | (go_at_call 187; refine (c1 _).mono ?_; rintro e w' ⟨rfl, rfl⟩) | (go_at_call 189; refine (c2 _).mono ?_; rintro e w' ⟨rfl, rfl⟩) | (go_at_call 160; refine (c3 _).mono ?_; rintro e w' ⟨rfl, hb⟩; obtain ⟨q0, q1, q2, q3, f0, f1, f2, f3⟩ := box4 hb; have hb := hidIt hb))
    (try simp only [Exit.inBlock, Exit.then])
    refine bodyPost_ret (by simp [results, Tryz.results156, go_sem, q0, q1, q2, q3]; try rfl) rfl ?_
    exact ⟨rfl, below_put (below_put (below_put (below_put (below_box hb.out) _ _) _ _) _ _) _ _⟩
  · have c3 := fun w => newToken_any 2 s N w hs hN
    go_enter Tryz.func156, Tryz.ntmps156
    go_wp2_with (first | (go_at_call 187; refine (c1 _).mono ?_; rintro e w' ⟨rfl, rfl⟩) | (go_at_call 189; refine (c2 _).mono ?_; rintro e w' ⟨rfl, rfl⟩) | (go_at_call 160; refine (c3 _).mono ?_; rintro e w' ⟨rfl, hb⟩; obtain ⟨q0, q1, q2, q3, f0, f1, f2, f3⟩ := box4 hb; have hb := hidIt hb))
    (try simp only [Exit.inBlock, Exit.then])
    refine bodyPost_ret (by simp [results, Tryz.results156, go_sem, q0, q1, q2, q3]; try rfl) rfl ?_
    exact ⟨rfl, below_put (below_put (below_put (below_put (below_box hb.out) _ _) _ _) _ _) _ _⟩

theorem trim_minus (l : List UInt8) : Lib.trimPrefix l [45] = dropMinus l := by
  cases l with
  | nil => rfl
  | cons b l =>
    simp only [Lib.trimPrefix, Lib.hasPrefix, dropMinus, List.isPrefixOf, List.length_cons, List.length_nil, List.drop_succ_cons, List.drop_zero, Bool.and_true]
    have : ((45 : UInt8) == b) = (b.toNat == 45) := by
      rw [Bool.eq_iff_iff]
      simp only [beq_iff_eq]
      constructor
      · rintro rfl; rfl
      · intro h; exact (UInt8.toNat_inj.1 (by rw [h]; rfl)).symm
    rw [this]
theorem span_all (p : UInt8 → Bool) : ∀ (l : List UInt8) (k : Nat) (h : k < (l.take (spanL p l)).length), p ((l.take (spanL p l))[k]'h) = true
  | [], k, h => absurd h (by simp)
  | b :: l, k, h => by
    by_cases hb : p b = true
    · have e : (b :: l).take (spanL p (b :: l)) = b :: l.take (spanL p l) := by rw [spanL, if_pos hb]; rfl
      cases k with
      | zero => simp only [e, List.getElem_cons_zero]; exact hb
      | succ k =>
        simp only [e, List.getElem_cons_succ]
        exact span_all p l k (by rw [e] at h; simpa using h)
    · have e : (b :: l).take (spanL p (b :: l)) = [] := by rw [spanL, if_neg hb]; rfl
      rw [e] at h
      exact absurd h (by simp)

/-- What number works with: the text behind a -, how many digits, their value. -/
structure NumC (s d : ByteArray) (C V : Nat) : Prop where
  trim : ∀ w, Calls Tryz.prog 190 #[.string s, .string ⟨#[45]⟩] w fun e w' => e = .returned (.string d) ∧ w = w'
  span : ∀ w, Calls Tryz.prog 187 #[.string d, .func (.func 157) #[] #[]] w fun e w' => e = .returned (.int .i64 (C : Nat)) ∧ w = w'
  val : ∀ w, Calls Tryz.prog 191 #[.string (d.extract 0 C)] w fun e w' => e = .returned (.int .i64 (V : Nat)) ∧ w = w'
  le : C ≤ d.size
  sz : d.size ≤ s.size ∧ s.size ≤ d.size + 1
  vle : V ≤ 1099511627777
theorem numC (s : ByteArray) (hs : s.size ≤ 100000000) : NumC s ⟨(dropMinus s.data.toList).toArray⟩ (spanL isDigit (dropMinus s.data.toList)) (valL ((dropMinus s.data.toList).take (spanL isDigit (dropMinus s.data.toList)))) := by
  have hl := dropMinus_len s.data.toList
  have hsz : (⟨(dropMinus s.data.toList).toArray⟩ : ByteArray).size = (dropMinus s.data.toList).length := by rw [size_list]
  rw [← size_list, ← hsz] at hl
  have hsp := spanL_le isDigit (dropMinus s.data.toList)
  rw [← hsz] at hsp
  have htr := fun w => Tryz.strings_TrimPrefix s ⟨#[45]⟩ w
  have hspan := fun w => span_digit ⟨(dropMinus s.data.toList).toArray⟩ (by omega) w
  have hex : (ByteArray.extract ⟨(dropMinus s.data.toList).toArray⟩ 0 (spanL isDigit (dropMinus s.data.toList))).data.toList = (dropMinus s.data.toList).take (spanL isDigit (dropMinus s.data.toList)) := by
    rw [extract_take]
  have hval := fun w => value_any (ByteArray.extract ⟨(dropMinus s.data.toList).toArray⟩ 0 (spanL isDigit (dropMinus s.data.toList))) (by rw [ByteArray.size_extract]; omega) w (by
    intro k h
    have h1 : k < ((dropMinus s.data.toList).take (spanL isDigit (dropMinus s.data.toList))).length := by rw [← hex, ← size_list]; exact h
    have h2 := span_all isDigit (dropMinus s.data.toList) k h1
    have h3 : (ByteArray.extract ⟨(dropMinus s.data.toList).toArray⟩ 0 (spanL isDigit (dropMinus s.data.toList)))[k] = ((dropMinus s.data.toList).take (spanL isDigit (dropMinus s.data.toList)))[k]'h1 := by
      have : (ByteArray.extract ⟨(dropMinus s.data.toList).toArray⟩ 0 (spanL isDigit (dropMinus s.data.toList)))[k] = ((ByteArray.extract ⟨(dropMinus s.data.toList).toArray⟩ 0 (spanL isDigit (dropMinus s.data.toList))).data.toList)[k]'(by rw [← size_list]; exact h) := rfl
      rw [this]
      simp only [hex]
    rw [h3]; exact h2)
  rw [hex] at hval
  refine ⟨fun w => (htr w).mono ?_, hspan, hval, hsp, hl, valL_le _⟩
  rintro e w' ⟨h1, h2⟩
  exact ⟨by rw [h1, ← trim_minus], h2.symm⟩
end Go.Proofs.YtlppbgmcoknliaaGreatDoor
