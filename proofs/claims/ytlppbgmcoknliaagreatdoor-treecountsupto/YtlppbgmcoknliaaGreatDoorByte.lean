/-
  The walks of what tells bytes apart: letter, digit, sign, the two closures; and of span at each of them.
-/
import Derived.Test.YtlppbgmcoknliaaGreatDoorMod
import Derived.Test.YtlppbgmcoknliaaGreatDoorShelf
import Derived.WalkLawsBesides
import Derived.Lib.Bytealg
namespace Go.Proofs.YtlppbgmcoknliaaGreatDoor
set_option linter.unusedVariables false
open Go.RowKit

set_option maxHeartbeats 400000 in
theorem letter_any (b : UInt8) (w : World) :
 Calls Tryz.prog 155 #[.int .u8 (b.toNat : Int)] w fun e w' => e = .returned (.bool (isLetter b)) ∧ w = w' := by
 have hl : isLetter b = (decide ((97 : Int) ≤ (b.toNat : Int)) && decide ((b.toNat : Int) ≤ 122)) := by
  unfold isLetter
  rw [decide_eq_decide.2 (show (97 ≤ b.toNat) ↔ ((97 : Int) ≤ (b.toNat : Int)) by omega), decide_eq_decide.2 (show (b.toNat ≤ 122) ↔ ((b.toNat : Int) ≤ 122) by omega)]
 generalize b.toNat = n at hl ⊢
 rw [hl]
 clear hl
 by_cases h1 : (97 : Int) ≤ (n : Int)
 · go_enter Tryz.func155, Tryz.ntmps155
   go_wp2
   go_ret
   exact ⟨by simp [h1], rfl⟩
 · go_enter Tryz.func155, Tryz.ntmps155
   go_wp2
   go_ret
   exact ⟨by simp; omega, rfl⟩

set_option maxHeartbeats 400000 in
theorem digit_any (b : UInt8) (w : World) :
 Calls Tryz.prog 157 #[.int .u8 (b.toNat : Int)] w fun e w' => e = .returned (.bool (isDigit b)) ∧ w = w' := by
 have hl : isDigit b = (decide ((48 : Int) ≤ (b.toNat : Int)) && decide ((b.toNat : Int) ≤ 57)) := by
  unfold isDigit
  rw [decide_eq_decide.2 (show (48 ≤ b.toNat) ↔ ((48 : Int) ≤ (b.toNat : Int)) by omega), decide_eq_decide.2 (show (b.toNat ≤ 57) ↔ ((b.toNat : Int) ≤ 57) by omega)]
 generalize b.toNat = n at hl ⊢
 rw [hl]
 clear hl
 by_cases h1 : (48 : Int) ≤ (n : Int)
 · go_enter Tryz.func157, Tryz.ntmps157
   go_wp2
   go_ret
   exact ⟨by simp [h1], rfl⟩
 · go_enter Tryz.func157, Tryz.ntmps157
   go_wp2
   go_ret
   exact ⟨by simp; omega, rfl⟩

set_option maxHeartbeats 400000 in
theorem nameb_any (b : UInt8) (w : World) :
 Calls Tryz.prog 188 #[.int .u8 (b.toNat : Int)] w fun e w' => e = .returned (.bool (nameByte b)) ∧ w = w' := by
 have hl : nameByte b = (isLetter b || isDigit b || ((b.toNat : Int) == 95)) := by
  unfold nameByte
  have : (b.toNat == 95) = ((b.toNat : Int) == 95) := by rw [Bool.eq_iff_iff]; simp; omega
  rw [this]
 rw [hl]
 clear hl
 have c1 := letter_any b
 have c2 := digit_any b
 generalize isLetter b = x at c1 ⊢
 generalize isDigit b = y at c2 ⊢
 generalize b.toNat = n at c1 c2 ⊢
 cases x <;> cases y
 all_goals
  go_enter Tryz.func188, Tryz.ntmps188
  go_wp2_with (first | (go_at_call 155; refine (c1 _).mono ?_; rintro e w' ⟨rfl, rfl⟩) | (go_at_call 157; refine (c2 _).mono ?_; rintro e w' ⟨rfl, rfl⟩))
  go_ret
  exact ⟨by simp, rfl⟩

theorem indexByte_in : ∀ (l : List UInt8) (c : UInt8), decide (0 ≤ Lib.indexByte l c) = l.contains c
 | [], _ => by simp [Lib.indexByte]
 | b :: l, c => by
  have ih := indexByte_in l c
  have hge := Lib.indexByte_ge l c
  unfold Lib.indexByte
  by_cases h : b = c
  · subst h; simp
  · have hc : (b :: l).contains c = l.contains c := by
     simp only [List.contains_cons]
     have : (c == b) = false := by simp; exact fun e => h e.symm
     simp [this]
    rw [hc, ← ih]
    have hb : (b == c) = false := by simp [h]
    rw [hb]
    simp only [Bool.false_eq_true, if_false]
    split
    · rename_i h1
      have : Lib.indexByte l c = -1 := by simpa using h1
      rw [this]
    · rename_i h1
      have : ¬ Lib.indexByte l c = -1 := by simpa using h1
      rw [decide_eq_decide]
      omega

theorem u8_back (b : UInt8) : (b.toNat : Int).toNat.toUInt8 = b := by simp

set_option maxHeartbeats 400000 in
theorem sign_any (b : UInt8) (w : World) :
 Calls Tryz.prog 159 #[.int .u8 (b.toNat : Int)] w fun e w' => e = .returned (.bool (isSign b)) ∧ w = w' := by
 have c1 : ∀ w, Calls Tryz.prog 192 #[.string ⟨#[123, 125, 40, 41, 59, 44, 46, 42, 58, 61]⟩, .int .u8 (b.toNat : Int)] w fun e w' => e = .returned (.int .i64 (Lib.indexByte signs b)) ∧ w = w' := fun w =>
  (Tryz.strings_IndexByte ⟨#[123, 125, 40, 41, 59, 44, 46, 42, 58, 61]⟩ (b.toNat : Int) w).mono fun e w' ⟨h1, h2⟩ => ⟨by rw [h1, u8_back]; rfl, h2.symm⟩
 have hl : isSign b = decide (0 ≤ Lib.indexByte signs b) := (indexByte_in signs b).symm
 rw [hl]
 clear hl
 generalize Lib.indexByte signs b = i at c1 ⊢
 generalize b.toNat = n at c1 ⊢
 go_enter Tryz.func159, Tryz.ntmps159
 go_wp2_with (first | (go_at_call 192; refine (c1 _).mono ?_; rintro e w' ⟨rfl, rfl⟩))
 go_ret
 exact ⟨rfl, rfl⟩

theorem drop_cons (s : ByteArray) (k : Nat) (h : k < s.size) : s.data.toList.drop k = (s[k]'h) :: s.data.toList.drop (k + 1) := by
 have h' : k < s.data.toList.length := by simpa using h
 rw [List.drop_eq_getElem_cons h']
 rfl
theorem size_list (s : ByteArray) : s.size = s.data.toList.length := Array.length_toList.symm
theorem spanL_yes {p : UInt8 → Bool} {s : ByteArray} {k n : Nat} (h : k < s.size) (hp : p (s[k]'h) = true) (hn : n = k + spanL p (s.data.toList.drop k)) : n = k + 1 + spanL p (s.data.toList.drop (k + 1)) := by
 rw [hn, drop_cons s k h, spanL, if_pos hp]
 omega
theorem spanL_no {p : UInt8 → Bool} {s : ByteArray} {k n : Nat} (h : k < s.size) (hp : p (s[k]'h) = false) (hn : n = k + spanL p (s.data.toList.drop k)) : n = k := by
 rw [hn, drop_cons s k h, spanL, if_neg (by simp [hp])]
 omega
theorem spanL_end {p : UInt8 → Bool} {s : ByteArray} {n : Nat} (hn : n = s.size + spanL p (s.data.toList.drop s.size)) : n = s.size := by
 rw [hn, size_list, List.drop_length]
 rfl

set_option maxHeartbeats 1000000 in
theorem span_digit (s : ByteArray) (hs : s.size ≤ 100000000) (w : World) :
 Calls Tryz.prog 187 #[.string s, .func (.func 157) #[] #[]] w fun e w' => e = .returned (.int .i64 (spanL isDigit s.data.toList : Nat)) ∧ w = w' := by
 have hst : Hid (spanL isDigit s.data.toList = 0 + spanL isDigit (s.data.toList.drop 0)) := hidIt (by simp)
 generalize spanL isDigit s.data.toList = N at hst ⊢
 go_enter Tryz.func187, Tryz.ntmps187
 go_wp2
 go_loopw [5] (fun i wr => ∃ k : Nat, k ≤ s.size ∧ i = .int .i64 k ∧ wr = w ∧ Hid (N = k + spanL isDigit (s.data.toList.drop k))) (fun i _ => s.size - (intOf i).toNat)
 case atStart => exact ⟨0, Nat.zero_le _, rfl, rfl, hst⟩
 case round =>
  clear hst
  obtain ⟨k, hk, rfl, rfl, hN⟩ := hrel
  by_cases hlt : k < s.size
  · have hc := digit_any (s[k]'hlt)
    cases hb : isDigit (s[k]'hlt)
    · have hN2 := hidIt (spanL_no hlt hb hN.out)
      rw [hb] at hc
      clear hN hb
      go_wp2_with (first | (go_at_call 157; refine (hc _).mono ?_; rintro e w' ⟨rfl, rfl⟩))
      go_ret
      exact ⟨by rw [hN2.out]; rfl, rfl⟩
    · have hN2 := hidIt (spanL_yes hlt hb hN.out)
      rw [hb] at hc
      clear hN hb
      go_wp2_with (first | (go_at_call 157; refine (hc _).mono ?_; rintro e w' ⟨rfl, rfl⟩))
      go_roundw
      case rel => exact ⟨k + 1, by omega, by go_num, trivial, hN2⟩
      case measure => simp [intOf]; omega
  · obtain rfl : k = s.size := by omega
    have hN2 := hidIt (spanL_end hN.out)
    clear hN
    go_wp2
    go_ret
    exact ⟨by rw [hN2.out]; rfl, rfl⟩

set_option maxHeartbeats 1000000 in
theorem span_name (s : ByteArray) (hs : s.size ≤ 100000000) (w : World) :
 Calls Tryz.prog 187 #[.string s, .func (.func 188) #[] #[]] w fun e w' => e = .returned (.int .i64 (spanL nameByte s.data.toList : Nat)) ∧ w = w' := by
 have hst : Hid (spanL nameByte s.data.toList = 0 + spanL nameByte (s.data.toList.drop 0)) := hidIt (by simp)
 generalize spanL nameByte s.data.toList = N at hst ⊢
 go_enter Tryz.func187, Tryz.ntmps187
 go_wp2
 go_loopw [5] (fun i wr => ∃ k : Nat, k ≤ s.size ∧ i = .int .i64 k ∧ wr = w ∧ Hid (N = k + spanL nameByte (s.data.toList.drop k))) (fun i _ => s.size - (intOf i).toNat)
 case atStart => exact ⟨0, Nat.zero_le _, rfl, rfl, hst⟩
 case round =>
  clear hst
  obtain ⟨k, hk, rfl, rfl, hN⟩ := hrel
  by_cases hlt : k < s.size
  · have hc := nameb_any (s[k]'hlt)
    cases hb : nameByte (s[k]'hlt)
    · have hN2 := hidIt (spanL_no hlt hb hN.out)
      rw [hb] at hc
      clear hN hb
      go_wp2_with (first | (go_at_call 188; refine (hc _).mono ?_; rintro e w' ⟨rfl, rfl⟩))
      go_ret
      exact ⟨by rw [hN2.out]; rfl, rfl⟩
    · have hN2 := hidIt (spanL_yes hlt hb hN.out)
      rw [hb] at hc
      clear hN hb
      go_wp2_with (first | (go_at_call 188; refine (hc _).mono ?_; rintro e w' ⟨rfl, rfl⟩))
      go_roundw
      case rel => exact ⟨k + 1, by omega, by go_num, trivial, hN2⟩
      case measure => simp [intOf]; omega
  · obtain rfl : k = s.size := by omega
    have hN2 := hidIt (spanL_end hN.out)
    clear hN
    go_wp2
    go_ret
    exact ⟨by rw [hN2.out]; rfl, rfl⟩

end Go.Proofs.YtlppbgmcoknliaaGreatDoor
