/-
  The walk of LexWords.
-/
import Derived.Test.YtinppjjhjijoeaaAlive
import Derived.Test.YtinppjjhjijoeaaPure
namespace Go.Proofs.Ytinppjjhjijoeaa
set_option linter.unusedVariables false
open Go.RowKit

theorem letters_span : ∀ (l : List UInt8), (∀ b ∈ l, isLetter b = true) → spanL nameByte l = l.length
  | [], _ => rfl
  | b :: l, h => by
    rw [spanL, if_pos (by simp [nameByte, h b (by simp)]), letters_span l fun c hc => h c (by simp [hc])]
    rfl
theorem letters_first {l : List UInt8} (hl : l ≠ []) (h : ∀ b ∈ l, isLetter b = true) : firstL l = nameL l := by
  cases l with
  | nil => exact absurd rfl hl
  | cons b l => simp only [firstL]; rw [if_pos (h b (by simp))]
def kOf (b : Bool) : Nat := if b then 2 else 1
theorem kOf_true : kOf true = 2 := rfl
theorem kOf_false : kOf false = 1 := rfl
def wk (l : List UInt8) : Nat := kOf (isWord l)
theorem letters_short {l : List UInt8} (hl : l ≠ []) (h : ∀ b ∈ l, isLetter b = true) (h16 : l.length ≤ 16) : firstL l = some ⟨wk l, l.length, 0⟩ := by
  rw [letters_first hl h]
  unfold nameL
  rw [letters_span l h, if_neg (by omega), List.take_length]
  unfold wk kOf
  split <;> rfl
theorem letters_long {l : List UInt8} (hl : l ≠ []) (h : ∀ b ∈ l, isLetter b = true) (h16 : 16 < l.length) : firstL l = none := by
  rw [letters_first hl h]
  unfold nameL
  rw [letters_span l h, if_pos h16]
theorem letters_pass {l : List UInt8} (hl : l ≠ []) (h : ∀ b ∈ l, isLetter b = true) (r : List UInt8) : passL false (l ++ r) = 0 := by
  cases l with
  | nil => exact absurd rfl hl
  | cons b l =>
    have hb := h b (by simp)
    simp only [isLetter, Bool.and_eq_true, decide_eq_true_eq] at hb
    have h1 : isBlank b = false := by
      simp only [isBlank, Bool.or_eq_false_iff, beq_eq_false_iff_ne]
      omega
    simp only [List.cons_append]
    rw [passL, if_neg (by simp [h1]), if_neg (by simp; omega)]
theorem words_one {l : List UInt8} (hl : l ≠ []) (h : ∀ b ∈ l, isLetter b = true) (h16 : l.length ≤ 16) : lexL l = .ok [⟨wk l, 0, l, 0⟩] := lexL_one (letters_short hl h h16) rfl
theorem semi_name : nameByte 59 = false := by decide
theorem words_two {l : List UInt8} (hl : l ≠ []) (h : ∀ b ∈ l, isLetter b = true) (h16 : l.length ≤ 16) : lexL (l ++ 59 :: l) = .ok [⟨wk l, 0, l, 0⟩, ⟨4, l.length, [59], 0⟩, ⟨wk l, l.length + 1, l, 0⟩] := by
  have hf := letters_short hl h h16
  have hf2 : firstL (l ++ 59 :: l) = some ⟨wk l, l.length, 0⟩ := (firstL_app semi_name l hl).trans hf
  have hp : passL false (59 :: l) = 0 := by simp [passL, isBlank]
  have hs : firstL (59 :: l) = some ⟨4, 1, 0⟩ := by simp [firstL, isLetter, isDigit, isSign, signs]
  have hpl : passL false l = 0 := by have := letters_pass hl h []; rwa [List.append_nil] at this
  unfold lexL
  rw [firstL_head hf2, List.drop_zero, lexFrom_some 0 hf2]
  simp only [List.drop_left, hp, List.drop_zero, Nat.zero_add, Nat.add_zero, List.take_left]
  rw [lexFrom_some _ hs]
  simp only [List.drop_succ_cons, List.drop_zero, hpl, Nat.add_zero, List.take_succ_cons, List.take_zero]
  rw [lexFrom_some _ hf]
  simp only [List.drop_length, passL, List.drop_nil, lexFrom_nil, List.take_length]
theorem long_one {l : List UInt8} (hl : l ≠ []) (h : ∀ b ∈ l, isLetter b = true) (h16 : 16 < l.length) : lexL l = .error 0 :=
  lexL_bad hl (by have := letters_pass hl h []; rwa [List.append_nil] at this) (letters_long hl h h16)
theorem long_two {l : List UInt8} (hl : l ≠ []) (h : ∀ b ∈ l, isLetter b = true) (h16 : 16 < l.length) : lexL (l ++ 59 :: l) = .error 0 :=
  lexL_bad (by simp) (letters_pass hl h _) ((firstL_app semi_name l hl).trans (letters_long hl h h16))
theorem isWord_len {l : List UInt8} (h : isWord l = true) : l.length ≤ 6 := by
  simp only [isWord, words, List.contains_iff_mem, List.mem_cons, List.mem_nil_iff, or_false] at h
  rcases h with h | h | h | h | h | h | h | h | h | h | h | h | h | h | h | h | h | h | h | h | h | h | h | h <;> (subst h; decide)
theorem name_short {l : List UInt8} (hl : l ≠ []) (h : ∀ b ∈ l, isLetter b = true) (h16 : l.length ≤ 16) : nameB l = !isWord l := by
  unfold nameB
  rw [letters_short hl h h16]
  simp only [List.take_length, beq_self_eq_true, Bool.and_true]
  unfold wk kOf
  cases isWord l <;> rfl
theorem name_long {l : List UInt8} (hl : l ≠ []) (h : ∀ b ∈ l, isLetter b = true) (h16 : 16 < l.length) : nameB l = false := by
  unfold nameB
  rw [letters_long hl h h16]
theorem semi_list (s : ByteArray) : (s ++ ⟨#[59]⟩ ++ s).data.toList = s.data.toList ++ 59 :: s.data.toList := by simp [ByteArray.data_append]

/-- The first k bytes are letters. -/
def Lets (s : ByteArray) (k : Nat) : Prop := ∀ b ∈ s.data.toList.take k, isLetter b = true
theorem Lets.next {s : ByteArray} {k : Nat} (h : Lets s k) (hk : k < s.size) (hb : isLetter (s[k]'hk) = true) : Lets s (k + 1) := by
  have h' : k < s.data.toList.length := by rw [← size_list]; exact hk
  intro b hm
  rw [List.take_succ_eq_append_getElem h', List.mem_append] at hm
  rcases hm with hm | hm
  · exact h b hm
  · rw [List.mem_singleton] at hm
    subst hm
    exact hb
theorem Lets.all {s : ByteArray} (h : Lets s s.size) : ∀ b ∈ s.data.toList, isLetter b = true := by
  intro b hm
  refine h b ?_
  rw [size_list, List.take_length]
  exact hm

theorem words_early (s : ByteArray) (h : 100 < s.size ∨ s.size = 0) (w : World) :
    Calls Try.prog 8 #[.string s] w fun e w' => e = .returned (.bool true) ∧ Below w.heap.size w w' := by
  have c9 := alive_any w
  by_cases h1 : 100 < s.size
  · clear h
    go_enter Try.func8, Try.ntmps8
    go_wp2_with (go_at_call 9; refine c9.mono ?_)
    rintro e w1 ⟨rfl, hb⟩
    have hb := hidIt hb
    clear c9
    go_wp2
    go_ret
    exact ⟨rfl, hb.out⟩
  · have h2 : ((s.size : Int) == 0) = true := by rw [beq_iff_eq]; omega
    have h3 : s.size ≤ 100 := by omega
    clear h h1
    go_enter Try.func8, Try.ntmps8
    go_wp2_with (go_at_call 9; refine c9.mono ?_)
    rintro e w1 ⟨rfl, hb⟩
    have hb := hidIt hb
    clear c9
    go_wp2
    go_ret
    exact ⟨rfl, hb.out⟩

set_option maxHeartbeats 4000000 in
theorem words_main (s : ByteArray) (h0 : 0 < s.size) (h1 : s.size ≤ 100) (w : World) :
    Calls Try.prog 8 #[.string s] w fun e w' => e = .returned (.bool true) ∧ Below w.heap.size w w' := by
  have c9 := alive_any w
  have hz : ((s.size : Int) == 0) = false := by rw [beq_eq_false_iff_ne]; omega
  have hst : Hid (Lets s 0) := hidIt fun b hm => by simp at hm
  go_enter Try.func8, Try.ntmps8
  go_wp2_with (go_at_call 9; refine c9.mono ?_)
  rintro e w1 ⟨rfl, hb⟩
  have hb := hidIt hb
  clear c9
  go_wp2
  go_loopw [3] (fun i wr => ∃ k : Nat, k ≤ s.size ∧ i = .int .i64 k ∧ wr = w1 ∧ Hid (Lets s k)) (fun i _ => s.size - (intOf i).toNat)
  case atStart => exact ⟨0, Nat.zero_le _, rfl, rfl, hst⟩
  case round =>
    clear hst
    obtain ⟨k, hk, rfl, rfl, HL⟩ := hrel
    by_cases hlt : k < s.size
    · by_cases hl : isLetter (s[k]'hlt) = true
      · have HL2 := hidIt (HL.out.next hlt hl)
        simp only [isLetter, Bool.and_eq_true, decide_eq_true_eq] at hl
        have g1 : (97 : Int) ≤ ((s[k]'hlt).toNat : Int) := by omega
        have g2 : ((s[k]'hlt).toNat : Int) ≤ 122 := by omega
        clear hl HL
        go_wp2
        go_roundw
        case rel => exact ⟨k + 1, by omega, by go_num, trivial, HL2⟩
        case measure => simp [intOf]; omega
      · have hl2 : ¬ (97 ≤ (s[k]'hlt).toNat ∧ (s[k]'hlt).toNat ≤ 122) := by simpa [isLetter] using hl
        by_cases g : ((s[k]'hlt).toNat : Int) < 97
        · clear hl hl2 HL
          go_wp2
          go_ret
          exact ⟨rfl, hb.out⟩
        · have g2 : (122 : Int) < ((s[k]'hlt).toNat : Int) := by omega
          have g1 : (97 : Int) ≤ ((s[k]'hlt).toNat : Int) := by omega
          clear hl hl2 HL g
          go_wp2
          go_ret
          exact ⟨rfl, hb.out⟩
    · obtain rfl : k = s.size := by omega
      have hall := HL.out.all
      have hne : s.data.toList ≠ [] := fun e => by rw [size_list, e] at h0; simp at h0
      have el := semi_list s
      clear HL hlt hk
      by_cases h16 : 16 < s.size
      · have hL16 : 16 < s.data.toList.length := by rw [← size_list]; exact h16
        have c1 : ∀ w, Calls Try.prog 10 #[.string s] w fun e w' => e = .returned (.tuple #[.slice none 0 0, .agg #[.int .i64 0, .int .i64 1]]) ∧ Below w.heap.size w w' := fun w => lex_err (by omega) (long_one hne hall hL16) w
        have c2 : ∀ w, Calls Try.prog 10 #[.string (s ++ ⟨#[59]⟩ ++ s)] w fun e w' => e = .returned (.tuple #[.slice none 0 0, .agg #[.int .i64 0, .int .i64 1]]) ∧ Below w.heap.size w w' := fun w => lex_err (by rw [size_list, el]; simp only [List.length_append, List.length_cons]; rw [← size_list]; omega) (by rw [el]; exact long_two hne hall hL16) w
        have c3 := isName_any s (by omega)
        rw [name_long hne hall hL16] at c3
        have c4 := word_any s
        have hw : isWord s.data.toList = false := by
          cases h : isWord s.data.toList with
          | false => rfl
          | true => have := isWord_len h; omega
        rw [hw] at c4
        clear hw hL16 hall hne el
        go_wp2_with (go_at_call 10; refine (c1 _).mono ?_)
        rintro e w2 ⟨rfl, b2⟩
        have b2 := hidIt b2
        clear c1
        go_wp2_with (go_at_call 10; refine (c2 _).mono ?_)
        rintro e w3 ⟨rfl, b3⟩
        have b3 := hidIt b3
        clear c2
        go_wp2_with (go_at_call 15; refine (c3 _).mono ?_)
        rintro e w4 ⟨rfl, b4⟩
        have q1 := heap_on (box_at b3.out) (below_box b4)
        have q2 := box_at b4
        have x0 := cell_at q1 0
        have x1 := cell_at q1 1
        have y0 := cell_at q2 0
        have y1 := cell_at q2 1
        simp only [List.getElem?_toArray, List.getElem?_cons_zero, List.getElem?_cons_succ] at x0 x1 y0 y1
        have BB := hidIt (below_next hb.out (below_next b2.out (below_next (below_box b3.out) (below_box b4))))
        clear q1 q2 b2 b3 b4 c3 hb
        go_wp2_with (go_at_call 13; refine (c4 _).mono ?_; rintro e w' ⟨rfl, rfl⟩)
        go_ret
        exact ⟨rfl, BB.out⟩
      · have h16' : s.size ≤ 16 := by omega
        have hL16 : s.data.toList.length ≤ 16 := by rw [← size_list]; exact h16'
        have c1 := fun w => lex_ok (s := s) (by omega) (words_one hne hall hL16) w
        have c2 := fun w => lex_ok (s := s ++ ⟨#[59]⟩ ++ s) (by rw [size_list, el]; simp only [List.length_append, List.length_cons]; omega) (by rw [el]; exact words_two hne hall hL16) w
        simp only [List.length_cons, List.length_nil, Nat.zero_add, Nat.reduceAdd] at c1 c2
        have c3 := isName_any s (by omega)
        rw [name_short hne hall hL16] at c3
        have c4 := word_any s
        have hK : Hid (wk s.data.toList = kOf (isWord s.data.toList)) := hidIt rfl
        have hsz : Hid (s.data.toList.length = s.size) := hidIt (size_list s).symm
        generalize wk s.data.toList = K at c1 c2 hK
        generalize isWord s.data.toList = b at c3 c4 hK
        clear hL16 hall hne el h16
        cases b with
        | false =>
          simp only [Bool.not_false] at c3
          go_wp2_with (go_at_call 10; refine (c1 _).mono ?_)
          rintro e w2 ⟨ao1, cap1, rfl, r2⟩
          have r2 := hidIt r2
          clear c1
          go_wp2_with (go_at_call 10; refine (c2 _).mono ?_)
          rintro e w3 ⟨ao2, cap2, rfl, r3⟩
          have r3 := hidIt r3
          clear c2
          go_wp2_with (first | (go_at_call 13; refine (c4 _).mono ?_; rintro e w' ⟨rfl, rfl⟩) | (go_at_call 15; refine (c3 _).mono ?_))
          rintro e w4 ⟨rfl, b4⟩
          have q1 := heap_on (box_at r3.out.bel) (below_box b4)
          have q2 := box_at b4
          have x0 := cell_at q1 0
          have x1 := cell_at q1 1
          have y0 := cell_at q2 0
          have y1 := cell_at q2 1
          simp only [List.getElem?_toArray, List.getElem?_cons_zero, List.getElem?_cons_succ] at x0 x1 y0 y1
          obtain ⟨g1, rfl, _, d0, d1, d2, d3⟩ := row_at ((r2.out.kept (below_box r3.out.bel)).kept (below_box b4)).row (k := 0) (by simp)
          obtain ⟨g2, rfl, _, e0, e1, _⟩ := row_at (r3.out.kept (below_box b4)).row (k := 2) (by simp)
          simp only [List.getElem_cons_zero, List.getElem_cons_succ, hK.out, kOf_false, hsz.out, Lib.mk_data, Nat.zero_mul, Nat.zero_add, Nat.reduceMul, Nat.reduceAdd] at d0 d1 d2 d3 e0 e1
          have BB := hidIt (below_next hb.out (below_next r2.out.bel (below_next (below_box r3.out.bel) (below_box b4))))
          clear q1 q2 r2 r3 b4 c3 hb hK hsz
          go_wp2
          go_ret
          exact ⟨rfl, BB.out⟩
        | true =>
          simp only [Bool.not_true] at c3
          go_wp2_with (go_at_call 10; refine (c1 _).mono ?_)
          rintro e w2 ⟨ao1, cap1, rfl, r2⟩
          have r2 := hidIt r2
          clear c1
          go_wp2_with (go_at_call 10; refine (c2 _).mono ?_)
          rintro e w3 ⟨ao2, cap2, rfl, r3⟩
          have r3 := hidIt r3
          clear c2
          go_wp2_with (first | (go_at_call 13; refine (c4 _).mono ?_; rintro e w' ⟨rfl, rfl⟩) | (go_at_call 15; refine (c3 _).mono ?_))
          rintro e w4 ⟨rfl, b4⟩
          have q1 := heap_on (box_at r3.out.bel) (below_box b4)
          have q2 := box_at b4
          have x0 := cell_at q1 0
          have x1 := cell_at q1 1
          have y0 := cell_at q2 0
          have y1 := cell_at q2 1
          simp only [List.getElem?_toArray, List.getElem?_cons_zero, List.getElem?_cons_succ] at x0 x1 y0 y1
          obtain ⟨g1, rfl, _, d0, d1, d2, d3⟩ := row_at ((r2.out.kept (below_box r3.out.bel)).kept (below_box b4)).row (k := 0) (by simp)
          obtain ⟨g2, rfl, _, e0, e1, _⟩ := row_at (r3.out.kept (below_box b4)).row (k := 2) (by simp)
          simp only [List.getElem_cons_zero, List.getElem_cons_succ, hK.out, kOf_true, hsz.out, Lib.mk_data, Nat.zero_mul, Nat.zero_add, Nat.reduceMul, Nat.reduceAdd] at d0 d1 d2 d3 e0 e1
          have BB := hidIt (below_next hb.out (below_next r2.out.bel (below_next (below_box r3.out.bel) (below_box b4))))
          clear q1 q2 r2 r3 b4 c3 hb hK hsz
          go_wp2
          go_ret
          exact ⟨rfl, BB.out⟩

theorem words_walk (s : ByteArray) (hs : s.size ≤ maxLen) (w : World) :
    Calls Try.prog 8 #[.string s] w fun e w' => e = .returned (.bool true) ∧ Below w.heap.size w w' := by
  by_cases h : 100 < s.size ∨ s.size = 0
  · exact words_early s h w
  · exact words_main s (by omega) (by omega) w
end Go.Proofs.Ytinppjjhjijoeaa
