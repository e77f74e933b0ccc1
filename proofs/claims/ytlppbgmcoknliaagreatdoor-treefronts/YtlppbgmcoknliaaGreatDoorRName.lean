/-
  The walks of the document's shaped, Name and number.
-/
import Derived.Test.YtlppbgmcoknliaaGreatDoorRByte
namespace Go.Proofs.YtlppbgmcoknliaaGreatDoor
set_option linter.unusedVariables false
open Go.RowKit

/-- Has it a name's bytes, from place k on? -/
def okAt : Nat → List UInt8 → Bool
  | _, [] => true
  | k, b :: l => (isLetter b || (decide (k ≠ 0) && (isDigit b || b.toNat == 95))) && okAt (k + 1) l
theorem okAt_span : ∀ (l : List UInt8) (k : Nat), okAt (k + 1) l = decide (spanL nameByte l = l.length)
  | [], k => by simp [okAt, spanL]
  | b :: l, k => by
    have ih := okAt_span l (k + 1)
    have hle := spanL_le nameByte l
    have hb : (isLetter b || (decide (k + 1 ≠ 0) && (isDigit b || b.toNat == 95))) = nameByte b := by
      unfold nameByte
      cases isLetter b <;> cases isDigit b <;> simp
    rw [okAt, hb, ih]
    cases hn : nameByte b with
    | true => rw [spanL, if_pos hn, Bool.true_and]; exact decide_eq_decide.2 (by simp)
    | false => rw [spanL, if_neg (by simp [hn]), Bool.false_and]; simp
theorem name_ok (l : List UInt8) : nameB l = (okAt 0 l && decide (0 < l.length) && decide (l.length ≤ 16) && !isWord l) := by
  cases l with
  | nil => simp [nameB, firstL, okAt]
  | cons b l =>
    have hs := okAt_span l 0
    have hle := spanL_le nameByte l
    cases hb : isLetter b with
    | false =>
      have h0 : okAt 0 (b :: l) = false := by rw [okAt, hb]; simp
      rw [h0, Bool.false_and, Bool.false_and, Bool.false_and]
      simp only [nameB, firstL]
      rw [if_neg (by simp [hb])]
      split
      · rfl
      · rename_i x hx
        have hk : x.kind ≠ 1 := by
          split at hx
          · unfold numL at hx
            simp only at hx
            split at hx
            · cases hx
            · injection hx with hx; rw [← hx]; exact (by decide : (3 : Nat) ≠ 1)
          · split at hx
            · injection hx with hx; rw [← hx]; exact (by decide : (4 : Nat) ≠ 1)
            · cases hx
        have : (x.kind == 1) = false := by simpa using hk
        rw [this, Bool.false_and]
    | true =>
      have h0 : okAt 0 (b :: l) = decide (spanL nameByte l = l.length) := by rw [okAt, hb, Bool.true_or, Bool.true_and, hs]
      have hn : nameByte b = true := by simp [nameByte, hb]
      have hsp : spanL nameByte (b :: l) = spanL nameByte l + 1 := by rw [spanL, if_pos hn]
      rw [h0]
      simp only [nameB, firstL]
      rw [if_pos hb]
      unfold nameL
      rw [hsp]
      by_cases h16 : 16 < spanL nameByte l + 1
      · rw [if_pos h16]
        have : decide ((b :: l).length ≤ 16) = false := by simp only [List.length_cons, decide_eq_false_iff_not]; omega
        rw [this, Bool.and_false, Bool.false_and]
      · rw [if_neg h16]
        by_cases he : spanL nameByte l = l.length
        · have ht : (b :: l).take (spanL nameByte l + 1) = b :: l := by rw [he]; exact List.take_length (l := b :: l)
          have h1 : decide ((b :: l).length ≤ 16) = true := by simp only [List.length_cons, decide_eq_true_eq]; omega
          have h2 : decide (0 < (b :: l).length) = true := by simp
          rw [ht, h1, h2, decide_eq_true he]
          cases isWord (b :: l) <;> simp [ht]
        · have ht : ((b :: l).take (spanL nameByte l + 1) == b :: l) = false := by
            simp only [beq_eq_false_iff_ne]
            intro e
            have := congrArg List.length e
            rw [List.length_take, List.length_cons] at this
            omega
          rw [decide_eq_false he]
          cases isWord ((b :: l).take (spanL nameByte l + 1)) <;> simp only [Bool.false_eq_true, if_false, if_true, ht, Bool.and_false, Bool.false_and]

theorem okAt_yes {s : ByteArray} {k : Nat} {N : Bool} (h : k < s.size) (hb : isLetter (s[k]'h) = true ∨ (k ≠ 0 ∧ (isDigit (s[k]'h) = true ∨ (s[k]'h).toNat = 95))) (hN : N = okAt k (s.data.toList.drop k)) : N = okAt (k + 1) (s.data.toList.drop (k + 1)) := by
  rw [hN, drop_cons s k h, okAt]
  rcases hb with hb | ⟨h0, hb | hb⟩ <;> simp [*]
theorem okAt_no {s : ByteArray} {k : Nat} {N : Bool} (h : k < s.size) (hb : isLetter (s[k]'h) = false) (hc : k = 0 ∨ (isDigit (s[k]'h) = false ∧ (s[k]'h).toNat ≠ 95)) (hN : N = okAt k (s.data.toList.drop k)) : N = false := by
  rw [hN, drop_cons s k h, okAt, hb]
  rcases hc with hc | ⟨h1, h2⟩
  · simp [hc]
  · have : ((s[k]'h).toNat == 95) = false := by simpa using h2
    rw [h1, this]; simp
theorem okAt_end {s : ByteArray} {N : Bool} (hN : N = okAt s.size (s.data.toList.drop s.size)) : N = true := by
  rw [hN]
  have : s.data.toList.drop s.size = [] := by rw [size_list, List.drop_length]
  rw [this, okAt]

set_option maxHeartbeats 2000000 in
theorem rshaped_any (s : ByteArray) (hs : s.size ≤ 100000000) (w : World) :
    Calls Tryz.prog 88 #[.string s] w fun e w' => e = .returned (.bool (okAt 0 s.data.toList && decide (0 < s.data.toList.length))) ∧ w = w' := by
  have hst : Hid (okAt 0 s.data.toList = okAt 0 (s.data.toList.drop 0)) := hidIt rfl
  have hlen : s.data.toList.length = s.size := (size_list s).symm
  rw [hlen]
  clear hlen
  generalize okAt 0 s.data.toList = N at hst ⊢
  go_enter Tryz.func88, Tryz.ntmps88
  go_wp2
  go_loopw [3] (fun i wr => ∃ k : Nat, k ≤ s.size ∧ i = .int .i64 k ∧ wr = w ∧ Hid (N = okAt k (s.data.toList.drop k))) (fun i _ => s.size - (intOf i).toNat)
  case atStart => exact ⟨0, Nat.zero_le _, rfl, rfl, hst⟩
  case round =>
    clear hst
    obtain ⟨k, hk, rfl, rfl, hN⟩ := hrel
    by_cases hlt : k < s.size
    · have c1 := rletter_any (s[k]'hlt)
      have c2 := rdigit_any (s[k]'hlt)
      cases hb : isLetter (s[k]'hlt) with
      | true =>
        have hN2 := hidIt (okAt_yes hlt (.inl hb) hN.out)
        rw [hb] at c1
        clear hN hb c2
        go_wp2_with (go_at_call 124; refine (c1 _).mono ?_; rintro e w' ⟨rfl, rfl⟩)
        go_roundw
        case rel => exact ⟨k + 1, by omega, by go_num, trivial, hN2⟩
        case measure => simp [intOf]; omega
      | false =>
        rw [hb] at c1
        by_cases h0 : k = 0
        · have hN2 := hidIt (okAt_no hlt hb (.inl h0) hN.out)
          have hz : ((k : Int) == 0) = true := by simp; omega
          clear hN hb c2 h0
          go_wp2_with (go_at_call 124; refine (c1 _).mono ?_; rintro e w' ⟨rfl, rfl⟩)
          go_ret
          exact ⟨by rw [hN2.out]; simp, rfl⟩
        · have hz : ((k : Int) == 0) = false := by simp; omega
          cases hd : isDigit (s[k]'hlt) with
          | true =>
            have hN2 := hidIt (okAt_yes hlt (.inr ⟨h0, .inl hd⟩) hN.out)
            rw [hd] at c2
            clear hN hb hd h0
            go_wp2_with (first | (go_at_call 124; refine (c1 _).mono ?_; rintro e w' ⟨rfl, rfl⟩) | (go_at_call 125; refine (c2 _).mono ?_; rintro e w' ⟨rfl, rfl⟩))
            go_roundw
            case rel => exact ⟨k + 1, by omega, by go_num, trivial, hN2⟩
            case measure => simp [intOf]; omega
          | false =>
            rw [hd] at c2
            by_cases h95 : (s[k]'hlt).toNat = 95
            · have hN2 := hidIt (okAt_yes hlt (.inr ⟨h0, .inr h95⟩) hN.out)
              have hu : (((s[k]'hlt).toNat : Int) == 95) = true := by simp; omega
              clear hN hb hd h0 h95
              go_wp2_with (first | (go_at_call 124; refine (c1 _).mono ?_; rintro e w' ⟨rfl, rfl⟩) | (go_at_call 125; refine (c2 _).mono ?_; rintro e w' ⟨rfl, rfl⟩))
              go_roundw
              case rel => exact ⟨k + 1, by omega, by go_num, trivial, hN2⟩
              case measure => simp [intOf]; omega
            · have hN2 := hidIt (okAt_no hlt hb (.inr ⟨hd, h95⟩) hN.out)
              have hu : (((s[k]'hlt).toNat : Int) == 95) = false := by simp; omega
              clear hN hb hd h0 h95
              go_wp2_with (first | (go_at_call 124; refine (c1 _).mono ?_; rintro e w' ⟨rfl, rfl⟩) | (go_at_call 125; refine (c2 _).mono ?_; rintro e w' ⟨rfl, rfl⟩))
              go_ret
              exact ⟨by rw [hN2.out]; simp, rfl⟩
    · obtain rfl : k = s.size := by omega
      have hN2 := hidIt (okAt_end hN.out)
      clear hN
      go_wp2
      go_ret
      exact ⟨by rw [hN2.out, Bool.true_and]; rfl, rfl⟩

set_option maxHeartbeats 1000000 in
theorem rname_any (s : ByteArray) (hs : s.size ≤ 100000000) (w : World) :
    Calls Tryz.prog 44 #[.string s] w fun e w' => e = .returned (.bool (nameB s.data.toList)) ∧ Below w.heap.size w w' := by
  have c1 := rshaped_any s hs
  have c2 := rword_any s
  rw [name_ok]
  have hlen : decide (s.data.toList.length ≤ 16) = decide ((s.size : Int) ≤ 16) := by rw [← size_list]; exact decide_eq_decide.2 (by omega)
  rw [hlen]
  clear hlen
  generalize (okAt 0 s.data.toList && decide (0 < s.data.toList.length)) = x at c1 ⊢
  generalize isWord s.data.toList = y at c2 ⊢
  cases x
  · go_enter Tryz.func44, Tryz.ntmps44
    go_wp2_with (go_at_call 88; refine (c1 _).mono ?_; rintro e w' ⟨rfl, rfl⟩)
    go_ret
    exact ⟨by simp, Below.refl _ _⟩
  · by_cases h16 : (s.size : Int) ≤ 16
    · go_enter Tryz.func44, Tryz.ntmps44
      go_wp2_with (first | (go_at_call 88; refine (c1 _).mono ?_; rintro e w' ⟨rfl, rfl⟩) | (go_at_call 89; refine (c2 _).mono ?_; rintro e w' ⟨rfl, hb⟩; have hb := hidIt hb))
      go_ret
      exact ⟨by simp [h16], hb.out⟩
    · go_enter Tryz.func44, Tryz.ntmps44
      go_wp2_with (first | (go_at_call 88; refine (c1 _).mono ?_; rintro e w' ⟨rfl, rfl⟩) | (go_at_call 89; refine (c2 _).mono ?_; rintro e w' ⟨rfl, hb⟩; have hb := hidIt hb))
      go_ret
      exact ⟨by rw [decide_eq_false (by omega : ¬ (s.size : Int) ≤ 16)]; simp, Below.refl _ _⟩

end Go.Proofs.YtlppbgmcoknliaaGreatDoor
