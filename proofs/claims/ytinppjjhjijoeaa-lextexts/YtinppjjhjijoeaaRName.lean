/-
  The walks of the document's shaped, Name and number.
-/
import Derived.Test.YtinppjjhjijoeaaRByte
namespace Go.Proofs.Ytinppjjhjijoeaa
set_option linter.unusedVariables false
open Go.RowKit

/-- Has it a name's bytes, from place k on? -/
def okAt : Nat → List UInt8 → Bool
  | _, [] => true
  | k, b :: l => (isLetter b || (decide (k ≠ 0) && (isDigit b || b.toNat == 95))) && okAt (k + 1) l
theorem okAt_span : ∀ (l : List UInt8) (k : Nat), okAt (k + 1) l = decide (spanL nameByte l = l.length)
  | [], k => by simp [okAt, spanL]
  | b :: l, k => by
    have ih := okAt_span l (k + 1)
    have hle := spanL_le nameByte l
    have hb : (isLetter b || (decide (k + 1 ≠ 0) && (isDigit b || b.toNat == 95))) = nameByte b := by
      unfold nameByte
      cases isLetter b <;> cases isDigit b <;> simp
    rw [okAt, hb, ih]
    cases hn : nameByte b with
    | true => rw [spanL, if_pos hn, Bool.true_and]; exact decide_eq_decide.2 (by simp)
    | false => rw [spanL, if_neg (by simp [hn]), Bool.false_and]; simp
theorem name_ok (l : List UInt8) : nameB l = (okAt 0 l && decide (0 < l.length) && decide (l.length ≤ 16) && !isWord l) := by
  cases l with
  | nil => simp [nameB, firstL, okAt]
  | cons b l =>
    have hs := okAt_span l 0
    have hle := spanL_le nameByte l
    cases hb : isLetter b with
    | false =>
      have h0 : okAt 0 (b :: l) = false := by rw [okAt, hb]; simp
      rw [h0, Bool.false_and, Bool.false_and, Bool.false_and]
      simp only [nameB, firstL]
      rw [if_neg (by simp [hb])]
      split
      · rfl
      · rename_i x hx
        have hk : x.kind ≠ 1 := by
          split at hx
          · unfold numL at hx
            simp only at hx
            split at hx
            · cases hx
            · injection hx with hx; rw [← hx]; exact (by decide : (3 : Nat) ≠ 1)
          · split at hx
            · injection hx with hx; rw [← hx]; exact (by decide : (4 : Nat) ≠ 1)
            · cases hx
        have : (x.kind == 1) = false := by simpa using hk
        rw [this, Bool.false_and]
    | true =>
      have h0 : okAt 0 (b :: l) = decide (spanL nameByte l = l.length) := by rw [okAt, hb, Bool.true_or, Bool.true_and, hs]
      have hn : nameByte b = true := by simp [nameByte, hb]
      have hsp : spanL nameByte (b :: l) = spanL nameByte l + 1 := by rw [spanL, if_pos hn]
      rw [h0]
      simp only [nameB, firstL]
      rw [if_pos hb]
      unfold nameL
      rw [hsp]
      by_cases h16 : 16 < spanL nameByte l + 1
      · rw [if_pos h16]
        have : decide ((b :: l).length ≤ 16) = false := by simp only [List.length_cons, decide_eq_false_iff_not]; omega
        rw [this, Bool.and_false, Bool.false_and]
      · rw [if_neg h16]
        by_cases he : spanL nameByte l = l.length
        · have ht : (b :: l).take (spanL nameByte l + 1) = b :: l := by rw [he]; exact List.take_length (l := b :: l)
          have h1 : decide ((b :: l).length ≤ 16) = true := by simp only [List.length_cons, decide_eq_true_eq]; omega
          have h2 : decide (0 < (b :: l).length) = true := by simp
          rw [ht, h1, h2, decide_eq_true he]
          cases isWord (b :: l) <;> simp [ht]
        · have ht : ((b :: l).take (spanL nameByte l + 1) == b :: l) = false := by
            simp only [beq_eq_false_iff_ne]
            intro e
            have := congrArg List.length e
            rw [List.length_take, List.length_cons] at this
            omega
          rw [decide_eq_false he]
          cases isWord ((b :: l).take (spanL nameByte l + 1)) <;> simp only [Bool.false_eq_true, if_false, if_true, ht, Bool.and_false, Bool.false_and]

theorem okAt_yes {s : ByteArray} {k : Nat} {N : Bool} (h : k < s.size) (hb : isLetter (s[k]'h) = true ∨ (k ≠ 0 ∧ (isDigit (s[k]'h) = true ∨ (s[k]'h).toNat = 95))) (hN : N = okAt k (s.data.toList.drop k)) : N = okAt (k + 1) (s.data.toList.drop (k + 1)) := by
  rw [hN, drop_cons s k h, okAt]
  rcases hb with hb | ⟨h0, hb | hb⟩ <;> simp [*]
theorem okAt_no {s : ByteArray} {k : Nat} {N : Bool} (h : k < s.size) (hb : isLetter (s[k]'h) = false) (hc : k = 0 ∨ (isDigit (s[k]'h) = false ∧ (s[k]'h).toNat ≠ 95)) (hN : N = okAt k (s.data.toList.drop k)) : N = false := by
  rw [hN, drop_cons s k h, okAt, hb]
  rcases hc with hc | ⟨h1, h2⟩
  · simp [hc]
  · have : ((s[k]'h).toNat == 95) = false := by simpa using h2
    rw [h1, this]; simp
theorem okAt_end {s : ByteArray} {N : Bool} (hN : N = okAt s.size (s.data.toList.drop s.size)) : N = true := by
  rw [hN]
  have : s.data.toList.drop s.size = [] := by rw [size_list, List.drop_length]
  rw [this, okAt]

set_option maxHeartbeats 2000000 in
theorem rshaped_any (s : ByteArray) (hs : s.size ≤ 100000000) (w : World) :
    Calls Try.prog 27 #[.string s] w fun e w' => e = .returned (.bool (okAt 0 s.data.toList && decide (0 < s.data.toList.length))) ∧ w = w' := by
  have hst : Hid (okAt 0 s.data.toList = okAt 0 (s.data.toList.drop 0)) := hidIt rfl
  have hlen : s.data.toList.length = s.size := (size_list s).symm
  rw [hlen]
  clear hlen
  generalize okAt 0 s.data.toList = N at hst ⊢
  go_enter Try.func27, Try.ntmps27
  go_wp2
  go_loopw [3] (fun i wr => ∃ k : Nat, k ≤ s.size ∧ i = .int .i64 k ∧ wr = w ∧ Hid (N = okAt k (s.data.toList.drop k))) (fun i _ => s.size - (intOf i).toNat)
  case atStart => exact ⟨0, Nat.zero_le _, rfl, rfl, hst⟩
  case round =>
    clear hst
    obtain ⟨k, hk, rfl, rfl, hN⟩ := hrel
    by_cases hlt : k < s.size
    · have c1 := rletter_any (s[k]'hlt)
      have c2 := rdigit_any (s[k]'hlt)
      cases hb : isLetter (s[k]'hlt) with
      | true =>
        have hN2 := hidIt (okAt_yes hlt (.inl hb) hN.out)
        rw [hb] at c1
        clear hN hb c2
        go_wp2_with (go_at_call 21; refine (c1 _).mono ?_; rintro e w' ⟨rfl, rfl⟩)
        go_roundw
        case rel => exact ⟨k + 1, by omega, by go_num, trivial, hN2⟩
        case measure => simp [intOf]; omega
      | false =>
        rw [hb] at c1
        by_cases h0 : k = 0
        · have hN2 := hidIt (okAt_no hlt hb (.inl h0) hN.out)
          have hz : ((k : Int) == 0) = true := by simp; omega
          clear hN hb c2 h0
          go_wp2_with (go_at_call 21; refine (c1 _).mono ?_; rintro e w' ⟨rfl, rfl⟩)
          go_ret
          exact ⟨by rw [hN2.out]; simp, rfl⟩
        · have hz : ((k : Int) == 0) = false := by simp; omega
          cases hd : isDigit (s[k]'hlt) with
          | true =>
            have hN2 := hidIt (okAt_yes hlt (.inr ⟨h0, .inl hd⟩) hN.out)
            rw [hd] at c2
            clear hN hb hd h0
            go_wp2_with (first | (go_at_call 21; refine (c1 _).mono ?_; rintro e w' ⟨rfl, rfl⟩) | (go_at_call 22; refine (c2 _).mono ?_; rintro e w' ⟨rfl, rfl⟩))
            go_roundw
            case rel => exact ⟨k + 1, by omega, by go_num, trivial, hN2⟩
            case measure => simp [intOf]; omega
          | false =>
            rw [hd] at c2
            by_cases h95 : (s[k]'hlt).toNat = 95
            · have hN2 := hidIt (okAt_yes hlt (.inr ⟨h0, .inr h95⟩) hN.out)
              have hu : (((s[k]'hlt).toNat : Int) == 95) = true := by simp; omega
              clear hN hb hd h0 h95
              go_wp2_with (first | (go_at_call 21; refine (c1 _).mono ?_; rintro e w' ⟨rfl, rfl⟩) | (go_at_call 22; refine (c2 _).mono ?_; rintro e w' ⟨rfl, rfl⟩))
              go_roundw
              case rel => exact ⟨k + 1, by omega, by go_num, trivial, hN2⟩
              case measure => simp [intOf]; omega
            · have hN2 := hidIt (okAt_no hlt hb (.inr ⟨hd, h95⟩) hN.out)
              have hu : (((s[k]'hlt).toNat : Int) == 95) = false := by simp; omega
              clear hN hb hd h0 h95
              go_wp2_with (first | (go_at_call 21; refine (c1 _).mono ?_; rintro e w' ⟨rfl, rfl⟩) | (go_at_call 22; refine (c2 _).mono ?_; rintro e w' ⟨rfl, rfl⟩))
              go_ret
              exact ⟨by rw [hN2.out]; simp, rfl⟩
    · obtain rfl : k = s.size := by omega
      have hN2 := hidIt (okAt_end hN.out)
      clear hN
      go_wp2
      go_ret
      exact ⟨by rw [hN2.out, Bool.true_and]; rfl, rfl⟩

set_option maxHeartbeats 1000000 in
theorem rname_any (s : ByteArray) (hs : s.size ≤ 100000000) (w : World) :
    Calls Try.prog 16 #[.string s] w fun e w' => e = .returned (.bool (nameB s.data.toList)) ∧ Below w.heap.size w w' := by
  have c1 := rshaped_any s hs
  have c2 := rword_any s
  rw [name_ok]
  have hlen : decide (s.data.toList.length ≤ 16) = decide ((s.size : Int) ≤ 16) := by rw [← size_list]; exact decide_eq_decide.2 (by omega)
  rw [hlen]
  clear hlen
  generalize (okAt 0 s.data.toList && decide (0 < s.data.toList.length)) = x at c1 ⊢
  generalize isWord s.data.toList = y at c2 ⊢
  cases x
  · go_enter Try.func16, Try.ntmps16
    go_wp2_with (go_at_call 27; refine (c1 _).mono ?_; rintro e w' ⟨rfl, rfl⟩)
    go_ret
    exact ⟨by simp, Below.refl _ _⟩
  · by_cases h16 : (s.size : Int) ≤ 16
    · go_enter Try.func16, Try.ntmps16
      go_wp2_with (first | (go_at_call 27; refine (c1 _).mono ?_; rintro e w' ⟨rfl, rfl⟩) | (go_at_call 14; refine (c2 _).mono ?_; rintro e w' ⟨rfl, hb⟩; have hb := hidIt hb))
      go_ret
      exact ⟨by simp [h16], hb.out⟩
    · go_enter Try.func16, Try.ntmps16
      go_wp2_with (first | (go_at_call 27; refine (c1 _).mono ?_; rintro e w' ⟨rfl, rfl⟩) | (go_at_call 14; refine (c2 _).mono ?_; rintro e w' ⟨rfl, hb⟩; have hb := hidIt hb))
      go_ret
      exact ⟨by rw [decide_eq_false (by omega : ¬ (s.size : Int) ≤ 16)]; simp, Below.refl _ _⟩

/-- What number reckons: a - is passed over. -/
def numStep (n : Nat) (b : UInt8) : Nat := if b.toNat = 45 then n else valStep n b
def numR (l : List UInt8) : Nat := l.foldl numStep 0
theorem numStep_top (b : UInt8) : numStep 1099511627777 b = 1099511627777 := by unfold numStep valStep; split <;> omega
theorem fold_top : ∀ l : List UInt8, l.foldl numStep 1099511627777 = 1099511627777
  | [] => rfl
  | b :: l => by rw [List.foldl_cons, numStep_top, fold_top l]
theorem numR_top {l : List UInt8} {k : Nat} (h : numR (l.take k) = 1099511627777) : numR l = 1099511627777 := by
  have e : l = l.take k ++ l.drop k := (List.take_append_drop k l).symm
  rw [e]
  unfold numR at h ⊢
  rw [List.foldl_append, h, fold_top]
theorem numR_take (s : ByteArray) (k : Nat) (h : k < s.size) : numR (s.data.toList.take (k + 1)) = numStep (numR (s.data.toList.take k)) (s[k]'h) := by
  have h' : k < s.data.toList.length := by rw [← size_list]; exact h
  unfold numR
  rw [List.take_succ_eq_append_getElem h', List.foldl_append]
  rfl
theorem numR_digits : ∀ (l : List UInt8) (n : Nat), (∀ b ∈ l, isDigit b = true) → l.foldl numStep n = l.foldl valStep n
  | [], n, _ => rfl
  | b :: l, n, h => by
    have hb := h b (by simp)
    have : b.toNat ≠ 45 := by simp only [isDigit, Bool.and_eq_true, decide_eq_true_eq] at hb; omega
    rw [List.foldl_cons, List.foldl_cons, numStep, if_neg this]
    exact numR_digits l _ fun c hc => h c (by simp [hc])

def numA (V : Nat) (neg : Bool) : Value := .tuple #[.int .i64 (if 1099511627776 < V then 0 else if neg then -(V : Int) else V), .bool (decide (V ≤ 1099511627776))]

set_option maxHeartbeats 2000000 in
theorem rnumber_any (s : ByteArray) (hs : s.size ≤ 100000000) (h0 : 0 < s.size) (hd : ∀ k (h : k < s.size), isDigit (s[k]'h) = true ∨ (s[k]'h).toNat = 45) (w : World) :
    Calls Try.prog 23 #[.string s] w fun e w' => e = .returned (numA (numR s.data.toList) (decide ((s[0]'h0).toNat = 45))) ∧ w = w' := by
  have hst : Hid (numR (s.data.toList.take 0) = 0) := hidIt rfl
  have hen : Hid (numR (s.data.toList.take s.size) = numR s.data.toList) := hidIt (by rw [size_list, List.take_length])
  have htop : Hid (∀ k, numR (s.data.toList.take k) = 1099511627777 → numR s.data.toList = 1099511627777) := hidIt fun k h => numR_top h
  have hd := hidIt hd
  obtain ⟨neg, hneg⟩ : ∃ neg, decide ((s[0]'h0).toNat = 45) = neg := ⟨_, rfl⟩
  rw [hneg]
  have hneg := hidIt hneg
  generalize numR s.data.toList = N at hen htop ⊢
  go_enter Try.func23, Try.ntmps23
  go_wp2
  go_loopw [4, 5] (fun n i wr => ∃ k m : Nat, k ≤ s.size ∧ m ≤ 1099511627776 ∧ i = .int .i64 k ∧ n = .int .i64 m ∧ wr = w ∧ Hid (numR (s.data.toList.take k) = m)) (fun _ i _ => s.size - (intOf i).toNat)
  case atStart => exact ⟨0, 0, Nat.zero_le _, by omega, rfl, rfl, rfl, hst⟩
  case round =>
    clear hst
    obtain ⟨k, m, hk, hm, rfl, rfl, rfl, hN⟩ := hrel
    by_cases hlt : k < s.size
    · have hN3 := hidIt ((numR_take s k hlt).trans (congrArg (fun m => numStep m (s[k]'hlt)) hN.out))
      by_cases h45 : (s[k]'hlt).toNat = 45
      · have hb : (((s[k]'hlt).toNat : Int) == 45) = true := by simp; omega
        have hN4 : Hid (numR (s.data.toList.take (k + 1)) = m) := hidIt (by rw [hN3.out]; unfold numStep; rw [if_pos h45])
        clear hen hd hN hN3 htop h45
        go_wp2
        go_roundw
        case rel => exact ⟨k + 1, m, by omega, hm, by go_num, rfl, trivial, hN4⟩
        case measure => simp [intOf]; omega
      · have hb : (((s[k]'hlt).toNat : Int) == 45) = false := by simp; omega
        have hdig := (hd.out k hlt).resolve_right h45
        have he : Hid (((s[k]'hlt).toNat : Int) - 48 = ((s[k]'hlt).toNat - 48 : Nat)) := hidIt (by simp only [isDigit, Bool.and_eq_true, decide_eq_true_eq] at hdig; omega)
        have hdd : 48 ≤ (s[k]'hlt).toNat ∧ (s[k]'hlt).toNat ≤ 57 := by simpa only [isDigit, Bool.and_eq_true, decide_eq_true_eq] using hdig
        obtain ⟨hd1, hd2⟩ := hdd
        by_cases hbig : 1099511627776 < (m : Int) * 10 + (((s[k]'hlt).toNat : Int) - 48)
        · have hN4 : Hid (N = 1099511627777) := hidIt (htop.out (k + 1) (by rw [hN3.out]; unfold numStep valStep; rw [if_neg h45]; omega))
          clear hen hd hN hN3 htop h45 hdig he
          go_wp2
          (try simp only [Exit.inBlock, Exit.then])
          refine bodyPost_ret (by simp [results, Try.results23, go_sem]; try rfl) rfl ?_
          exact ⟨by rw [hN4.out]; rfl, rfl⟩
        · have hN4 : Hid (numR (s.data.toList.take (k + 1)) = m * 10 + ((s[k]'hlt).toNat - 48)) := hidIt (by rw [hN3.out]; unfold numStep valStep; rw [if_neg h45]; omega)
          clear hen hd hN hN3 htop h45 hdig
          have hbig2 : (m : Int) * 10 + (((s[k]'hlt).toNat : Int) - 48) ≤ 1099511627776 := by omega
          clear hbig
          go_wp2
          go_roundw
          case rel => exact ⟨k + 1, m * 10 + ((s[k]'hlt).toNat - 48), by omega, by omega, by go_num, by have := he.out; rw [Value.int.injEq]; refine ⟨rfl, ?_⟩; omega, trivial, hN4⟩
          case measure => simp [intOf]; omega
    · obtain rfl : k = s.size := by omega
      have hN2 := hidIt (hN.out.symm.trans hen.out)
      have hle : ¬ 1099511627776 < N := by have := hN2.out; omega
      clear hN hen hd htop
      by_cases h45 : (s[0]'h0).toNat = 45
      · have hb : (((s[0]'h0).toNat : Int) == 45) = true := by simp; omega
        obtain rfl : neg = true := by rw [← hneg.out, decide_eq_true h45]
        clear h45
        go_wp2
        (try simp only [Exit.inBlock, Exit.then])
        refine bodyPost_ret (by simp [results, Try.results23, go_sem]; try rfl) rfl ?_
        exact ⟨by unfold numA; rw [if_neg hle, decide_eq_true (by omega), ← hN2.out]; rfl, rfl⟩
      · have hb : (((s[0]'h0).toNat : Int) == 45) = false := by simp; omega
        obtain rfl : neg = false := by rw [← hneg.out, decide_eq_false h45]
        clear h45
        go_wp2
        (try simp only [Exit.inBlock, Exit.then])
        refine bodyPost_ret (by simp [results, Try.results23, go_sem]; try rfl) rfl ?_
        exact ⟨by unfold numA; rw [if_neg hle, decide_eq_true (by omega), ← hN2.out]; rfl, rfl⟩
end Go.Proofs.Ytinppjjhjijoeaa
