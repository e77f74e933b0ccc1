/-
  The walks of the document's letter, digit, sign, Words, Find and Word.
  The walks of the document's shaped, Name and number.
  Types, as pure functions on lists of bytes. No walk here.
  The walks of front, unbox, leaf, split, answer.
  The walks of split, and of what is asked of it: Kind, Elem, Base, Deep, Plain, wrap, Box, Ref, Mut.
-/
import Derived.Test.YtlppbgmcoknliaaGreatDoorTok
import Derived.Laws.OwnMore
namespace Go.Proofs.YtlppbgmcoknliaaGreatDoor
set_option linter.unusedVariables false
open Go.RowKit

set_option maxHeartbeats 400000 in
theorem rletter_any (b : UInt8) (w : World) :
 Calls Tryz.prog 124 #[.int .u8 (b.toNat : Int)] w fun e w' => e = .returned (.bool (isLetter b)) ∧ w = w' := by
 have hl : isLetter b = (decide ((97 : Int) ≤ (b.toNat : Int)) && decide ((b.toNat : Int) ≤ 122)) := by
  unfold isLetter
  rw [decide_eq_decide.2 (show (97 ≤ b.toNat) ↔ ((97 : Int) ≤ (b.toNat : Int)) by omega), decide_eq_decide.2 (show (b.toNat ≤ 122) ↔ ((b.toNat : Int) ≤ 122) by omega)]
 generalize b.toNat = n at hl ⊢
 rw [hl]
 clear hl
 by_cases h1 : (97 : Int) ≤ (n : Int)
 · go_enter Tryz.func124, Tryz.ntmps124
   go_wp2
   go_ret
   exact ⟨by simp [h1], rfl⟩
 · go_enter Tryz.func124, Tryz.ntmps124
   go_wp2
   go_ret
   exact ⟨by simp; omega, rfl⟩

set_option maxHeartbeats 400000 in
theorem rdigit_any (b : UInt8) (w : World) :
 Calls Tryz.prog 125 #[.int .u8 (b.toNat : Int)] w fun e w' => e = .returned (.bool (isDigit b)) ∧ w = w' := by
 have hl : isDigit b = (decide ((48 : Int) ≤ (b.toNat : Int)) && decide ((b.toNat : Int) ≤ 57)) := by
  unfold isDigit
  rw [decide_eq_decide.2 (show (48 ≤ b.toNat) ↔ ((48 : Int) ≤ (b.toNat : Int)) by omega), decide_eq_decide.2 (show (b.toNat ≤ 57) ↔ ((b.toNat : Int) ≤ 57) by omega)]
 generalize b.toNat = n at hl ⊢
 rw [hl]
 clear hl
 by_cases h1 : (48 : Int) ≤ (n : Int)
 · go_enter Tryz.func125, Tryz.ntmps125
   go_wp2
   go_ret
   exact ⟨by simp [h1], rfl⟩
 · go_enter Tryz.func125, Tryz.ntmps125
   go_wp2
   go_ret
   exact ⟨by simp; omega, rfl⟩

/-- A text's place in a list, from k on; -1: there is none. -/
def findI (s : List UInt8) : List ByteArray → Nat → Int
 | [], _ => -1
 | x :: l, k => if x.data.toList = s then k else findI s l (k + 1)
theorem findI_in (s : List UInt8) : ∀ (l : List ByteArray) (k : Nat), decide (0 ≤ findI s l k) = (l.map (·.data.toList)).contains s
 | [], k => by simp [findI]
 | x :: l, k => by
  have ih := findI_in s l (k + 1)
  unfold findI
  rw [List.map_cons, List.contains_cons]
  by_cases h : x.data.toList = s
  · rw [if_pos h]; simp [h]
  · rw [if_neg h, ih]
    have : (s == x.data.toList) = false := by simp; exact fun e => h e.symm
    rw [this, Bool.false_or]
theorem findI_no {xs : List ByteArray} {s : List UInt8} {k : Nat} {N : Int} (h : k < xs.length) (hx : ¬ xs[k].data.toList = s) (hN : N = findI s (xs.drop k) k) : N = findI s (xs.drop (k + 1)) (k + 1) := by
 rw [hN, List.drop_eq_getElem_cons h, findI, if_neg hx]
theorem findI_yes {xs : List ByteArray} {s : List UInt8} {k : Nat} {N : Int} (h : k < xs.length) (hx : xs[k].data.toList = s) (hN : N = findI s (xs.drop k) k) : N = k := by
 rw [hN, List.drop_eq_getElem_cons h, findI, if_pos hx]
theorem findI_end {xs : List ByteArray} {s : List UInt8} {N : Int} (hN : N = findI s (xs.drop xs.length) xs.length) : N = -1 := by
 rw [hN, List.drop_length, findI]

theorem strs_at {w : World} {B : Nat} {ao : Option Addr} {cap : Nat} {xs : List ByteArray} (h : w.ownsRow B 9 1 (.slice ao xs.length cap) xs.length (xs.map .string)) {k : Nat} (hk : k < xs.length) :
 ∃ g, ao = some ⟨g, 0, none⟩ ∧ w.cell? ⟨g, k, none⟩ = some (.string xs[k]) := by
 rcases h.2 with ⟨_, h0⟩ | ⟨g, cap', cur, hv, hB, hg, hle, _, hsz, htk⟩
 · omega
 · injection hv with h1 h2 h3
   subst h1 h3
   exact ⟨g, rfl, (h.cellAt k (by omega)).trans (by rw [List.getElem?_map, List.getElem?_eq_getElem hk]; rfl)⟩

set_option maxHeartbeats 1000000 in
theorem rfind_any (xs : List ByteArray) (s : ByteArray) (ao : Option Addr) (cap B : Nat) (w : World) (h : w.ownsRow B 9 1 (.slice ao xs.length cap) xs.length (xs.map .string)) (hc : xs.length ≤ 1000000) :
 Calls Tryz.prog 126 #[.slice ao xs.length cap, .string s] w fun e w' => e = .returned (.int .i64 (findI s.data.toList xs 0)) ∧ w = w' := by
 have H := hidIt h
 have hst : Hid (findI s.data.toList xs 0 = findI s.data.toList (xs.drop 0) 0) := hidIt rfl
 clear h
 generalize findI s.data.toList xs 0 = N at hst ⊢
 go_enter Tryz.func126, Tryz.ntmps126
 go_wp2
 go_loopw [5] (fun i wr => ∃ k : Nat, k ≤ xs.length ∧ i = .int .i64 k ∧ wr = w ∧ Hid (N = findI s.data.toList (xs.drop k) k)) (fun i _ => xs.length - (intOf i).toNat)
 case atStart => exact ⟨0, Nat.zero_le _, rfl, rfl, hst⟩
 case round =>
  clear hst
  obtain ⟨k, hk, rfl, rfl, hN⟩ := hrel
  by_cases hlt : k < xs.length
  · obtain ⟨g, rfl, c0⟩ := strs_at H.out hlt
    have ht : xs[k].toList = xs[k].data.toList := ByteArray.toList_eq _
    have ht2 : s.toList = s.data.toList := ByteArray.toList_eq _
    by_cases hb : xs[k].data.toList = s.data.toList
    · have hN2 := hidIt (findI_yes hlt hb hN.out)
      have hbb : (xs[k].toList == s.toList) = true := by rw [ht, ht2, hb]; simp
      generalize xs[k] = T at c0 hbb
      clear hN hb ht ht2
      go_wp2
      go_ret
      exact ⟨by rw [hN2.out]; rfl, rfl⟩
    · have hN2 := hidIt (findI_no hlt hb hN.out)
      have hbb : (xs[k].toList == s.toList) = false := by rw [ht, ht2]; simpa using hb
      generalize xs[k] = T at c0 hbb
      clear hN hb ht ht2
      go_wp2
      go_roundw
      case rel => exact ⟨k + 1, by omega, by go_num, trivial, hN2⟩
      case measure => simp [intOf]; omega
  · obtain rfl : k = xs.length := by omega
    have hN2 := hidIt (findI_end hN.out)
    clear hN
    go_wp2
    go_ret
    exact ⟨by rw [hN2.out]; rfl, rfl⟩

def wordsB : List ByteArray := words.map fun l => ⟨l.toArray⟩
theorem wordsB_list : wordsB.map (·.data.toList) = words := by
 unfold wordsB
 rw [List.map_map]
 exact (List.map_congr_left fun l _ => rfl).trans (List.map_id _)
theorem words_len : wordsB.length = 24 := rfl

set_option maxHeartbeats 1000000 in
theorem rwords_any (w : World) :
 Calls Tryz.prog 127 #[] w fun e w' => e = .returned (.slice (some ⟨w.heap.size, 0, none⟩) 24 24) ∧ w'.ownsRow w.heap.size 9 1 (.slice (some ⟨w.heap.size, 0, none⟩) 24 24) 24 (wordsB.map .string) ∧ Below w.heap.size w w' := by
 have hq := hidIt (World.ownsRow_lit (base := w.heap.size) (e := 9) (size := 1) w (wordsB.map Value.string).toArray 24 (Nat.le_refl _) (by decide) (by simp [words_len]))
 go_enter Tryz.func127, Tryz.ntmps127
 go_wp2
 go_ret
 exact ⟨rfl, hq.out, below_new w _⟩

set_option maxHeartbeats 1000000 in
theorem rword_any (s : ByteArray) (w : World) :
 Calls Tryz.prog 89 #[.string s] w fun e w' => e = .returned (.bool (isWord s.data.toList)) ∧ Below w.heap.size w w' := by
 have c1 := fun w => rwords_any w
 have hw : isWord s.data.toList = decide (0 ≤ findI s.data.toList wordsB 0) := by
  rw [findI_in, wordsB_list]; rfl
 rw [hw]
 clear hw
 have c2 := hidIt fun (B g : Nat) (w : World) (h : w.ownsRow B 9 1 (.slice (some ⟨g, 0, none⟩) 24 24) 24 (wordsB.map .string)) => rfind_any wordsB s (some ⟨g, 0, none⟩) 24 B w h (by decide)
 generalize findI s.data.toList wordsB 0 = N at c2 ⊢
 go_enter Tryz.func89, Tryz.ntmps89
 go_wp2_with (go_at_call 127; refine (c1 _).mono ?_)
 rintro e w1 ⟨rfl, ho, hb⟩
 have c3 := c2.out _ _ _ ho
 have hb := hidIt hb
 clear c1 c2 ho
 rw [words_len] at c3
 go_wp2_with (go_at_call 126; refine c3.mono ?_; rintro e w' ⟨rfl, rfl⟩)
 go_ret
 exact ⟨rfl, hb.out⟩
end Go.Proofs.YtlppbgmcoknliaaGreatDoor
namespace Go.Proofs.YtlppbgmcoknliaaGreatDoor
set_option linter.unusedVariables false
open Go.RowKit

/-- Has it a name's bytes, from place k on? -/
def okAt : Nat → List UInt8 → Bool
 | _, [] => true
 | k, b :: l => (isLetter b || (decide (k ≠ 0) && (isDigit b || b.toNat == 95))) && okAt (k + 1) l
theorem okAt_span : ∀ (l : List UInt8) (k : Nat), okAt (k + 1) l = decide (spanL nameByte l = l.length)
 | [], k => by simp [okAt, spanL]
 | b :: l, k => by
  have ih := okAt_span l (k + 1)
  have hle := spanL_le nameByte l
  have hb : (isLetter b || (decide (k + 1 ≠ 0) && (isDigit b || b.toNat == 95))) = nameByte b := by
   unfold nameByte
   cases isLetter b <;> cases isDigit b <;> simp
  rw [okAt, hb, ih]
  cases hn : nameByte b with
  | true => rw [spanL, if_pos hn, Bool.true_and]; exact decide_eq_decide.2 (by simp)
  | false => rw [spanL, if_neg (by simp [hn]), Bool.false_and]; simp
theorem name_ok (l : List UInt8) : nameB l = (okAt 0 l && decide (0 < l.length) && decide (l.length ≤ 16) && !isWord l) := by
 cases l with
 | nil => simp [nameB, firstL, okAt]
 | cons b l =>
  have hs := okAt_span l 0
  have hle := spanL_le nameByte l
  cases hb : isLetter b with
  | false =>
   have h0 : okAt 0 (b :: l) = false := by rw [okAt, hb]; simp
   rw [h0, Bool.false_and, Bool.false_and, Bool.false_and]
   simp only [nameB, firstL]
   rw [if_neg (by simp [hb])]
   split
   · rfl
   · rename_i x hx
     have hk : x.kind ≠ 1 := by
      split at hx
      · unfold numL at hx
        simp only at hx
        split at hx
        · cases hx
        · injection hx with hx; rw [← hx]; exact (by decide : (3 : Nat) ≠ 1)
      · split at hx
        · injection hx with hx; rw [← hx]; exact (by decide : (4 : Nat) ≠ 1)
        · cases hx
     have : (x.kind == 1) = false := by simpa using hk
     rw [this, Bool.false_and]
  | true =>
   have h0 : okAt 0 (b :: l) = decide (spanL nameByte l = l.length) := by rw [okAt, hb, Bool.true_or, Bool.true_and, hs]
   have hn : nameByte b = true := by simp [nameByte, hb]
   have hsp : spanL nameByte (b :: l) = spanL nameByte l + 1 := by rw [spanL, if_pos hn]
   rw [h0]
   simp only [nameB, firstL]
   rw [if_pos hb]
   unfold nameL
   rw [hsp]
   by_cases h16 : 16 < spanL nameByte l + 1
   · rw [if_pos h16]
     have : decide ((b :: l).length ≤ 16) = false := by simp only [List.length_cons, decide_eq_false_iff_not]; omega
     rw [this, Bool.and_false, Bool.false_and]
   · rw [if_neg h16]
     by_cases he : spanL nameByte l = l.length
     · have ht : (b :: l).take (spanL nameByte l + 1) = b :: l := by rw [he]; exact List.take_length (l := b :: l)
       have h1 : decide ((b :: l).length ≤ 16) = true := by simp only [List.length_cons, decide_eq_true_eq]; omega
       have h2 : decide (0 < (b :: l).length) = true := by simp
       rw [ht, h1, h2, decide_eq_true he]
       cases isWord (b :: l) <;> simp [ht]
     · have ht : ((b :: l).take (spanL nameByte l + 1) == b :: l) = false := by
        simp only [beq_eq_false_iff_ne]
        intro e
        have := congrArg List.length e
        rw [List.length_take, List.length_cons] at this
        omega
       rw [decide_eq_false he]
       cases isWord ((b :: l).take (spanL nameByte l + 1)) <;> simp only [Bool.false_eq_true, if_false, if_true, ht, Bool.and_false, Bool.false_and]

theorem okAt_yes {s : ByteArray} {k : Nat} {N : Bool} (h : k < s.size) (hb : isLetter (s[k]'h) = true ∨ (k ≠ 0 ∧ (isDigit (s[k]'h) = true ∨ (s[k]'h).toNat = 95))) (hN : N = okAt k (s.data.toList.drop k)) : N = okAt (k + 1) (s.data.toList.drop (k + 1)) := by
 rw [hN, drop_cons s k h, okAt]
 rcases hb with hb | ⟨h0, hb | hb⟩ <;> simp [*]
theorem okAt_no {s : ByteArray} {k : Nat} {N : Bool} (h : k < s.size) (hb : isLetter (s[k]'h) = false) (hc : k = 0 ∨ (isDigit (s[k]'h) = false ∧ (s[k]'h).toNat ≠ 95)) (hN : N = okAt k (s.data.toList.drop k)) : N = false := by
 rw [hN, drop_cons s k h, okAt, hb]
 rcases hc with hc | ⟨h1, h2⟩
 · simp [hc]
 · have : ((s[k]'h).toNat == 95) = false := by simpa using h2
   rw [h1, this]; simp
theorem okAt_end {s : ByteArray} {N : Bool} (hN : N = okAt s.size (s.data.toList.drop s.size)) : N = true := by
 rw [hN]
 have : s.data.toList.drop s.size = [] := by rw [size_list, List.drop_length]
 rw [this, okAt]

set_option maxHeartbeats 2000000 in
theorem rshaped_any (s : ByteArray) (hs : s.size ≤ 100000000) (w : World) :
 Calls Tryz.prog 88 #[.string s] w fun e w' => e = .returned (.bool (okAt 0 s.data.toList && decide (0 < s.data.toList.length))) ∧ w = w' := by
 have hst : Hid (okAt 0 s.data.toList = okAt 0 (s.data.toList.drop 0)) := hidIt rfl
 have hlen : s.data.toList.length = s.size := (size_list s).symm
 rw [hlen]
 clear hlen
 generalize okAt 0 s.data.toList = N at hst ⊢
 go_enter Tryz.func88, Tryz.ntmps88
 go_wp2
 go_loopw [3] (fun i wr => ∃ k : Nat, k ≤ s.size ∧ i = .int .i64 k ∧ wr = w ∧ Hid (N = okAt k (s.data.toList.drop k))) (fun i _ => s.size - (intOf i).toNat)
 case atStart => exact ⟨0, Nat.zero_le _, rfl, rfl, hst⟩
 case round =>
  clear hst
  obtain ⟨k, hk, rfl, rfl, hN⟩ := hrel
  by_cases hlt : k < s.size
  · have c1 := rletter_any (s[k]'hlt)
    have c2 := rdigit_any (s[k]'hlt)
    cases hb : isLetter (s[k]'hlt) with
    | true =>
     have hN2 := hidIt (okAt_yes hlt (.inl hb) hN.out)
     rw [hb] at c1
     clear hN hb c2
     go_wp2_with (go_at_call 124; refine (c1 _).mono ?_; rintro e w' ⟨rfl, rfl⟩)
     go_roundw
     case rel => exact ⟨k + 1, by omega, by go_num, trivial, hN2⟩
     case measure => simp [intOf]; omega
    | false =>
     rw [hb] at c1
     by_cases h0 : k = 0
     · have hN2 := hidIt (okAt_no hlt hb (.inl h0) hN.out)
       have hz : ((k : Int) == 0) = true := by simp; omega
       clear hN hb c2 h0
       go_wp2_with (go_at_call 124; refine (c1 _).mono ?_; rintro e w' ⟨rfl, rfl⟩)
       go_ret
       exact ⟨by rw [hN2.out]; simp, rfl⟩
     · have hz : ((k : Int) == 0) = false := by simp; omega
       cases hd : isDigit (s[k]'hlt) with
       | true =>
        have hN2 := hidIt (okAt_yes hlt (.inr ⟨h0, .inl hd⟩) hN.out)
        rw [hd] at c2
        clear hN hb hd h0
        go_wp2_with (first | (go_at_call 124; refine (c1 _).mono ?_; rintro e w' ⟨rfl, rfl⟩) | (go_at_call 125; refine (c2 _).mono ?_; rintro e w' ⟨rfl, rfl⟩))
        go_roundw
        case rel => exact ⟨k + 1, by omega, by go_num, trivial, hN2⟩
        case measure => simp [intOf]; omega
       | false =>
        rw [hd] at c2
        by_cases h95 : (s[k]'hlt).toNat = 95
        · have hN2 := hidIt (okAt_yes hlt (.inr ⟨h0, .inr h95⟩) hN.out)
          have hu : (((s[k]'hlt).toNat : Int) == 95) = true := by simp; omega
          clear hN hb hd h0 h95
          go_wp2_with (first | (go_at_call 124; refine (c1 _).mono ?_; rintro e w' ⟨rfl, rfl⟩) | (go_at_call 125; refine (c2 _).mono ?_; rintro e w' ⟨rfl, rfl⟩))
          go_roundw
          case rel => exact ⟨k + 1, by omega, by go_num, trivial, hN2⟩
          case measure => simp [intOf]; omega
        · have hN2 := hidIt (okAt_no hlt hb (.inr ⟨hd, h95⟩) hN.out)
          have hu : (((s[k]'hlt).toNat : Int) == 95) = false := by simp; omega
          clear hN hb hd h0 h95
          go_wp2_with (first | (go_at_call 124; refine (c1 _).mono ?_; rintro e w' ⟨rfl, rfl⟩) | (go_at_call 125; refine (c2 _).mono ?_; rintro e w' ⟨rfl, rfl⟩))
          go_ret
          exact ⟨by rw [hN2.out]; simp, rfl⟩
  · obtain rfl : k = s.size := by omega
    have hN2 := hidIt (okAt_end hN.out)
    clear hN
    go_wp2
    go_ret
    exact ⟨by rw [hN2.out, Bool.true_and]; rfl, rfl⟩

set_option maxHeartbeats 1000000 in
theorem rname_any (s : ByteArray) (hs : s.size ≤ 100000000) (w : World) :
 Calls Tryz.prog 44 #[.string s] w fun e w' => e = .returned (.bool (nameB s.data.toList)) ∧ Below w.heap.size w w' := by
 have c1 := rshaped_any s hs
 have c2 := rword_any s
 rw [name_ok]
 have hlen : decide (s.data.toList.length ≤ 16) = decide ((s.size : Int) ≤ 16) := by rw [← size_list]; exact decide_eq_decide.2 (by omega)
 rw [hlen]
 clear hlen
 generalize (okAt 0 s.data.toList && decide (0 < s.data.toList.length)) = x at c1 ⊢
 generalize isWord s.data.toList = y at c2 ⊢
 cases x
 · go_enter Tryz.func44, Tryz.ntmps44
   go_wp2_with (go_at_call 88; refine (c1 _).mono ?_; rintro e w' ⟨rfl, rfl⟩)
   go_ret
   exact ⟨by simp, Below.refl _ _⟩
 · by_cases h16 : (s.size : Int) ≤ 16
   · go_enter Tryz.func44, Tryz.ntmps44
     go_wp2_with (first | (go_at_call 88; refine (c1 _).mono ?_; rintro e w' ⟨rfl, rfl⟩) | (go_at_call 89; refine (c2 _).mono ?_; rintro e w' ⟨rfl, hb⟩; have hb := hidIt hb))
     go_ret
     exact ⟨by simp [h16], hb.out⟩
   · go_enter Tryz.func44, Tryz.ntmps44
     go_wp2_with (first | (go_at_call 88; refine (c1 _).mono ?_; rintro e w' ⟨rfl, rfl⟩) | (go_at_call 89; refine (c2 _).mono ?_; rintro e w' ⟨rfl, hb⟩; have hb := hidIt hb))
     go_ret
     exact ⟨by rw [decide_eq_false (by omega : ¬ (s.size : Int) ≤ 16)]; simp, Below.refl _ _⟩

end Go.Proofs.YtlppbgmcoknliaaGreatDoor
namespace Go.Proofs.YtlppbgmcoknliaaGreatDoor
set_option linter.unusedVariables false
open Go.RowKit

def boxP : List UInt8 := [98, 111, 120, 32]
def refP : List UInt8 := [114, 101, 102, 32]
def mutP : List UInt8 := [109, 117, 116, 32]
def intL : List UInt8 := [105, 110, 116]

/-- The kind of a text with nothing in front. -/
def leafL (l : List UInt8) : Nat := if l = intL then 1 else if nameB l then 2 else 0
/-- At most so many boxes are taken off. -/
def unboxL : Nat → List UInt8 → Nat × List UInt8
 | 0, l => (0, l)
 | n + 1, l => if Lib.hasPrefix l boxP then ((unboxL n (l.drop 4)).1 + 1, (unboxL n (l.drop 4)).2) else (0, l)
def frontL (l : List UInt8) : Nat × List UInt8 :=
 if Lib.hasPrefix l boxP then (3, l.drop 4) else if Lib.hasPrefix l refP then (4, l.drop 4) else if Lib.hasPrefix l mutP then (5, l.drop 4) else (0, [])
structure Parts where
 kind : Nat
 elem : List UInt8
 deep : Nat
 base : List UInt8
 deriving DecidableEq
def noParts : Parts := ⟨0, [], 0, []⟩
def splitL (l : List UInt8) : Parts :=
 let f := frontL l
 let u := unboxL 8 (if f.1 = 4 ∨ f.1 = 5 then f.2 else l)
 if leafL u.2 = 0 then noParts else ⟨if f.1 = 0 then leafL u.2 else f.1, f.2, u.1, u.2⟩

/-- How many boxes a plain type has, of at most n. -/
def plainN (n : Nat) (l : List UInt8) : Option Nat := if leafL (unboxL n l).2 = 0 then none else some (unboxL n l).1

theorem pre_split {p l : List UInt8} (h : Lib.hasPrefix l p = true) : l = p ++ l.drop p.length := by
 unfold Lib.hasPrefix at h
 obtain ⟨r, rfl⟩ := List.isPrefixOf_iff_prefix.1 h
 simp
theorem pre_app (p l : List UInt8) : Lib.hasPrefix (p ++ l) p = true := by
 unfold Lib.hasPrefix
 exact List.isPrefixOf_iff_prefix.2 ⟨l, rfl⟩

/-- A name has no blank. -/
theorem span_blank : ∀ (a r : List UInt8), spanL nameByte (a ++ 32 :: r) ≤ a.length
 | [], r => by simp [spanL, nameByte, isLetter, isDigit]
 | b :: a, r => by
  have := span_blank a r
  simp only [List.cons_append, spanL, List.length_cons]
  split <;> omega
theorem name_blank (a r : List UInt8) : nameB (a ++ 32 :: r) = false := by
 rw [name_ok]
 cases a with
 | nil => simp [okAt, isLetter]
 | cons b a =>
  have h := span_blank a r
  have : okAt 0 (b :: (a ++ 32 :: r)) = false := by
   rw [okAt, okAt_span, Bool.and_eq_false_iff]
   right
   simp only [decide_eq_false_iff_not, List.length_append, List.length_cons]
   omega
  rw [List.cons_append, this]
  simp
theorem leaf_blank (a r : List UInt8) : leafL (a ++ 32 :: r) = 0 := by
 unfold leafL
 rw [name_blank, if_neg, if_neg (by simp)]
 intro h
 have : (32 : UInt8) ∈ intL := by rw [← h]; simp
 revert this
 decide
theorem leaf_box (l : List UInt8) : leafL (boxP ++ l) = 0 := leaf_blank [98, 111, 120] l
theorem leaf_ref (l : List UInt8) : leafL (refP ++ l) = 0 := leaf_blank [114, 101, 102] l
theorem leaf_mut (l : List UInt8) : leafL (mutP ++ l) = 0 := leaf_blank [109, 117, 116] l
theorem leaf_pre {l p : List UInt8} (h : leafL l ≠ 0) (hp : p = boxP ∨ p = refP ∨ p = mutP) : Lib.hasPrefix l p = false := by
 cases hh : Lib.hasPrefix l p with
 | false => rfl
 | true =>
  exfalso
  apply h
  rw [pre_split hh]
  rcases hp with rfl | rfl | rfl
  · exact leaf_box _
  · exact leaf_ref _
  · exact leaf_mut _

theorem unbox_app (n : Nat) (l : List UInt8) : unboxL (n + 1) (boxP ++ l) = ((unboxL n l).1 + 1, (unboxL n l).2) := by
 rw [unboxL, if_pos (pre_app _ _)]
 rfl
theorem unbox_no {l : List UInt8} (h : Lib.hasPrefix l boxP = false) (n : Nat) : unboxL n l = (0, l) := by
 cases n with
 | zero => rfl
 | succ n => rw [unboxL, if_neg (by simp [h])]
theorem plainN_app (n : Nat) (l : List UInt8) : plainN (n + 1) (boxP ++ l) = (plainN n l).map (· + 1) := by
 unfold plainN
 rw [unbox_app]
 simp only
 split <;> simp
theorem plainN_leaf {l : List UInt8} (h : leafL l ≠ 0) (n : Nat) : plainN n l = some 0 := by
 unfold plainN
 rw [unbox_no (leaf_pre h (.inl rfl))]
 simp [h]
theorem plainN_none {l : List UInt8} (h : Lib.hasPrefix l boxP = false) (hl : leafL l = 0) (n : Nat) : plainN n l = none := by
 unfold plainN
 rw [unbox_no h]
 simp [hl]
theorem plainN_zero {l : List UInt8} (hl : leafL l = 0) : plainN 0 l = none := by
 unfold plainN unboxL
 simp [hl]
/-- One box less to be taken. -/
theorem plainN_less : ∀ (n : Nat) (l : List UInt8), plainN n l = (if plainN (n + 1) l = some (n + 1) then none else plainN (n + 1) l)
 | 0, l => by
  by_cases hl : leafL l = 0
  · rw [plainN_zero hl]
    cases hb : Lib.hasPrefix l boxP with
    | false => rw [plainN_none hb hl]; simp
    | true =>
     rw [pre_split hb]
     generalize l.drop boxP.length = r
     rw [plainN_app]
     by_cases hr : leafL r = 0
     · rw [plainN_zero hr]; simp
     · rw [plainN_leaf hr]; simp
  · rw [plainN_leaf hl, plainN_leaf hl]; simp
 | n + 1, l => by
  by_cases hl : leafL l = 0
  · cases hb : Lib.hasPrefix l boxP with
    | false => rw [plainN_none hb hl, plainN_none hb hl]; simp
    | true =>
     rw [pre_split hb]
     generalize l.drop boxP.length = r
     rw [plainN_app, plainN_app, plainN_less n r]
     cases plainN (n + 1) r with
     | none => simp
     | some k =>
      by_cases hk : k = n + 1
      · subst hk; simp
      · have : ¬ k + 1 = n + 1 + 1 := by omega
        simp [hk]
  · rw [plainN_leaf hl, plainN_leaf hl]; simp
theorem plainN_le : ∀ (n : Nat) (l : List UInt8) (k : Nat), plainN n l = some k → k ≤ n
 | 0, l, k, h => by
  unfold plainN unboxL at h
  split at h
  · cases h
  · injection h with h; omega
 | n + 1, l, k, h => by
  by_cases hl : leafL l = 0
  · cases hb : Lib.hasPrefix l boxP with
    | false => rw [plainN_none hb hl] at h; cases h
    | true =>
     rw [pre_split hb, plainN_app] at h
     cases hr : plainN n (l.drop boxP.length) with
     | none => rw [hr] at h; cases h
     | some j =>
      rw [hr] at h
      have := plainN_le n _ j hr
      simp at h
      omega
  · rw [plainN_leaf hl] at h
    injection h with h
    omega

/-- What the document's Plain reckons. -/
def plainL (l : List UInt8) : Option Nat := plainN 8 l
theorem plainL_le {l : List UInt8} {k : Nat} (h : plainL l = some k) : k ≤ 8 := plainN_le 8 l k h
theorem plainL_leaf {l : List UInt8} (h : leafL l ≠ 0) : plainL l = some 0 := plainN_leaf h 8
theorem plainL_none {l : List UInt8} (h : Lib.hasPrefix l boxP = false) (hl : leafL l = 0) : plainL l = none := plainN_none h hl 8
theorem plainL_nil : plainL [] = none := by decide
theorem plainL_box (l : List UInt8) : plainL (boxP ++ l) = (match plainL l with | none => none | some k => if k = 8 then none else some (k + 1)) := by
 unfold plainL
 rw [plainN_app, plainN_less 7 l]
 cases plainN (7 + 1) l with
 | none => simp
 | some k =>
  by_cases hk : k = 8
  · subst hk; simp
  · simp [hk]
theorem plainL_ref (l : List UInt8) : plainL (refP ++ l) = none := plainL_none (by unfold Lib.hasPrefix refP boxP; simp [List.isPrefixOf]) (leaf_ref l)
theorem plainL_mut (l : List UInt8) : plainL (mutP ++ l) = none := plainL_none (by unfold Lib.hasPrefix mutP boxP; simp [List.isPrefixOf]) (leaf_mut l)

/-- What a plain type ends with. -/
def endL (l : List UInt8) : List UInt8 := (unboxL 8 l).2
theorem plain_iff (l : List UInt8) : plainL l = none ↔ leafL (endL l) = 0 := by
 unfold plainL plainN endL
 split <;> simp_all
theorem pre_box_ref (l : List UInt8) : Lib.hasPrefix (refP ++ l) boxP = false := by unfold Lib.hasPrefix refP boxP; simp [List.isPrefixOf]
theorem pre_box_mut (l : List UInt8) : Lib.hasPrefix (mutP ++ l) boxP = false := by unfold Lib.hasPrefix mutP boxP; simp [List.isPrefixOf]
theorem pre_ref_mut (l : List UInt8) : Lib.hasPrefix (mutP ++ l) refP = false := by unfold Lib.hasPrefix mutP refP; simp [List.isPrefixOf]
theorem pre_ref_box (l : List UInt8) : Lib.hasPrefix (boxP ++ l) refP = false := by unfold Lib.hasPrefix boxP refP; simp [List.isPrefixOf]
theorem pre_mut_box (l : List UInt8) : Lib.hasPrefix (boxP ++ l) mutP = false := by unfold Lib.hasPrefix boxP mutP; simp [List.isPrefixOf]
theorem pre_mut_ref (l : List UInt8) : Lib.hasPrefix (refP ++ l) mutP = false := by unfold Lib.hasPrefix refP mutP; simp [List.isPrefixOf]
theorem drop4 {p l : List UInt8} (h : p.length = 4) : (p ++ l).drop 4 = l := by rw [← h, List.drop_left]

theorem split_box (l : List UInt8) : splitL (boxP ++ l) = (if plainL (boxP ++ l) = none then noParts else ⟨3, l, (unboxL 8 (boxP ++ l)).1, endL (boxP ++ l)⟩) := by
 have hf : frontL (boxP ++ l) = (3, l) := by unfold frontL; rw [if_pos (pre_app _ _), drop4 rfl]
 unfold splitL
 simp only [hf, plain_iff]
 unfold endL
 simp
theorem split_ref (l : List UInt8) : splitL (refP ++ l) = (if plainL l = none then noParts else ⟨4, l, (unboxL 8 l).1, endL l⟩) := by
 have hf : frontL (refP ++ l) = (4, l) := by unfold frontL; rw [if_neg (by simp [pre_box_ref]), if_pos (pre_app _ _), drop4 rfl]
 unfold splitL
 simp only [hf, plain_iff]
 unfold endL
 simp
theorem split_mut (l : List UInt8) : splitL (mutP ++ l) = (if plainL l = none then noParts else ⟨5, l, (unboxL 8 l).1, endL l⟩) := by
 have hf : frontL (mutP ++ l) = (5, l) := by unfold frontL; rw [if_neg (by simp [pre_box_mut]), if_neg (by simp [pre_ref_mut]), if_pos (pre_app _ _), drop4 rfl]
 unfold splitL
 simp only [hf, plain_iff]
 unfold endL
 simp
theorem split_else {l : List UInt8} (h1 : Lib.hasPrefix l boxP = false) (h2 : Lib.hasPrefix l refP = false) (h3 : Lib.hasPrefix l mutP = false) : splitL l = (if leafL l = 0 then noParts else ⟨leafL l, [], 0, l⟩) := by
 have hf : frontL l = (0, []) := by unfold frontL; simp [h1, h2, h3]
 unfold splitL
 simp only [hf]
 simp [unbox_no h1]
theorem split_leaf {l : List UInt8} (h : leafL l ≠ 0) : splitL l = ⟨leafL l, [], 0, l⟩ := by
 rw [split_else (leaf_pre h (.inl rfl)) (leaf_pre h (.inr (.inl rfl))) (leaf_pre h (.inr (.inr rfl))), if_neg h]
/-- A text's ways: a leaf, a box, a ref, a mut, or nothing of that. -/
theorem ways (l : List UInt8) : (leafL l ≠ 0) ∨ (∃ r, l = boxP ++ r) ∨ (∃ r, l = refP ++ r) ∨ (∃ r, l = mutP ++ r) ∨ (leafL l = 0 ∧ Lib.hasPrefix l boxP = false ∧ Lib.hasPrefix l refP = false ∧ Lib.hasPrefix l mutP = false) := by
 by_cases hl : leafL l = 0
 · cases h1 : Lib.hasPrefix l boxP with
   | true => exact .inr (.inl ⟨_, pre_split h1⟩)
   | false =>
    cases h2 : Lib.hasPrefix l refP with
    | true => exact .inr (.inr (.inl ⟨_, pre_split h2⟩))
    | false =>
     cases h3 : Lib.hasPrefix l mutP with
     | true => exact .inr (.inr (.inr (.inl ⟨_, pre_split h3⟩)))
     | false => exact .inr (.inr (.inr (.inr ⟨hl, rfl, rfl, rfl⟩)))
 · exact .inl hl
theorem split_none {l : List UInt8} (h0 : leafL l = 0) (h1 : Lib.hasPrefix l boxP = false) (h2 : Lib.hasPrefix l refP = false) (h3 : Lib.hasPrefix l mutP = false) : splitL l = noParts := by
 rw [split_else h1 h2 h3, if_pos h0]
theorem leaf_two (l : List UInt8) : leafL l ≤ 2 := by unfold leafL; split <;> (try split) <;> omega

/-- What is asked of a type. -/
def kindL (l : List UInt8) : Nat := (splitL l).kind
def isPlain (l : List UInt8) : Bool := decide (kindL l = 1) || decide (kindL l = 2) || decide (kindL l = 3)
theorem plain_kind (l : List UInt8) : isPlain l = (plainL l).isSome := by
 unfold isPlain kindL
 rcases ways l with h | ⟨r, rfl⟩ | ⟨r, rfl⟩ | ⟨r, rfl⟩ | ⟨h0, h1, h2, h3⟩
 · rw [split_leaf h, plainL_leaf h]
   have := leaf_two l
   have : leafL l = 1 ∨ leafL l = 2 := by omega
   rcases this with e | e <;> simp [e]
 · rw [split_box]
   cases hp : plainL (boxP ++ r) <;> simp [noParts]
 · rw [split_ref, plainL_ref]
   split <;> simp [noParts]
 · rw [split_mut, plainL_mut]
   split <;> simp [noParts]
 · rw [split_none h0 h1 h2 h3, plainL_none h1 h0]
   simp [noParts]
end Go.Proofs.YtlppbgmcoknliaaGreatDoor
namespace Go.Proofs.YtlppbgmcoknliaaGreatDoor
set_option linter.unusedVariables false
open Go.RowKit

/-- A text of bytes. -/
def bs (l : List UInt8) : ByteArray := ⟨l.toArray⟩
theorem bs_list (l : List UInt8) : (bs l).data.toList = l := rfl
theorem bs_of (s : ByteArray) : bs s.data.toList = s := rfl
theorem bs_size (l : List UInt8) : (bs l).size = l.length := by rw [size_list, bs_list]
theorem bs_drop (s : ByteArray) (n : Nat) : s.extract n s.size = bs (s.data.toList.drop n) := by
 rw [← bs_of (s.extract n s.size), extract_drop]

theorem cut_pre (s : ByteArray) (p : List UInt8) (b : Bool) (h : Lib.hasPrefix s.data.toList p = b) (w : World) :
 Calls Tryz.prog 193 #[.string s, .string ⟨p.toArray⟩] w fun e w' => e = .returned (.tuple #[.string (bs (if b then s.data.toList.drop p.length else s.data.toList)), .bool b]) ∧ w = w' := by
 refine (Tryz.strings_CutPrefix s ⟨p.toArray⟩ w).mono ?_
 rintro e w' ⟨rfl, rfl⟩
 refine ⟨?_, rfl⟩
 have e : (⟨p.toArray⟩ : ByteArray).data.toList = p := rfl
 rw [e]
 unfold Lib.trimPrefix
 rw [h]
 cases b <;> rfl

set_option maxHeartbeats 400000 in
theorem front_any (s : ByteArray) (w : World) :
 Calls Tryz.prog 164 #[.string s] w fun e w' => e = .returned (.tuple #[.int .i64 ((frontL s.data.toList).1 : Nat), .string (bs (frontL s.data.toList).2)]) ∧ w = w' := by
 unfold frontL
 cases h1 : Lib.hasPrefix s.data.toList boxP with
 | true =>
  have c1 := cut_pre s boxP true h1
  simp only [if_true]
  rw [if_pos rfl] at c1
  simp only [boxP, List.length_cons, List.length_nil, Nat.zero_add, Nat.reduceAdd] at c1
  clear h1
  go_enter Tryz.func164, Tryz.ntmps164
  go_wp2_with (go_at_call 193; refine (c1 _).mono ?_)
  rintro e w' ⟨rfl, rfl⟩
  clear c1
  go_wp2
  (try simp only [Exit.inBlock, Exit.then])
  refine bodyPost_ret (by simp [results, Tryz.results164, go_sem]; try rfl) rfl ?_
  exact ⟨rfl, rfl⟩
 | false =>
  have c1 := cut_pre s boxP false h1
  simp only [Bool.false_eq_true, if_false] at c1 ⊢
  cases h2 : Lib.hasPrefix s.data.toList refP with
  | true =>
   have c2 := cut_pre s refP true h2
   simp only [if_true]
   rw [if_pos rfl] at c2
   simp only [boxP, refP, List.length_cons, List.length_nil, Nat.zero_add, Nat.reduceAdd] at c1 c2
   clear h1 h2
   go_enter Tryz.func164, Tryz.ntmps164
   go_wp2_with (go_at_call 193; refine (c1 _).mono ?_)
   rintro e w' ⟨rfl, rfl⟩
   clear c1
   go_wp2_with (go_at_call 193; refine (c2 _).mono ?_)
   rintro e w' ⟨rfl, rfl⟩
   clear c2
   go_wp2
   (try simp only [Exit.inBlock, Exit.then])
   refine bodyPost_ret (by simp [results, Tryz.results164, go_sem]; try rfl) rfl ?_
   exact ⟨rfl, rfl⟩
  | false =>
   have c2 := cut_pre s refP false h2
   simp only [Bool.false_eq_true, if_false] at c2 ⊢
   cases h3 : Lib.hasPrefix s.data.toList mutP with
   | true =>
    have c3 := cut_pre s mutP true h3
    simp only [if_true]
    rw [if_pos rfl] at c3
    simp only [boxP, refP, mutP, List.length_cons, List.length_nil, Nat.zero_add, Nat.reduceAdd] at c1 c2 c3
    clear h1 h2 h3
    go_enter Tryz.func164, Tryz.ntmps164
    go_wp2_with (go_at_call 193; refine (c1 _).mono ?_)
    rintro e w' ⟨rfl, rfl⟩
    clear c1
    go_wp2_with (go_at_call 193; refine (c2 _).mono ?_)
    rintro e w' ⟨rfl, rfl⟩
    clear c2
    go_wp2_with (go_at_call 193; refine (c3 _).mono ?_)
    rintro e w' ⟨rfl, rfl⟩
    clear c3
    go_wp2
    (try simp only [Exit.inBlock, Exit.then])
    refine bodyPost_ret (by simp [results, Tryz.results164, go_sem]; try rfl) rfl ?_
    exact ⟨rfl, rfl⟩
   | false =>
    have c3 := cut_pre s mutP false h3
    simp only [Bool.false_eq_true, if_false] at c3 ⊢
    simp only [boxP, refP, mutP] at c1 c2 c3
    clear h1 h2 h3
    go_enter Tryz.func164, Tryz.ntmps164
    go_wp2_with (go_at_call 193; refine (c1 _).mono ?_)
    rintro e w' ⟨rfl, rfl⟩
    clear c1
    go_wp2_with (go_at_call 193; refine (c2 _).mono ?_)
    rintro e w' ⟨rfl, rfl⟩
    clear c2
    go_wp2_with (go_at_call 193; refine (c3 _).mono ?_)
    rintro e w' ⟨rfl, rfl⟩
    clear c3
    go_wp2
    (try simp only [Exit.inBlock, Exit.then])
    refine bodyPost_ret (by simp [results, Tryz.results164, go_sem]; try rfl) rfl ?_
    exact ⟨rfl, rfl⟩

/-- What unbox's loop knows: k boxes are off, u is left. -/
def UB (l : List UInt8) (k : Nat) (u : ByteArray) : Prop := unboxL 8 l = ((unboxL (8 - k) u.data.toList).1 + k, (unboxL (8 - k) u.data.toList).2)
theorem UB.next {l : List UInt8} {k : Nat} {u : ByteArray} (h : UB l k u) (hk : k < 8) (hp : Lib.hasPrefix u.data.toList boxP = true) : 4 ≤ u.size ∧ UB l (k + 1) (u.extract 4 u.size) := by
 have e := pre_split hp
 have hl := congrArg List.length e
 rw [List.length_append] at hl
 refine ⟨by rw [size_list]; simp only [boxP, List.length_cons, List.length_nil] at hl; omega, ?_⟩
 unfold UB at h ⊢
 obtain ⟨m, hm⟩ : ∃ m, 8 - k = m + 1 := ⟨8 - k - 1, by omega⟩
 have hm2 : 8 - (k + 1) = m := by omega
 rw [extract_drop, hm2, h, hm, unboxL, if_pos hp]
 simp only
 rw [Nat.add_assoc, Nat.add_comm 1 k]
theorem UB.stop {l : List UInt8} {k : Nat} {u : ByteArray} (h : UB l k u) (hp : k = 8 ∨ Lib.hasPrefix u.data.toList boxP = false) : unboxL 8 l = (k, u.data.toList) := by
 unfold UB at h
 rcases hp with rfl | hp
 · rw [h]; simp [unboxL]
 · rw [h, unbox_no hp]; simp

set_option maxHeartbeats 400000 in
theorem unbox_any (s : ByteArray) (w : World) :
 Calls Tryz.prog 165 #[.string s] w fun e w' => e = .returned (.tuple #[.int .i64 ((unboxL 8 s.data.toList).1 : Nat), .string (bs (unboxL 8 s.data.toList).2)]) ∧ w = w' := by
 have hst : Hid (UB s.data.toList 0 s) := hidIt rfl
 generalize s.data.toList = l at hst ⊢
 go_enter Tryz.func165, Tryz.ntmps165
 go_wp2
 go_loopw [0, 4] (fun t i wr => ∃ (k : Nat) (u : ByteArray), k ≤ 8 ∧ i = .int .i64 k ∧ t = .string u ∧ wr = w ∧ Hid (UB l k u)) (fun _ i _ => 8 - (intOf i).toNat)
 case atStart => exact ⟨0, s, Nat.zero_le _, rfl, rfl, rfl, hst⟩
 case round =>
  clear hst
  obtain ⟨k, u, hk, rfl, rfl, rfl, hN⟩ := hrel
  by_cases hlt : k < 8
  · have hlt' : (k : Int) < 8 := by omega
    have c1 : ∀ w, Calls Tryz.prog 194 #[.string u, .string ⟨#[98, 111, 120, 32]⟩] w fun e w' => e = .returned (.bool (Lib.hasPrefix u.data.toList boxP)) ∧ w = w' := fun w =>
     (Tryz.strings_HasPrefix u ⟨#[98, 111, 120, 32]⟩ w).mono fun e w' ⟨h1, h2⟩ => ⟨h1, h2.symm⟩
    cases hp : Lib.hasPrefix u.data.toList boxP with
    | true =>
     rw [hp] at c1
     obtain ⟨h4, hN2⟩ := hN.out.next hlt hp
     have hN2 := hidIt hN2
     clear hN hp
     go_wp2_with (first | (go_at_call 194; refine (c1 _).mono ?_; rintro e w' ⟨rfl, rfl⟩))
     go_roundw
     case rel => exact ⟨k + 1, _, by omega, by go_num, rfl, trivial, hN2⟩
     case measure => simp [intOf]; omega
    | false =>
     rw [hp] at c1
     have hN2 := hidIt (hN.out.stop (.inr hp))
     clear hN hp
     go_wp2_with (first | (go_at_call 194; refine (c1 _).mono ?_; rintro e w' ⟨rfl, rfl⟩))
     (try simp only [Exit.inBlock, Exit.then])
     refine bodyPost_ret (by simp [results, Tryz.results165, go_sem]; try rfl) rfl ?_
     exact ⟨by rw [hN2.out]; rfl, rfl⟩
  · obtain rfl : k = 8 := by omega
    have hN2 := hidIt (hN.out.stop (.inl rfl))
    clear hN
    go_wp2
    (try simp only [Exit.inBlock, Exit.then])
    refine bodyPost_ret (by simp [results, Tryz.results165, go_sem]; try rfl) rfl ?_
    exact ⟨by rw [hN2.out]; rfl, rfl⟩

set_option maxHeartbeats 400000 in
theorem leaf_any (s : ByteArray) (hs : s.size ≤ 100000000) (w : World) :
 Calls Tryz.prog 166 #[.string s] w fun e w' => e = .returned (.int .i64 (leafL s.data.toList : Nat)) ∧ Below w.heap.size w w' := by
 have c1 := isName_any s hs
 have e1 : s.toList = s.data.toList := ByteArray.toList_eq _
 unfold leafL
 by_cases hi : s.data.toList = intL
 · have hb : (s.toList == [105, 110, 116]) = true := by rw [e1, hi]; rfl
   rw [if_pos hi]
   clear hi c1 e1
   go_enter Tryz.func166, Tryz.ntmps166
   go_wp2
   go_ret
   exact ⟨rfl, Below.refl _ _⟩
 · have hb : (s.toList == [105, 110, 116]) = false := by rw [e1]; simpa [intL] using hi
   rw [if_neg hi]
   clear hi e1
   cases hn : nameB s.data.toList with
   | true =>
    rw [hn] at c1
    clear hn
    go_enter Tryz.func166, Tryz.ntmps166
    go_wp2_with (first | (go_at_call 82; refine (c1 _).mono ?_; rintro e w' ⟨rfl, hq⟩; have hq := hidIt hq))
    go_ret
    exact ⟨rfl, hq.out⟩
   | false =>
    rw [hn] at c1
    clear hn
    go_enter Tryz.func166, Tryz.ntmps166
    go_wp2_with (first | (go_at_call 82; refine (c1 _).mono ?_; rintro e w' ⟨rfl, hq⟩; have hq := hidIt hq))
    go_ret
    exact ⟨rfl, hq.out⟩

end Go.Proofs.YtlppbgmcoknliaaGreatDoor
namespace Go.Proofs.YtlppbgmcoknliaaGreatDoor
set_option linter.unusedVariables false
open Go.RowKit

def partsV (p : Parts) : Value := .agg #[.int .i64 (p.kind : Nat), .string (bs p.elem), .int .i64 (p.deep : Nat), .string (bs p.base)]

theorem unboxL_len : ∀ (n : Nat) (l : List UInt8), (unboxL n l).2.length ≤ l.length
 | 0, l => Nat.le_refl _
 | n + 1, l => by
  rw [unboxL]
  split
  · have := unboxL_len n (l.drop 4)
    rw [List.length_drop] at this
    simp only
    omega
  · exact Nat.le_refl _
theorem frontL_len (l : List UInt8) : (frontL l).2.length ≤ l.length := by
 unfold frontL
 split
 · simp
 · split
   · simp
   · split <;> simp
theorem fld0 (a b c d : Value) (w : World) : (Sem.run Tryz.prog (Instr.field 165 (.agg #[a, b, c, d]) 0)) w = .ok a w := by kernel_rfl
set_option maxHeartbeats 1000000 in
theorem split_walk (s p : ByteArray) (f1 u1 g : Nat) (f2 u2 : List UInt8) (hs : s.size ≤ 100000000)
 (c1 : ∀ w, Calls Tryz.prog 164 #[.string s] w fun e w' => e = .returned (.tuple #[.int .i64 (f1 : Nat), .string (bs f2)]) ∧ w = w')
 (hp : p = if f1 = 4 ∨ f1 = 5 then bs f2 else s)
 (c2 : ∀ w, Calls Tryz.prog 165 #[.string p] w fun e w' => e = .returned (.tuple #[.int .i64 (u1 : Nat), .string (bs u2)]) ∧ w = w')
 (c3 : ∀ w, Calls Tryz.prog 166 #[.string (bs u2)] w fun e w' => e = .returned (.int .i64 (g : Nat)) ∧ Below w.heap.size w w') (w : World) :
 Calls Tryz.prog 133 #[.string s] w fun e w' => e = .returned (partsV (if g = 0 then noParts else ⟨if f1 = 0 then g else f1, f2, u1, u2⟩)) ∧ Below w.heap.size w w' := by
 have g0 : g = 0 ∨ ((g : Int) == 0) = false := by
  by_cases h : g = 0
  · exact .inl h
  · exact .inr (by simp; omega)
 by_cases h4 : f1 = 4
 · subst h4
   rw [if_pos (.inl rfl)] at hp
   subst hp
   rcases g0 with rfl | g0
   · go_enter Tryz.func133, Tryz.ntmps133
     go_wp2_with (first | (go_at_call 164; refine (c1 _).mono ?_; rintro e w' ⟨rfl, rfl⟩) | (go_at_call 165; refine (c2 _).mono ?_; rintro e w' ⟨rfl, rfl⟩) | (go_at_call 166; refine (c3 _).mono ?_; rintro e w' ⟨rfl, hb⟩; obtain ⟨q0, q1, q2, q3, k0, k1, k2, k3⟩ := box4 hb; have hb := hidIt hb))
     (try simp only [Exit.inBlock, Exit.then])
     refine bodyPost_ret (by simp [results, Tryz.results133, go_sem, q0, q1, q2, q3]; try rfl) rfl ?_
     exact ⟨rfl, below_put (below_put (below_put (below_put (below_box hb.out) _ _) _ _) _ _) _ _⟩
   · have hg : g ≠ 0 := by intro h; subst h; simp at g0
     rw [if_neg hg, if_neg (by decide : ¬ (4 : Nat) = 0)]
     clear hg
     go_enter Tryz.func133, Tryz.ntmps133
     go_wp2_with (first | (go_at_call 164; refine (c1 _).mono ?_; rintro e w' ⟨rfl, rfl⟩) | (go_at_call 165; refine (c2 _).mono ?_; rintro e w' ⟨rfl, rfl⟩) | (go_at_call 166; refine (c3 _).mono ?_; rintro e w' ⟨rfl, hb⟩; obtain ⟨q0, q1, q2, q3, k0, k1, k2, k3⟩ := box4 hb; have hb := hidIt hb))
     (try simp only [Exit.inBlock, Exit.then])
     refine bodyPost_ret (by simp [results, Tryz.results133, go_sem, q0, q1, q2, q3]; try rfl) rfl ?_
     exact ⟨rfl, below_put (below_put (below_put (below_put (below_box hb.out) _ _) _ _) _ _) _ _⟩
 · have h4' : ((f1 : Int) == 4) = false := by simp; omega
   by_cases h5 : f1 = 5
   · subst h5
     rw [if_pos (.inr rfl)] at hp
     subst hp
     clear h4 h4'
     rcases g0 with rfl | g0
     · go_enter Tryz.func133, Tryz.ntmps133
       go_wp2_with (first | (go_at_call 164; refine (c1 _).mono ?_; rintro e w' ⟨rfl, rfl⟩) | (go_at_call 165; refine (c2 _).mono ?_; rintro e w' ⟨rfl, rfl⟩) | (go_at_call 166; refine (c3 _).mono ?_; rintro e w' ⟨rfl, hb⟩; obtain ⟨q0, q1, q2, q3, k0, k1, k2, k3⟩ := box4 hb; have hb := hidIt hb))
       (try simp only [Exit.inBlock, Exit.then])
       refine bodyPost_ret (by simp [results, Tryz.results133, go_sem, q0, q1, q2, q3]; try rfl) rfl ?_
       exact ⟨rfl, below_put (below_put (below_put (below_put (below_box hb.out) _ _) _ _) _ _) _ _⟩
     · have hg : g ≠ 0 := by intro h; subst h; simp at g0
       rw [if_neg hg, if_neg (by decide : ¬ (5 : Nat) = 0)]
       clear hg
       go_enter Tryz.func133, Tryz.ntmps133
       go_wp2_with (first | (go_at_call 164; refine (c1 _).mono ?_; rintro e w' ⟨rfl, rfl⟩) | (go_at_call 165; refine (c2 _).mono ?_; rintro e w' ⟨rfl, rfl⟩) | (go_at_call 166; refine (c3 _).mono ?_; rintro e w' ⟨rfl, hb⟩; obtain ⟨q0, q1, q2, q3, k0, k1, k2, k3⟩ := box4 hb; have hb := hidIt hb))
       (try simp only [Exit.inBlock, Exit.then])
       refine bodyPost_ret (by simp [results, Tryz.results133, go_sem, q0, q1, q2, q3]; try rfl) rfl ?_
       exact ⟨rfl, below_put (below_put (below_put (below_put (below_box hb.out) _ _) _ _) _ _) _ _⟩
   · have h5' : ((f1 : Int) == 5) = false := by simp; omega
     rw [if_neg (by rintro (h | h); exact h4 h; exact h5 h)] at hp
     subst hp
     clear h4 h5
     rcases g0 with rfl | g0
     · go_enter Tryz.func133, Tryz.ntmps133
       go_wp2_with (first | (go_at_call 164; refine (c1 _).mono ?_; rintro e w' ⟨rfl, rfl⟩) | (go_at_call 165; refine (c2 _).mono ?_; rintro e w' ⟨rfl, rfl⟩) | (go_at_call 166; refine (c3 _).mono ?_; rintro e w' ⟨rfl, hb⟩; obtain ⟨q0, q1, q2, q3, k0, k1, k2, k3⟩ := box4 hb; have hb := hidIt hb))
       (try simp only [Exit.inBlock, Exit.then])
       refine bodyPost_ret (by simp [results, Tryz.results133, go_sem, q0, q1, q2, q3]; try rfl) rfl ?_
       exact ⟨rfl, below_put (below_put (below_put (below_put (below_box hb.out) _ _) _ _) _ _) _ _⟩
     · have hg : g ≠ 0 := by intro h; subst h; simp at g0
       rw [if_neg hg]
       clear hg
       by_cases h0 : f1 = 0
       · have h0' : ((f1 : Int) == 0) = true := by simp; omega
         rw [if_pos h0]
         clear h0
         go_enter Tryz.func133, Tryz.ntmps133
         go_wp2_with (first | (go_at_call 164; refine (c1 _).mono ?_; rintro e w' ⟨rfl, rfl⟩) | (go_at_call 165; refine (c2 _).mono ?_; rintro e w' ⟨rfl, rfl⟩) | (go_at_call 166; refine (c3 _).mono ?_; rintro e w' ⟨rfl, hb⟩; obtain ⟨q0, q1, q2, q3, k0, k1, k2, k3⟩ := box4 hb; have hb := hidIt hb))
         (try simp only [Exit.inBlock, Exit.then])
         refine bodyPost_ret (by simp [results, Tryz.results133, go_sem, q0, q1, q2, q3]; try rfl) rfl ?_
         exact ⟨rfl, below_put (below_put (below_put (below_put (below_box hb.out) _ _) _ _) _ _) _ _⟩
       · have h0' : ((f1 : Int) == 0) = false := by simp; omega
         rw [if_neg h0]
         clear h0
         go_enter Tryz.func133, Tryz.ntmps133
         go_wp2_with (first | (go_at_call 164; refine (c1 _).mono ?_; rintro e w' ⟨rfl, rfl⟩) | (go_at_call 165; refine (c2 _).mono ?_; rintro e w' ⟨rfl, rfl⟩) | (go_at_call 166; refine (c3 _).mono ?_; rintro e w' ⟨rfl, hb⟩; obtain ⟨q0, q1, q2, q3, k0, k1, k2, k3⟩ := box4 hb; have hb := hidIt hb))
         (try simp only [Exit.inBlock, Exit.then])
         refine bodyPost_ret (by simp [results, Tryz.results133, go_sem, q0, q1, q2, q3]; try rfl) rfl ?_
         exact ⟨rfl, below_put (below_put (below_put (below_put (below_box hb.out) _ _) _ _) _ _) _ _⟩

theorem split_any (s : ByteArray) (hs : s.size ≤ 100000000) (w : World) :
 Calls Tryz.prog 133 #[.string s] w fun e w' => e = .returned (partsV (splitL s.data.toList)) ∧ Below w.heap.size w w' := by
 have hf := frontL_len s.data.toList
 have h := split_walk s (if (frontL s.data.toList).1 = 4 ∨ (frontL s.data.toList).1 = 5 then bs (frontL s.data.toList).2 else s) (frontL s.data.toList).1
  (unboxL 8 (if (frontL s.data.toList).1 = 4 ∨ (frontL s.data.toList).1 = 5 then (frontL s.data.toList).2 else s.data.toList)).1
  (leafL (unboxL 8 (if (frontL s.data.toList).1 = 4 ∨ (frontL s.data.toList).1 = 5 then (frontL s.data.toList).2 else s.data.toList)).2)
  (frontL s.data.toList).2 (unboxL 8 (if (frontL s.data.toList).1 = 4 ∨ (frontL s.data.toList).1 = 5 then (frontL s.data.toList).2 else s.data.toList)).2 hs (front_any s) rfl
  (by
    intro w
    have e : (if (frontL s.data.toList).1 = 4 ∨ (frontL s.data.toList).1 = 5 then (frontL s.data.toList).2 else s.data.toList) = (if (frontL s.data.toList).1 = 4 ∨ (frontL s.data.toList).1 = 5 then bs (frontL s.data.toList).2 else s).data.toList := by split <;> rfl
    rw [e]
    exact unbox_any _ w)
  (by
    intro w
    have := leaf_any (bs (unboxL 8 (if (frontL s.data.toList).1 = 4 ∨ (frontL s.data.toList).1 = 5 then (frontL s.data.toList).2 else s.data.toList)).2) (by
     rw [bs_size]
     have h1 := unboxL_len 8 (if (frontL s.data.toList).1 = 4 ∨ (frontL s.data.toList).1 = 5 then (frontL s.data.toList).2 else s.data.toList)
     have h2 : (if (frontL s.data.toList).1 = 4 ∨ (frontL s.data.toList).1 = 5 then (frontL s.data.toList).2 else s.data.toList).length ≤ s.data.toList.length := by split <;> omega
     rw [← size_list] at h2
     omega) w
    exact this) w
 exact h

set_option maxHeartbeats 400000 in
theorem kind_any (s : ByteArray) (hs : s.size ≤ 100000000) (w : World) :
 Calls Tryz.prog 100 #[.string s] w fun e w' => e = .returned (.int .i64 (kindL s.data.toList : Nat)) ∧ Below w.heap.size w w' := by
 have c1 := split_any s hs
 unfold kindL
 unfold partsV at c1
 generalize splitL s.data.toList = p at c1 ⊢
 have hf := fld0
 go_enter Tryz.func100, Tryz.ntmps100
 go_wp2_with (first | (go_at_call 133; refine (c1 _).mono ?_; rintro e w' ⟨rfl, hb⟩; have hb := hidIt hb))
 go_ret
 exact ⟨rfl, hb.out⟩
set_option maxHeartbeats 400000 in
theorem plain_any (s : ByteArray) (hs : s.size ≤ 100000000) (w : World) :
 Calls Tryz.prog 93 #[.string s] w fun e w' => e = .returned (.bool (isPlain s.data.toList)) ∧ Below w.heap.size w w' := by
 have c1 := kind_any s hs
 unfold isPlain
 generalize kindL s.data.toList = k at c1 ⊢
 by_cases h1 : k = 1
 · subst h1
   go_enter Tryz.func93, Tryz.ntmps93
   go_wp2_with (first | (go_at_call 100; refine (c1 _).mono ?_; rintro e w' ⟨rfl, hb⟩; have hb := hidIt hb))
   go_ret
   exact ⟨rfl, hb.out⟩
 · by_cases h2 : k = 2
   · subst h2
     go_enter Tryz.func93, Tryz.ntmps93
     go_wp2_with (first | (go_at_call 100; refine (c1 _).mono ?_; rintro e w' ⟨rfl, hb⟩; have hb := hidIt hb))
     go_ret
     exact ⟨rfl, hb.out⟩
   · by_cases h3 : k = 3
     · subst h3
       go_enter Tryz.func93, Tryz.ntmps93
       go_wp2_with (first | (go_at_call 100; refine (c1 _).mono ?_; rintro e w' ⟨rfl, hb⟩; have hb := hidIt hb))
       go_ret
       exact ⟨rfl, hb.out⟩
     · have e1 : ((k : Int) == 1) = false := by simp; omega
       have e2 : ((k : Int) == 2) = false := by simp; omega
       have e3 : ((k : Int) == 3) = false := by simp; omega
       rw [decide_eq_false h1, decide_eq_false h2, decide_eq_false h3]
       clear h1 h2 h3
       go_enter Tryz.func93, Tryz.ntmps93
       go_wp2_with (first | (go_at_call 100; refine (c1 _).mono ?_; rintro e w' ⟨rfl, hb⟩; have hb := hidIt hb))
       go_ret
       exact ⟨rfl, hb.out⟩

end Go.Proofs.YtlppbgmcoknliaaGreatDoor
