/-
  The walks of the document's letter, digit, sign, Words, Find and Word.
-/
import Derived.Test.YtlppbgmcoknliaaGreatDoorName
import Derived.Laws.OwnMore
namespace Go.Proofs.YtlppbgmcoknliaaGreatDoor
set_option linter.unusedVariables false
open Go.RowKit

set_option maxHeartbeats 400000 in
theorem rletter_any (b : UInt8) (w : World) :
    Calls Tryz.prog 124 #[.int .u8 (b.toNat : Int)] w fun e w' => e = .returned (.bool (isLetter b)) ∧ w = w' := by
  have hl : isLetter b = (decide ((97 : Int) ≤ (b.toNat : Int)) && decide ((b.toNat : Int) ≤ 122)) := by
    unfold isLetter
    rw [decide_eq_decide.2 (show (97 ≤ b.toNat) ↔ ((97 : Int) ≤ (b.toNat : Int)) by omega), decide_eq_decide.2 (show (b.toNat ≤ 122) ↔ ((b.toNat : Int) ≤ 122) by omega)]
  generalize b.toNat = n at hl ⊢
  rw [hl]
  clear hl
  by_cases h1 : (97 : Int) ≤ (n : Int)
  · go_enter Tryz.func124, Tryz.ntmps124
    go_wp2
    go_ret
    exact ⟨by simp [h1], rfl⟩
  · go_enter Tryz.func124, Tryz.ntmps124
    go_wp2
    go_ret
    exact ⟨by simp; omega, rfl⟩

set_option maxHeartbeats 400000 in
theorem rdigit_any (b : UInt8) (w : World) :
    Calls Tryz.prog 125 #[.int .u8 (b.toNat : Int)] w fun e w' => e = .returned (.bool (isDigit b)) ∧ w = w' := by
  have hl : isDigit b = (decide ((48 : Int) ≤ (b.toNat : Int)) && decide ((b.toNat : Int) ≤ 57)) := by
    unfold isDigit
    rw [decide_eq_decide.2 (show (48 ≤ b.toNat) ↔ ((48 : Int) ≤ (b.toNat : Int)) by omega), decide_eq_decide.2 (show (b.toNat ≤ 57) ↔ ((b.toNat : Int) ≤ 57) by omega)]
  generalize b.toNat = n at hl ⊢
  rw [hl]
  clear hl
  by_cases h1 : (48 : Int) ≤ (n : Int)
  · go_enter Tryz.func125, Tryz.ntmps125
    go_wp2
    go_ret
    exact ⟨by simp [h1], rfl⟩
  · go_enter Tryz.func125, Tryz.ntmps125
    go_wp2
    go_ret
    exact ⟨by simp; omega, rfl⟩

/-- A text's place in a list, from k on; -1: there is none. -/
def findI (s : List UInt8) : List ByteArray → Nat → Int
  | [], _ => -1
  | x :: l, k => if x.data.toList = s then k else findI s l (k + 1)
theorem findI_in (s : List UInt8) : ∀ (l : List ByteArray) (k : Nat), decide (0 ≤ findI s l k) = (l.map (·.data.toList)).contains s
  | [], k => by simp [findI]
  | x :: l, k => by
    have ih := findI_in s l (k + 1)
    unfold findI
    rw [List.map_cons, List.contains_cons]
    by_cases h : x.data.toList = s
    · rw [if_pos h]; simp [h]
    · rw [if_neg h, ih]
      have : (s == x.data.toList) = false := by simp; exact fun e => h e.symm
      rw [this, Bool.false_or]
theorem findI_no {xs : List ByteArray} {s : List UInt8} {k : Nat} {N : Int} (h : k < xs.length) (hx : ¬ xs[k].data.toList = s) (hN : N = findI s (xs.drop k) k) : N = findI s (xs.drop (k + 1)) (k + 1) := by
  rw [hN, List.drop_eq_getElem_cons h, findI, if_neg hx]
theorem findI_yes {xs : List ByteArray} {s : List UInt8} {k : Nat} {N : Int} (h : k < xs.length) (hx : xs[k].data.toList = s) (hN : N = findI s (xs.drop k) k) : N = k := by
  rw [hN, List.drop_eq_getElem_cons h, findI, if_pos hx]
theorem findI_end {xs : List ByteArray} {s : List UInt8} {N : Int} (hN : N = findI s (xs.drop xs.length) xs.length) : N = -1 := by
  rw [hN, List.drop_length, findI]

theorem strs_at {w : World} {B : Nat} {ao : Option Addr} {cap : Nat} {xs : List ByteArray} (h : w.ownsRow B 9 1 (.slice ao xs.length cap) xs.length (xs.map .string)) {k : Nat} (hk : k < xs.length) :
    ∃ g, ao = some ⟨g, 0, none⟩ ∧ w.cell? ⟨g, k, none⟩ = some (.string xs[k]) := by
  rcases h.2 with ⟨_, h0⟩ | ⟨g, cap', cur, hv, hB, hg, hle, _, hsz, htk⟩
  · omega
  · injection hv with h1 h2 h3
    subst h1 h3
    exact ⟨g, rfl, (h.cellAt k (by omega)).trans (by rw [List.getElem?_map, List.getElem?_eq_getElem hk]; rfl)⟩

set_option maxHeartbeats 1000000 in
theorem rfind_any (xs : List ByteArray) (s : ByteArray) (ao : Option Addr) (cap B : Nat) (w : World) (h : w.ownsRow B 9 1 (.slice ao xs.length cap) xs.length (xs.map .string)) (hc : xs.length ≤ 1000000) :
    Calls Tryz.prog 126 #[.slice ao xs.length cap, .string s] w fun e w' => e = .returned (.int .i64 (findI s.data.toList xs 0)) ∧ w = w' := by
  have H := hidIt h
  have hst : Hid (findI s.data.toList xs 0 = findI s.data.toList (xs.drop 0) 0) := hidIt rfl
  clear h
  generalize findI s.data.toList xs 0 = N at hst ⊢
  go_enter Tryz.func126, Tryz.ntmps126
  go_wp2
  go_loopw [5] (fun i wr => ∃ k : Nat, k ≤ xs.length ∧ i = .int .i64 k ∧ wr = w ∧ Hid (N = findI s.data.toList (xs.drop k) k)) (fun i _ => xs.length - (intOf i).toNat)
  case atStart => exact ⟨0, Nat.zero_le _, rfl, rfl, hst⟩
  case round =>
    clear hst
    obtain ⟨k, hk, rfl, rfl, hN⟩ := hrel
    by_cases hlt : k < xs.length
    · obtain ⟨g, rfl, c0⟩ := strs_at H.out hlt
      have ht : xs[k].toList = xs[k].data.toList := ByteArray.toList_eq _
      have ht2 : s.toList = s.data.toList := ByteArray.toList_eq _
      by_cases hb : xs[k].data.toList = s.data.toList
      · have hN2 := hidIt (findI_yes hlt hb hN.out)
        have hbb : (xs[k].toList == s.toList) = true := by rw [ht, ht2, hb]; simp
        generalize xs[k] = T at c0 hbb
        clear hN hb ht ht2
        go_wp2
        go_ret
        exact ⟨by rw [hN2.out]; rfl, rfl⟩
      · have hN2 := hidIt (findI_no hlt hb hN.out)
        have hbb : (xs[k].toList == s.toList) = false := by rw [ht, ht2]; simpa using hb
        generalize xs[k] = T at c0 hbb
        clear hN hb ht ht2
        go_wp2
        go_roundw
        case rel => exact ⟨k + 1, by omega, by go_num, trivial, hN2⟩
        case measure => simp [intOf]; omega
    · obtain rfl : k = xs.length := by omega
      have hN2 := hidIt (findI_end hN.out)
      clear hN
      go_wp2
      go_ret
      exact ⟨by rw [hN2.out]; rfl, rfl⟩

def wordsB : List ByteArray := words.map fun l => ⟨l.toArray⟩
theorem wordsB_list : wordsB.map (·.data.toList) = words := by
  unfold wordsB
  rw [List.map_map]
  exact (List.map_congr_left fun l _ => rfl).trans (List.map_id _)
theorem words_len : wordsB.length = 24 := rfl

set_option maxHeartbeats 1000000 in
theorem rwords_any (w : World) :
    Calls Tryz.prog 127 #[] w fun e w' => e = .returned (.slice (some ⟨w.heap.size, 0, none⟩) 24 24) ∧ w'.ownsRow w.heap.size 9 1 (.slice (some ⟨w.heap.size, 0, none⟩) 24 24) 24 (wordsB.map .string) ∧ Below w.heap.size w w' := by
  have hq := hidIt (World.ownsRow_lit (base := w.heap.size) (e := 9) (size := 1) w (wordsB.map Value.string).toArray 24 (Nat.le_refl _) (by decide) (by simp [words_len]))
  go_enter Tryz.func127, Tryz.ntmps127
  go_wp2
  go_ret
  exact ⟨rfl, hq.out, below_new w _⟩

set_option maxHeartbeats 1000000 in
theorem rword_any (s : ByteArray) (w : World) :
    Calls Tryz.prog 89 #[.string s] w fun e w' => e = .returned (.bool (isWord s.data.toList)) ∧ Below w.heap.size w w' := by
  have c1 := fun w => rwords_any w
  have hw : isWord s.data.toList = decide (0 ≤ findI s.data.toList wordsB 0) := by
    rw [findI_in, wordsB_list]; rfl
  rw [hw]
  clear hw
  have c2 := hidIt fun (B g : Nat) (w : World) (h : w.ownsRow B 9 1 (.slice (some ⟨g, 0, none⟩) 24 24) 24 (wordsB.map .string)) => rfind_any wordsB s (some ⟨g, 0, none⟩) 24 B w h (by decide)
  generalize findI s.data.toList wordsB 0 = N at c2 ⊢
  go_enter Tryz.func89, Tryz.ntmps89
  go_wp2_with (go_at_call 127; refine (c1 _).mono ?_)
  rintro e w1 ⟨rfl, ho, hb⟩
  have c3 := c2.out _ _ _ ho
  have hb := hidIt hb
  clear c1 c2 ho
  rw [words_len] at c3
  go_wp2_with (go_at_call 126; refine c3.mono ?_; rintro e w' ⟨rfl, rfl⟩)
  go_ret
  exact ⟨rfl, hb.out⟩
end Go.Proofs.YtlppbgmcoknliaaGreatDoor
