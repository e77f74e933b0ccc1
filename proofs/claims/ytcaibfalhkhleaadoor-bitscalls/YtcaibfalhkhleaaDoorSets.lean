/-
  A set as data: its bound, and of each number whether it is in it; the words that this is written as, and what the calls make of it. No program here.
-/
import Derived.Test.YtcaibfalhkhleaaDoorNum
namespace Go.Proofs.YtcaibfalhkhleaaDoor
set_option linter.unusedVariables false

/-- The number whose bits are f's first k. -/
def ofB (f : Nat → Bool) : Nat → Nat
  | 0 => 0
  | k + 1 => ofB f k + if f k then 2 ^ k else 0
theorem ofB_lt (f : Nat → Bool) (k : Nat) : ofB f k < 2 ^ k := by
  induction k with
  | zero => simp [ofB]
  | succ k ih =>
    rw [ofB, Nat.pow_succ]
    split <;> omega
theorem ofB_bit (f : Nat → Bool) (k i : Nat) : (ofB f k).testBit i = (decide (i < k) && f i) := by
  induction k with
  | zero => simp [ofB]
  | succ k ih =>
    have hl := ofB_lt f k
    rw [ofB]
    cases hf : f k with
    | false =>
      simp only [Bool.false_eq_true, if_false, Nat.add_zero]
      rw [ih]
      by_cases h : i = k
      · subst h
        simp [hf]
      · have : (i < k + 1) ↔ (i < k) := by omega
        simp [this]
    | true =>
      simp only [if_true]
      rw [show ofB f k + 2 ^ k = 2 ^ k * 1 + ofB f k from by omega, Nat.testBit_two_pow_mul_add _ hl]
      by_cases h : i < k
      · rw [if_pos h, ih]
        simp [h, show i < k + 1 from by omega]
      · rw [if_neg h]
        by_cases h2 : i = k
        · subst h2
          simp [hf]
        · have h4 : ¬ i < k + 1 := by omega
          obtain ⟨d, hd⟩ : ∃ d, i - k = d + 1 := ⟨i - k - 1, by omega⟩
          rw [hd, Nat.testBit_succ]
          simp [h4]

/-- Word i of a set. -/
def wd (p : Nat → Bool) (i : Nat) : Nat := ofB (fun j => p (64 * i + j)) 64
theorem wd_lt (p : Nat → Bool) (i : Nat) : wd p i < 18446744073709551616 := ofB_lt _ 64
theorem wd_bit (p : Nat → Bool) (i j : Nat) : (wd p i).testBit j = (decide (j < 64) && p (64 * i + j)) := ofB_bit _ 64 j
theorem wd_at (p : Nat → Bool) (n : Nat) : (wd p (n / 64)).testBit (n % 64) = p n := by
  rw [wd_bit, show 64 * (n / 64) + n % 64 = n from by omega]
  simp [show n % 64 < 64 from by omega]
/-- What a word is. -/
theorem wd_eq {p : Nat → Bool} {i v : Nat} (hv : v < 18446744073709551616) (h : ∀ j, j < 64 → v.testBit j = p (64 * i + j)) : v = wd p i := by
  apply Nat.eq_of_testBit_eq
  intro j
  rw [wd_bit]
  by_cases hj : j < 64
  · simp [hj, h j hj]
  · rw [Nat.testBit_lt_two_pow (Nat.lt_of_lt_of_le hv (Nat.pow_le_pow_right (by omega : 0 < 2) (by omega : 64 ≤ j)))]
    simp [hj]
theorem wd_congr {p q : Nat → Bool} {i : Nat} (h : ∀ j, j < 64 → p (64 * i + j) = q (64 * i + j)) : wd p i = wd q i :=
  wd_eq (wd_lt p i) fun j hj => by rw [wd_bit]; simp [hj, h j hj]
theorem wd_inj {p q : Nat → Bool} {i : Nat} (h : wd p i = wd q i) : ∀ j, j < 64 → p (64 * i + j) = q (64 * i + j) := by
  intro j hj
  have h1 := wd_bit p i j
  have h2 := wd_bit q i j
  rw [h, h2] at h1
  simpa [hj] using h1.symm

/-- A number is in it, or isn't. -/
def upd (p : Nat → Bool) (n : Nat) (v : Bool) : Nat → Bool := fun k => if k = n then v else p k
theorem upd_same (p : Nat → Bool) (n : Nat) (v : Bool) : upd p n v n = v := by simp [upd]
theorem upd_self {p : Nat → Bool} {n : Nat} {v : Bool} (h : p n = v) : upd p n v = p := by
  funext k
  unfold upd
  split
  · rename_i e
    rw [e, h]
  · rfl

theorem and_bit (p : Nat → Bool) (n : Nat) : ((wd p (n / 64) &&& 2 ^ (n % 64)) ≠ 0) = (p n = true) := by
  rw [← wd_at p n]
  apply propext
  constructor
  · intro h
    cases hb : (wd p (n / 64)).testBit (n % 64) with
    | true => rfl
    | false =>
      exfalso
      apply h
      apply Nat.eq_of_testBit_eq
      intro i
      rw [Nat.testBit_and, Nat.testBit_two_pow]
      by_cases e : n % 64 = i
      · subst e
        simp [hb]
      · simp [e]
  · intro h e
    have h2 : (wd p (n / 64) &&& 2 ^ (n % 64)).testBit (n % 64) = true := by
      rw [Nat.testBit_and, Nat.testBit_two_pow, h]
      simp
    rw [e] at h2
    simp at h2
theorem bit_lt (n : Nat) : 2 ^ (n % 64) < 18446744073709551616 := by
  have : 2 ^ (n % 64) < 2 ^ 64 := Nat.pow_lt_pow_right (by omega) (by omega)
  simpa using this
theorem or_bit (p : Nat → Bool) (n : Nat) : wd p (n / 64) ||| 2 ^ (n % 64) = wd (upd p n true) (n / 64) := by
  refine wd_eq (Nat.or_lt_two_pow (n := 64) (wd_lt p _) (bit_lt n)) fun j hj => ?_
  rw [Nat.testBit_or, wd_bit, Nat.testBit_two_pow, upd]
  by_cases e : n % 64 = j
  · have : 64 * (n / 64) + j = n := by omega
    simp [e, this]
  · have : ¬ 64 * (n / 64) + j = n := by omega
    simp [e, this, hj]
theorem not_bit (b i : Nat) (hb : b < 18446744073709551616) (hi : i < 64) : (18446744073709551615 - b).testBit i = !b.testBit i := by
  have := Nat.testBit_two_pow_sub_succ (x := b) (n := 64) hb i
  rw [show (2 : Nat) ^ 64 - (b + 1) = 18446744073709551615 - b from by omega] at this
  rw [this]
  simp [hi]
theorem andNot_bit (p : Nat → Bool) (n : Nat) : wd p (n / 64) &&& (18446744073709551615 - 2 ^ (n % 64)) = wd (upd p n false) (n / 64) := by
  refine wd_eq (Nat.and_lt_two_pow (n := 64) _ (Nat.lt_of_le_of_lt (Nat.sub_le _ _) (by decide))) fun j hj => ?_
  rw [Nat.testBit_and, wd_bit, not_bit _ _ (bit_lt n) hj, Nat.testBit_two_pow, upd]
  by_cases e : n % 64 = j
  · have : 64 * (n / 64) + j = n := by omega
    simp [e, this]
  · have : ¬ 64 * (n / 64) + j = n := by omega
    simp [e, this, hj]
theorem upd_other (p : Nat → Bool) (n i : Nat) (v : Bool) (h : i ≠ n / 64) : wd (upd p n v) i = wd p i := by
  refine wd_congr fun j hj => ?_
  unfold upd
  rw [if_neg (by omega)]

/-- How many words a bound has. -/
def nw (b : Nat) : Nat := (b + 63) / 64
/-- It has numbers within its bound alone. -/
def Fits (b : Nat) (p : Nat → Bool) : Prop := b ≤ 65536 ∧ ∀ n, p n = true → n < b
theorem nw_le (b : Nat) : b ≤ 64 * nw b := by unfold nw; omega
theorem nw_lt {b n : Nat} (h : n < b) : n / 64 < nw b := by unfold nw; omega
theorem Fits.nwLe {b : Nat} {p : Nat → Bool} (h : Fits b p) : nw b ≤ 1024 := by have := h.1; unfold nw; omega
theorem Fits.out {b : Nat} {p : Nat → Bool} (h : Fits b p) {n : Nat} (hn : b ≤ n) : p n = false := by
  cases hp : p n with
  | false => rfl
  | true => have := h.2 n hp; omega
theorem Fits.zero {b : Nat} {p : Nat → Bool} (h : Fits b p) {i : Nat} (hi : nw b ≤ i) : wd p i = 0 := by
  refine (wd_eq (by omega) fun j hj => ?_).symm
  rw [h.out (by have := nw_le b; omega)]
  simp
theorem Fits.updF {b : Nat} {p : Nat → Bool} (h : Fits b p) {n : Nat} (hn : n < b) (v : Bool) : Fits b (upd p n v) := by
  refine ⟨h.1, fun k hk => ?_⟩
  unfold upd at hk
  split at hk
  · omega
  · exact h.2 k hk

/-- What is left within the bound. -/
def cutP (b : Nat) (p : Nat → Bool) : Nat → Bool := fun n => decide (n < b) && p n
theorem cutP_fits {b : Nat} (hb : b ≤ 65536) (p : Nat → Bool) : Fits b (cutP b p) := ⟨hb, fun n h => by simp [cutP] at h; exact h.1⟩
theorem Fits.cut {b : Nat} {p : Nat → Bool} (h : Fits b p) : cutP b p = p := by
  funext n
  unfold cutP
  by_cases hn : n < b
  · simp [hn]
  · rw [h.out (by omega)]
    simp
/-- A bound that is a word's whole size: nothing lies behind it. -/
theorem cut_whole {b : Nat} (p : Nat → Bool) (h : b % 64 = 0) {i : Nat} (hi : i < nw b) : wd (cutP b p) i = wd p i := by
  refine wd_congr fun j hj => ?_
  unfold cutP
  unfold nw at hi
  simp
  omega
theorem cut_inner {b : Nat} (p : Nat → Bool) {i : Nat} (hi : i + 1 < nw b) : wd (cutP b p) i = wd p i := by
  refine wd_congr fun j hj => ?_
  unfold cutP
  unfold nw at hi
  simp
  omega
theorem cut_last {b : Nat} (p : Nat → Bool) (h : b % 64 ≠ 0) : wd p (nw b - 1) &&& (2 ^ (b % 64) - 1) = wd (cutP b p) (nw b - 1) := by
  refine wd_eq (Nat.and_lt_two_pow (n := 64) _ (by have := bit_lt b; omega)) fun j hj => ?_
  rw [Nat.testBit_and, wd_bit, Nat.testBit_two_pow_sub_one, cutP]
  have e : (j < b % 64) ↔ (64 * (nw b - 1) + j < b) := by unfold nw; omega
  by_cases hj2 : j < b % 64
  · have := e.1 hj2
    simp [hj2, this, hj]
  · have : ¬ 64 * (nw b - 1) + j < b := fun x => hj2 (e.2 x)
    simp [hj2, this]

/-- The numbers that are in it, rising. -/
def nums (b : Nat) (p : Nat → Bool) : List Nat := (List.range b).filter p
theorem word_bits (p : Nat → Bool) (i : Nat) : (bitsOf (wd p i)).map (fun j => 64 * i + j) = ((List.range 64).map (fun j => 64 * i + j)).filter p := by
  rw [List.filter_map]
  unfold bitsOf
  congr 1
  refine List.filter_congr fun j hj => ?_
  have := List.mem_range.1 hj
  rw [wd_bit]
  simp [this]
theorem words_nums (p : Nat → Bool) (k : Nat) : (List.range k).flatMap (fun i => (bitsOf (wd p i)).map (fun j => 64 * i + j)) = (List.range (64 * k)).filter p := by
  induction k with
  | zero => simp
  | succ k ih =>
    rw [List.range_succ, List.flatMap_append, ih, Nat.mul_add, Nat.mul_one, List.range_add, List.filter_append]
    simp [word_bits]
theorem nums_more {b : Nat} {p : Nat → Bool} (h : ∀ n, p n = true → n < b) {c : Nat} (hc : b ≤ c) : (List.range c).filter p = nums b p := by
  obtain ⟨d, rfl⟩ : ∃ d, c = b + d := ⟨c - b, by omega⟩
  rw [List.range_add, List.filter_append, nums]
  have : ((List.range d).map (b + ·)).filter p = [] := by
    rw [List.filter_eq_nil_iff]
    intro x hx hp
    obtain ⟨j, _, rfl⟩ := List.mem_map.1 hx
    have := h _ hp
    omega
  rw [this, List.append_nil]
theorem Fits.all {b : Nat} {p : Nat → Bool} (h : Fits b p) : (List.range (nw b)).flatMap (fun i => (bitsOf (wd p i)).map (fun j => 64 * i + j)) = nums b p := by
  rw [words_nums, nums_more h.2 (nw_le b)]
theorem words_count (p : Nat → Bool) (k : Nat) : ((List.range k).map (fun i => ones 64 (wd p i))).sum = ((List.range (64 * k)).filter p).length := by
  rw [← words_nums, List.length_flatMap]
  simp only [List.length_map, bitsOf_length]
theorem mem_nums {b n : Nat} {p : Nat → Bool} : n ∈ nums b p ↔ n < b ∧ p n = true := by simp [nums]
theorem nums_le (b : Nat) (p : Nat → Bool) : (nums b p).length ≤ b := by
  have := List.length_filter_le p (List.range b)
  simpa [nums] using this

/-- New: those of a list that are within the bound. -/
def ofL (b : Nat) : List Int → (Nat → Bool) := fun l n => decide (n < b) && decide ((n : Int) ∈ l)
theorem ofL_fits {b : Nat} (hb : b ≤ 65536) (l : List Int) : Fits b (ofL b l) := ⟨hb, fun n h => by simp [ofL] at h; exact h.1⟩
/-- Add. -/
def addP (b : Nat) (p : Nat → Bool) (k : Int) : Nat → Bool := if 0 ≤ k ∧ k < b then upd p k.toNat true else p
def hasP (p : Nat → Bool) (k : Int) : Bool := decide (0 ≤ k) && p k.toNat
def cutN (p : Nat → Bool) (k : Int) : Nat → Bool := if 0 ≤ k then upd p k.toNat false else p
theorem addP_fits {b : Nat} {p : Nat → Bool} (h : Fits b p) (k : Int) : Fits b (addP b p k) := by
  unfold addP
  split
  · exact h.updF (by omega) true
  · exact h
theorem cutN_fits {b : Nat} {p : Nat → Bool} (h : Fits b p) (k : Int) : Fits b (cutN p k) := by
  unfold cutN
  split
  · refine ⟨h.1, fun n hn => ?_⟩
    unfold upd at hn
    split at hn
    · simp at hn
    · exact h.2 n hn
  · exact h
theorem addP_ofL (b : Nat) (l : List Int) (k : Int) : addP b (ofL b l) k = ofL b (l ++ [k]) := by
  funext n
  unfold addP ofL
  split
  · rename_i h
    unfold upd
    split
    · rename_i e
      subst e
      simp [show ((k.toNat : Nat) : Int) = k from by omega]
      omega
    · rename_i e
      have : ¬ (n : Int) = k := by omega
      simp [this]
  · rename_i h
    by_cases hn : n < b
    · have : ¬ (n : Int) = k := by omega
      simp [this]
    · simp [hn]
theorem ofL_nil (b : Nat) : ofL b [] = fun _ => false := by funext n; simp [ofL]
theorem hasP_fits {b : Nat} {p : Nat → Bool} (h : Fits b p) {k : Int} (hk : (b : Int) ≤ k) : hasP p k = false := by
  unfold hasP
  rw [h.out (by omega)]
  simp
end Go.Proofs.YtcaibfalhkhleaaDoor
