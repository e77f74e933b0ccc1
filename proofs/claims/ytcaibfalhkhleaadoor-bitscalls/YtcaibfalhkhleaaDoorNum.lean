/-
  Words of 64 bits as rows of truth values: how many ones there are (the sum by halves that math/bits takes), the lowest one, and what is left without it. No program here.
-/
import Derived.Lib.TrailingZeros
namespace Go.Proofs.YtcaibfalhkhleaaDoor
set_option linter.unusedVariables false

/-- How many of the first f bits are 1. -/
def ones : Nat → Nat → Nat
  | 0, _ => 0
  | f + 1, x => x % 2 + ones f (x / 2)

theorem ones_count (f x : Nat) : ones f x = (List.range f).countP x.testBit := by
  induction f generalizing x with
  | zero => rfl
  | succ f ih =>
    rw [ones, ih, List.range_succ_eq_map, List.countP_cons, List.countP_map]
    have e : (x.testBit ∘ Nat.succ) = (x / 2).testBit := by
      funext i
      simp [Nat.testBit_succ]
    rw [e, Nat.testBit_zero]
    by_cases h : x % 2 = 1 <;> simp [h] <;> omega

theorem ones_add (f g x : Nat) : ones (f + g) x = ones f x + ones g (x / 2 ^ f) := by
  induction f generalizing x with
  | zero => simp [ones]
  | succ f ih =>
    rw [show f + 1 + g = (f + g) + 1 from by omega, ones, ih, ones, Nat.div_div_eq_div_mul, show 2 * 2 ^ f = 2 ^ (f + 1) from (Nat.pow_succ').symm]
    omega
theorem ones_mod (f x : Nat) : ones f (x % 2 ^ f) = ones f x := by
  induction f generalizing x with
  | zero => rfl
  | succ f ih =>
    rw [ones, ones]
    have e1 : x % 2 ^ (f + 1) % 2 = x % 2 := Nat.mod_mod_of_dvd _ (by rw [Nat.pow_succ]; exact Nat.dvd_mul_left _ _)
    have e2 : x % 2 ^ (f + 1) / 2 = x / 2 % 2 ^ f := by
      rw [Nat.pow_succ', Nat.mod_mul_right_div_self]
    rw [e1, e2, ih]

/-- A byte's mask, over k bytes. -/
def msk (b : Nat) : Nat → Nat
  | 0 => 0
  | k + 1 => b + 256 * msk b k

theorem msk_succ (b k : Nat) : msk b (k + 1) = b + 256 * msk b k := rfl
theorem land_split (u p q : Nat) (hp : p < 256) : u &&& (p + 256 * q) = (u % 256 &&& p) + 256 * (u / 256 &&& q) := by
  have h1 : (u &&& (p + 256 * q)) % 2 ^ 8 = u % 256 &&& p := by
    rw [Nat.and_mod_two_pow]
    congr 1
    omega
  have h2 : (u &&& (p + 256 * q)) / 2 ^ 8 = u / 256 &&& q := by
    rw [Nat.and_div_two_pow]
    congr 1
    omega
  omega

def stA (k x : Nat) : Nat := (x / 2 &&& msk 85 k) + (x &&& msk 85 k)
def stB (k x : Nat) : Nat := (x / 4 &&& msk 51 k) + (x &&& msk 51 k)
def stC (k x : Nat) : Nat := (x / 16 + x) &&& msk 15 k
def a1 (b : Nat) : Nat := (b / 2 &&& 85) + (b &&& 85)
def b1 (b : Nat) : Nat := (b / 4 &&& 51) + (b &&& 51)

theorem half_at : ∀ y, y < 512 → (y / 2 % 256 &&& 85) = (y % 256 / 2 &&& 85) := by decide +kernel
theorem quarter_at : ∀ y, y < 1024 → (y / 4 % 256 &&& 51) = (y % 256 / 4 &&& 51) := by decide +kernel

theorem stA_succ (k x : Nat) : stA (k + 1) x = a1 (x % 256) + 256 * stA k (x / 256) := by
  have h := half_at (x % 512) (by omega)
  have e1 : x % 512 / 2 % 256 = x / 2 % 256 := by omega
  have e2 : x % 512 % 256 = x % 256 := by omega
  rw [e1, e2] at h
  have e3 : x / 2 / 256 = x / 256 / 2 := by omega
  unfold stA a1
  rw [msk_succ, land_split _ _ _ (by omega), land_split _ _ _ (by omega), h, e3]
  omega
theorem stB_succ (k x : Nat) : stB (k + 1) x = b1 (x % 256) + 256 * stB k (x / 256) := by
  have h := quarter_at (x % 1024) (by omega)
  have e1 : x % 1024 / 4 % 256 = x / 4 % 256 := by omega
  have e2 : x % 1024 % 256 = x % 256 := by omega
  rw [e1, e2] at h
  have e3 : x / 4 / 256 = x / 256 / 4 := by omega
  unfold stB b1
  rw [msk_succ, land_split _ _ _ (by omega), land_split _ _ _ (by omega), h, e3]
  omega

theorem byte_at : ∀ b, b < 256 → a1 b < 256 ∧ b1 (a1 b) < 256 ∧ b1 (a1 b) % 16 ≤ 4 ∧ b1 (a1 b) / 16 ≤ 4 ∧ b1 (a1 b) / 16 + b1 (a1 b) % 16 = ones 8 b := by decide +kernel

/-- Two sums of halves, byte by byte. -/
theorem stBA_succ (k x : Nat) : stB (k + 1) (stA (k + 1) x) = b1 (a1 (x % 256)) + 256 * stB k (stA k (x / 256)) := by
  have hb := byte_at (x % 256) (by omega)
  rw [stA_succ, stB_succ]
  have e1 : (a1 (x % 256) + 256 * stA k (x / 256)) % 256 = a1 (x % 256) := by omega
  have e2 : (a1 (x % 256) + 256 * stA k (x / 256)) / 256 = stA k (x / 256) := by omega
  rw [e1, e2]
theorem stBA_low (k x : Nat) : stB k (stA k x) % 16 ≤ 4 := by
  cases k with
  | zero => simp [stB, stA, msk]
  | succ k =>
    have hb := byte_at (x % 256) (by omega)
    rw [stBA_succ]
    omega

def swar (k x : Nat) : Nat := stC k (stB k (stA k x))
theorem swar_succ (k x : Nat) : swar (k + 1) x = ones 8 (x % 256) + 256 * swar k (x / 256) := by
  have hb := byte_at (x % 256) (by omega)
  have hl := stBA_low k (x / 256)
  unfold swar stC
  rw [stBA_succ]
  generalize stB k (stA k (x / 256)) = Z at hl ⊢
  generalize b1 (a1 (x % 256)) = z at hb ⊢
  rw [msk_succ, land_split _ _ _ (by omega)]
  have e1 : ((z + 256 * Z) / 16 + (z + 256 * Z)) % 256 = z / 16 + z + 16 * (Z % 16) := by omega
  have e2 : ((z + 256 * Z) / 16 + (z + 256 * Z)) / 256 = Z / 16 + Z := by omega
  rw [e1, e2, ← hb.2.2.2.2]
  have e3 : (z / 16 + z + 16 * (Z % 16) &&& 15) = (z / 16 + z + 16 * (Z % 16)) % 16 := Nat.and_two_pow_sub_one_eq_mod _ 4
  rw [e3]
  omega

theorem ones_bytes (k x : Nat) : ones (8 * (k + 1)) x = ones 8 (x % 256) + ones (8 * k) (x / 256) := by
  rw [show 8 * (k + 1) = 8 + 8 * k from by omega, ones_add]
  have := ones_mod 8 x
  simp at this ⊢
  omega
theorem ones_le (f x : Nat) : ones f x ≤ f := by
  rw [ones_count]
  have := List.countP_le_length (p := x.testBit) (l := List.range f)
  simpa using this

theorem masks : msk 85 8 = 6148914691236517205 ∧ msk 51 8 = 3689348814741910323 ∧ msk 15 8 = 1085102592571150095 := by decide

/-- THE SUM BY HALVES IS HOW MANY ONES THERE ARE. -/
theorem swar_sum (x : Nat) : ∃ c, swar 8 x = c ∧ c < 18446744073709551616 / 16 ∧ (c + c / 256 + (c + c / 256) / 65536 + (c + c / 256 + (c + c / 256) / 65536) / 4294967296) % 128 = ones 64 x := by
  refine ⟨_, rfl, ?_⟩
  have h0 : swar 0 (x / 256 / 256 / 256 / 256 / 256 / 256 / 256 / 256) = 0 := by simp [swar, stC, stB, stA, msk]
  have e : ones 64 x = ones (8 * (7 + 1)) x := rfl
  rw [e]
  simp only [swar_succ, ones_bytes, h0]
  have l0 := ones_le 8 (x % 256)
  have l1 := ones_le 8 (x / 256 % 256)
  have l2 := ones_le 8 (x / 256 / 256 % 256)
  have l3 := ones_le 8 (x / 256 / 256 / 256 % 256)
  have l4 := ones_le 8 (x / 256 / 256 / 256 / 256 % 256)
  have l5 := ones_le 8 (x / 256 / 256 / 256 / 256 / 256 % 256)
  have l6 := ones_le 8 (x / 256 / 256 / 256 / 256 / 256 / 256 % 256)
  have l7 := ones_le 8 (x / 256 / 256 / 256 / 256 / 256 / 256 / 256 % 256)
  generalize ones 8 (x % 256) = p0 at *
  generalize ones 8 (x / 256 % 256) = p1 at *
  generalize ones 8 (x / 256 / 256 % 256) = p2 at *
  generalize ones 8 (x / 256 / 256 / 256 % 256) = p3 at *
  generalize ones 8 (x / 256 / 256 / 256 / 256 % 256) = p4 at *
  generalize ones 8 (x / 256 / 256 / 256 / 256 / 256 % 256) = p5 at *
  generalize ones 8 (x / 256 / 256 / 256 / 256 / 256 / 256 % 256) = p6 at *
  generalize ones 8 (x / 256 / 256 / 256 / 256 / 256 / 256 / 256 % 256) = p7 at *
  simp only [ones, Nat.mul_zero, Nat.add_zero]
  obtain ⟨C6, h6⟩ : ∃ C6, C6 = p6 + 256 * p7 := ⟨_, rfl⟩
  obtain ⟨C5, h5⟩ : ∃ C5, C5 = p5 + 256 * C6 := ⟨_, rfl⟩
  obtain ⟨C4, h4⟩ : ∃ C4, C4 = p4 + 256 * C5 := ⟨_, rfl⟩
  obtain ⟨C3, h3⟩ : ∃ C3, C3 = p3 + 256 * C4 := ⟨_, rfl⟩
  obtain ⟨C2, h2⟩ : ∃ C2, C2 = p2 + 256 * C3 := ⟨_, rfl⟩
  obtain ⟨C1, h1⟩ : ∃ C1, C1 = p1 + 256 * C2 := ⟨_, rfl⟩
  obtain ⟨C0, h0'⟩ : ∃ C0, C0 = p0 + 256 * C1 := ⟨_, rfl⟩
  rw [← h6, ← h5, ← h4, ← h3, ← h2, ← h1, ← h0']
  have d1 : C0 / 256 = C1 := by omega
  have d2 : (C0 + C1) / 65536 = C2 + C3 := by omega
  have d3 : (C0 + C1 + (C2 + C3)) / 65536 = C2 + C3 + C4 + C5 := by omega
  have d4 : (C0 + C1 + (C2 + C3)) / 4294967296 = (C2 + C3 + C4 + C5) / 65536 := by omega
  have d5 : (C2 + C3 + C4 + C5) / 65536 = C4 + C5 + C6 + p7 := by omega
  rw [d1, d2, d4, d5]
  refine ⟨?_, ?_⟩
  · clear d1 d2 d3 d4 d5
    omega
  · clear d1 d2 d3 d4 d5
    omega

/-- The places of the ones. -/
def bitsOf (x : Nat) : List Nat := (List.range 64).filter x.testBit
theorem bitsOf_length (x : Nat) : (bitsOf x).length = ones 64 x := by
  rw [ones_count, bitsOf, List.countP_eq_length_filter]
theorem bitsOf_zero : bitsOf 0 = [] := by simp [bitsOf]

theorem range_at (k d : Nat) : List.range (k + 1 + d) = List.range k ++ k :: (List.range d).map (fun i => k + 1 + i) := by
  rw [List.range_add, List.range_succ]
  simp

theorem low_bits (k m : Nat) (i : Nat) : (2 ^ k * (2 * m + 1)).testBit i = (decide (i = k) || (decide (k < i) && m.testBit (i - k - 1))) := by
  rw [Nat.mul_comm, Nat.testBit_mul_two_pow]
  by_cases h : k ≤ i
  · obtain ⟨d, rfl⟩ : ∃ d, i = k + d := ⟨i - k, by omega⟩
    cases d with
    | zero => simp [Nat.testBit_zero]
    | succ d =>
      have e : k + (d + 1) - k = d + 1 := by omega
      rw [e, Nat.testBit_succ, show (2 * m + 1) / 2 = m from by omega]
      have h1 : ¬ k + (d + 1) = k := by omega
      have h2 : k < k + (d + 1) := by omega
      rw [show d + 1 - 1 = d from rfl]
      simp only [h, h1, h2, decide_true, decide_false, Bool.true_and, Bool.false_or]
  · have h1 : i ≠ k := by omega
    have h2 : ¬ k < i := by omega
    simp [h, h1, h2]
theorem pred_bits (k m : Nat) (i : Nat) : (2 ^ k * (2 * m + 1) - 1).testBit i = (decide (i < k) || (decide (k < i) && m.testBit (i - k - 1))) := by
  have hp : 0 < 2 ^ k := Nat.two_pow_pos k
  have e : 2 ^ k * (2 * m + 1) - 1 = 2 ^ k * (2 * m) + (2 ^ k - 1) := by
    rw [Nat.mul_add]
    omega
  rw [e, Nat.testBit_two_pow_mul_add _ (by omega)]
  by_cases h : i < k
  · rw [if_pos h, Nat.testBit_two_pow_sub_one]
    simp [h]
  · rw [if_neg h]
    by_cases h2 : i = k
    · subst h2
      simp [Nat.testBit_zero]
    · obtain ⟨d, rfl⟩ : ∃ d, i = k + d + 1 := ⟨i - k - 1, by omega⟩
      have h3 : k < k + d + 1 := by omega
      rw [show k + d + 1 - k = d + 1 from by omega, Nat.testBit_succ, show 2 * m / 2 = m from by omega, show d + 1 - 1 = d from rfl]
      simp only [h, h3, decide_true, decide_false, Bool.true_and, Bool.false_or]

/-- The lowest one comes first; x & (x - 1) has the others. -/
theorem bitsOf_low (x : Nat) (h0 : x ≠ 0) (h : x < 2 ^ 64) : bitsOf x = Lib.ctz 64 x :: bitsOf (x &&& (x - 1)) := by
  obtain ⟨m, hm, hk⟩ := Lib.ctzFrom_spec 64 x (by omega) h
  have e : Lib.ctz 64 x = Lib.ctzFrom 64 x := by simp [Lib.ctz, h0]
  rw [e]
  generalize Lib.ctzFrom 64 x = k at hm hk
  unfold bitsOf
  obtain ⟨d, hd⟩ : ∃ d, 64 = k + 1 + d := ⟨64 - k - 1, by omega⟩
  rw [hd, range_at]
  simp only [List.filter_append, List.filter_cons, List.filter_map]
  subst hm
  have z1 : (List.range k).filter (2 ^ k * (2 * m + 1)).testBit = [] := by
    rw [List.filter_eq_nil_iff]
    intro i hi
    have := List.mem_range.1 hi
    rw [low_bits]
    simp
    omega
  have z2 : (List.range k).filter (2 ^ k * (2 * m + 1) &&& (2 ^ k * (2 * m + 1) - 1)).testBit = [] := by
    rw [List.filter_eq_nil_iff]
    intro i hi
    have := List.mem_range.1 hi
    rw [Nat.testBit_and, low_bits]
    have h1 : i ≠ k := by omega
    have h2 : ¬ k < i := by omega
    simp [h1, h2]
  have k1 : (2 ^ k * (2 * m + 1)).testBit k = true := by rw [low_bits]; simp
  have k2 : (2 ^ k * (2 * m + 1) &&& (2 ^ k * (2 * m + 1) - 1)).testBit k = false := by
    rw [Nat.testBit_and, pred_bits]
    simp
  rw [z1, z2, k1, k2]
  simp only [List.nil_append, if_true, Bool.false_eq_true, if_false]
  congr 1
  congr 1
  refine List.filter_congr fun i _ => ?_
  simp only [Function.comp]
  rw [Nat.testBit_and, low_bits, pred_bits]
  have h1 : k < k + 1 + i := by omega
  have h2 : k + 1 + i ≠ k := by omega
  have h3 : ¬ k + 1 + i < k := by omega
  simp [h1, h2, h3]

theorem ctz_lt (x : Nat) (h0 : x ≠ 0) (h : x < 2 ^ 64) : Lib.ctz 64 x < 64 := (Lib.lowest_bit 64 x h0 h).2
theorem and_pred_lt (x : Nat) (h : x < 2 ^ 64) : x &&& (x - 1) < 2 ^ 64 := Nat.and_lt_two_pow _ (by omega)
theorem bitsOf_lt {x i : Nat} (h : i ∈ bitsOf x) : i < 64 := by
  have := (List.mem_filter.1 h).1
  exact List.mem_range.1 this
end Go.Proofs.YtcaibfalhkhleaaDoor
