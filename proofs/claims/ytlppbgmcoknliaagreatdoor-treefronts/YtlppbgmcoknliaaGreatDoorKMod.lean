/-
  Types, as pure functions on lists of bytes. No walk here.
-/
import Derived.Test.YtlppbgmcoknliaaGreatDoorRName
namespace Go.Proofs.YtlppbgmcoknliaaGreatDoor
set_option linter.unusedVariables false
open Go.RowKit

def boxP : List UInt8 := [98, 111, 120, 32]
def refP : List UInt8 := [114, 101, 102, 32]
def mutP : List UInt8 := [109, 117, 116, 32]
def intL : List UInt8 := [105, 110, 116]

/-- The kind of a text with nothing in front. -/
def leafL (l : List UInt8) : Nat := if l = intL then 1 else if nameB l then 2 else 0
/-- At most so many boxes are taken off. -/
def unboxL : Nat → List UInt8 → Nat × List UInt8
  | 0, l => (0, l)
  | n + 1, l => if Lib.hasPrefix l boxP then ((unboxL n (l.drop 4)).1 + 1, (unboxL n (l.drop 4)).2) else (0, l)
def frontL (l : List UInt8) : Nat × List UInt8 :=
  if Lib.hasPrefix l boxP then (3, l.drop 4) else if Lib.hasPrefix l refP then (4, l.drop 4) else if Lib.hasPrefix l mutP then (5, l.drop 4) else (0, [])
structure Parts where
  kind : Nat
  elem : List UInt8
  deep : Nat
  base : List UInt8
  deriving DecidableEq
def noParts : Parts := ⟨0, [], 0, []⟩
def splitL (l : List UInt8) : Parts :=
  let f := frontL l
  let u := unboxL 8 (if f.1 = 4 ∨ f.1 = 5 then f.2 else l)
  if leafL u.2 = 0 then noParts else ⟨if f.1 = 0 then leafL u.2 else f.1, f.2, u.1, u.2⟩

/-- How many boxes a plain type has, of at most n. -/
def plainN (n : Nat) (l : List UInt8) : Option Nat := if leafL (unboxL n l).2 = 0 then none else some (unboxL n l).1

theorem pre_split {p l : List UInt8} (h : Lib.hasPrefix l p = true) : l = p ++ l.drop p.length := by
  unfold Lib.hasPrefix at h
  obtain ⟨r, rfl⟩ := List.isPrefixOf_iff_prefix.1 h
  simp
theorem pre_app (p l : List UInt8) : Lib.hasPrefix (p ++ l) p = true := by
  unfold Lib.hasPrefix
  exact List.isPrefixOf_iff_prefix.2 ⟨l, rfl⟩

/-- A name has no blank. -/
theorem span_blank : ∀ (a r : List UInt8), spanL nameByte (a ++ 32 :: r) ≤ a.length
  | [], r => by simp [spanL, nameByte, isLetter, isDigit]
  | b :: a, r => by
    have := span_blank a r
    simp only [List.cons_append, spanL, List.length_cons]
    split <;> omega
theorem name_blank (a r : List UInt8) : nameB (a ++ 32 :: r) = false := by
  rw [name_ok]
  cases a with
  | nil => simp [okAt, isLetter]
  | cons b a =>
    have h := span_blank a r
    have : okAt 0 (b :: (a ++ 32 :: r)) = false := by
      rw [okAt, okAt_span, Bool.and_eq_false_iff]
      right
      simp only [decide_eq_false_iff_not, List.length_append, List.length_cons]
      omega
    rw [List.cons_append, this]
    simp
theorem leaf_blank (a r : List UInt8) : leafL (a ++ 32 :: r) = 0 := by
  unfold leafL
  rw [name_blank, if_neg, if_neg (by simp)]
  intro h
  have : (32 : UInt8) ∈ intL := by rw [← h]; simp
  revert this
  decide
theorem leaf_box (l : List UInt8) : leafL (boxP ++ l) = 0 := leaf_blank [98, 111, 120] l
theorem leaf_ref (l : List UInt8) : leafL (refP ++ l) = 0 := leaf_blank [114, 101, 102] l
theorem leaf_mut (l : List UInt8) : leafL (mutP ++ l) = 0 := leaf_blank [109, 117, 116] l
theorem leaf_nil : leafL [] = 0 := by decide
theorem leaf_pre {l p : List UInt8} (h : leafL l ≠ 0) (hp : p = boxP ∨ p = refP ∨ p = mutP) : Lib.hasPrefix l p = false := by
  cases hh : Lib.hasPrefix l p with
  | false => rfl
  | true =>
    exfalso
    apply h
    rw [pre_split hh]
    rcases hp with rfl | rfl | rfl
    · exact leaf_box _
    · exact leaf_ref _
    · exact leaf_mut _

theorem unbox_app (n : Nat) (l : List UInt8) : unboxL (n + 1) (boxP ++ l) = ((unboxL n l).1 + 1, (unboxL n l).2) := by
  rw [unboxL, if_pos (pre_app _ _)]
  rfl
theorem unbox_no {l : List UInt8} (h : Lib.hasPrefix l boxP = false) (n : Nat) : unboxL n l = (0, l) := by
  cases n with
  | zero => rfl
  | succ n => rw [unboxL, if_neg (by simp [h])]
theorem plainN_app (n : Nat) (l : List UInt8) : plainN (n + 1) (boxP ++ l) = (plainN n l).map (· + 1) := by
  unfold plainN
  rw [unbox_app]
  simp only
  split <;> simp
theorem plainN_leaf {l : List UInt8} (h : leafL l ≠ 0) (n : Nat) : plainN n l = some 0 := by
  unfold plainN
  rw [unbox_no (leaf_pre h (.inl rfl))]
  simp [h]
theorem plainN_none {l : List UInt8} (h : Lib.hasPrefix l boxP = false) (hl : leafL l = 0) (n : Nat) : plainN n l = none := by
  unfold plainN
  rw [unbox_no h]
  simp [hl]
theorem plainN_zero {l : List UInt8} (hl : leafL l = 0) : plainN 0 l = none := by
  unfold plainN unboxL
  simp [hl]
/-- One box less to be taken. -/
theorem plainN_less : ∀ (n : Nat) (l : List UInt8), plainN n l = (if plainN (n + 1) l = some (n + 1) then none else plainN (n + 1) l)
  | 0, l => by
    by_cases hl : leafL l = 0
    · rw [plainN_zero hl]
      cases hb : Lib.hasPrefix l boxP with
      | false => rw [plainN_none hb hl]; simp
      | true =>
        rw [pre_split hb]
        generalize l.drop boxP.length = r
        rw [plainN_app]
        by_cases hr : leafL r = 0
        · rw [plainN_zero hr]; simp
        · rw [plainN_leaf hr]; simp
    · rw [plainN_leaf hl, plainN_leaf hl]; simp
  | n + 1, l => by
    by_cases hl : leafL l = 0
    · cases hb : Lib.hasPrefix l boxP with
      | false => rw [plainN_none hb hl, plainN_none hb hl]; simp
      | true =>
        rw [pre_split hb]
        generalize l.drop boxP.length = r
        rw [plainN_app, plainN_app, plainN_less n r]
        cases plainN (n + 1) r with
        | none => simp
        | some k =>
          by_cases hk : k = n + 1
          · subst hk; simp
          · have : ¬ k + 1 = n + 1 + 1 := by omega
            simp [hk]
    · rw [plainN_leaf hl, plainN_leaf hl]; simp
theorem plainN_le : ∀ (n : Nat) (l : List UInt8) (k : Nat), plainN n l = some k → k ≤ n
  | 0, l, k, h => by
    unfold plainN unboxL at h
    split at h
    · cases h
    · injection h with h; omega
  | n + 1, l, k, h => by
    by_cases hl : leafL l = 0
    · cases hb : Lib.hasPrefix l boxP with
      | false => rw [plainN_none hb hl] at h; cases h
      | true =>
        rw [pre_split hb, plainN_app] at h
        cases hr : plainN n (l.drop boxP.length) with
        | none => rw [hr] at h; cases h
        | some j =>
          rw [hr] at h
          have := plainN_le n _ j hr
          simp at h
          omega
    · rw [plainN_leaf hl] at h
      injection h with h
      omega

/-- What the document's Plain reckons. -/
def plainL (l : List UInt8) : Option Nat := plainN 8 l
theorem plainL_le {l : List UInt8} {k : Nat} (h : plainL l = some k) : k ≤ 8 := plainN_le 8 l k h
theorem plainL_leaf {l : List UInt8} (h : leafL l ≠ 0) : plainL l = some 0 := plainN_leaf h 8
theorem plainL_none {l : List UInt8} (h : Lib.hasPrefix l boxP = false) (hl : leafL l = 0) : plainL l = none := plainN_none h hl 8
theorem plainL_nil : plainL [] = none := by decide
theorem plainL_box (l : List UInt8) : plainL (boxP ++ l) = (match plainL l with | none => none | some k => if k = 8 then none else some (k + 1)) := by
  unfold plainL
  rw [plainN_app, plainN_less 7 l]
  cases plainN (7 + 1) l with
  | none => simp
  | some k =>
    by_cases hk : k = 8
    · subst hk; simp
    · simp [hk]
theorem plainL_ref (l : List UInt8) : plainL (refP ++ l) = none := plainL_none (by unfold Lib.hasPrefix refP boxP; simp [List.isPrefixOf]) (leaf_ref l)
theorem plainL_mut (l : List UInt8) : plainL (mutP ++ l) = none := plainL_none (by unfold Lib.hasPrefix mutP boxP; simp [List.isPrefixOf]) (leaf_mut l)

/-- What a plain type ends with. -/
def endL (l : List UInt8) : List UInt8 := (unboxL 8 l).2
theorem plain_iff (l : List UInt8) : plainL l = none ↔ leafL (endL l) = 0 := by
  unfold plainL plainN endL
  split <;> simp_all
theorem plain_some {l : List UInt8} {k : Nat} (h : plainL l = some k) : (unboxL 8 l).1 = k ∧ leafL (unboxL 8 l).2 ≠ 0 := by
  unfold plainL plainN at h
  split at h
  · cases h
  · injection h with h
    exact ⟨h, by assumption⟩

theorem pre_box_ref (l : List UInt8) : Lib.hasPrefix (refP ++ l) boxP = false := by unfold Lib.hasPrefix refP boxP; simp [List.isPrefixOf]
theorem pre_box_mut (l : List UInt8) : Lib.hasPrefix (mutP ++ l) boxP = false := by unfold Lib.hasPrefix mutP boxP; simp [List.isPrefixOf]
theorem pre_ref_mut (l : List UInt8) : Lib.hasPrefix (mutP ++ l) refP = false := by unfold Lib.hasPrefix mutP refP; simp [List.isPrefixOf]
theorem pre_ref_box (l : List UInt8) : Lib.hasPrefix (boxP ++ l) refP = false := by unfold Lib.hasPrefix boxP refP; simp [List.isPrefixOf]
theorem pre_mut_box (l : List UInt8) : Lib.hasPrefix (boxP ++ l) mutP = false := by unfold Lib.hasPrefix boxP mutP; simp [List.isPrefixOf]
theorem pre_mut_ref (l : List UInt8) : Lib.hasPrefix (refP ++ l) mutP = false := by unfold Lib.hasPrefix refP mutP; simp [List.isPrefixOf]
theorem drop4 {p l : List UInt8} (h : p.length = 4) : (p ++ l).drop 4 = l := by rw [← h, List.drop_left]

theorem split_box (l : List UInt8) : splitL (boxP ++ l) = (if plainL (boxP ++ l) = none then noParts else ⟨3, l, (unboxL 8 (boxP ++ l)).1, endL (boxP ++ l)⟩) := by
  have hf : frontL (boxP ++ l) = (3, l) := by unfold frontL; rw [if_pos (pre_app _ _), drop4 rfl]
  unfold splitL
  simp only [hf, plain_iff]
  unfold endL
  simp
theorem split_ref (l : List UInt8) : splitL (refP ++ l) = (if plainL l = none then noParts else ⟨4, l, (unboxL 8 l).1, endL l⟩) := by
  have hf : frontL (refP ++ l) = (4, l) := by unfold frontL; rw [if_neg (by simp [pre_box_ref]), if_pos (pre_app _ _), drop4 rfl]
  unfold splitL
  simp only [hf, plain_iff]
  unfold endL
  simp
theorem split_mut (l : List UInt8) : splitL (mutP ++ l) = (if plainL l = none then noParts else ⟨5, l, (unboxL 8 l).1, endL l⟩) := by
  have hf : frontL (mutP ++ l) = (5, l) := by unfold frontL; rw [if_neg (by simp [pre_box_mut]), if_neg (by simp [pre_ref_mut]), if_pos (pre_app _ _), drop4 rfl]
  unfold splitL
  simp only [hf, plain_iff]
  unfold endL
  simp
theorem split_else {l : List UInt8} (h1 : Lib.hasPrefix l boxP = false) (h2 : Lib.hasPrefix l refP = false) (h3 : Lib.hasPrefix l mutP = false) : splitL l = (if leafL l = 0 then noParts else ⟨leafL l, [], 0, l⟩) := by
  have hf : frontL l = (0, []) := by unfold frontL; simp [h1, h2, h3]
  unfold splitL
  simp only [hf]
  simp [unbox_no h1]
theorem split_leaf {l : List UInt8} (h : leafL l ≠ 0) : splitL l = ⟨leafL l, [], 0, l⟩ := by
  rw [split_else (leaf_pre h (.inl rfl)) (leaf_pre h (.inr (.inl rfl))) (leaf_pre h (.inr (.inr rfl))), if_neg h]
/-- A text's ways: a leaf, a box, a ref, a mut, or nothing of that. -/
theorem ways (l : List UInt8) : (leafL l ≠ 0) ∨ (∃ r, l = boxP ++ r) ∨ (∃ r, l = refP ++ r) ∨ (∃ r, l = mutP ++ r) ∨ (leafL l = 0 ∧ Lib.hasPrefix l boxP = false ∧ Lib.hasPrefix l refP = false ∧ Lib.hasPrefix l mutP = false) := by
  by_cases hl : leafL l = 0
  · cases h1 : Lib.hasPrefix l boxP with
    | true => exact .inr (.inl ⟨_, pre_split h1⟩)
    | false =>
      cases h2 : Lib.hasPrefix l refP with
      | true => exact .inr (.inr (.inl ⟨_, pre_split h2⟩))
      | false =>
        cases h3 : Lib.hasPrefix l mutP with
        | true => exact .inr (.inr (.inr (.inl ⟨_, pre_split h3⟩)))
        | false => exact .inr (.inr (.inr (.inr ⟨hl, rfl, rfl, rfl⟩)))
  · exact .inl hl
theorem split_none {l : List UInt8} (h0 : leafL l = 0) (h1 : Lib.hasPrefix l boxP = false) (h2 : Lib.hasPrefix l refP = false) (h3 : Lib.hasPrefix l mutP = false) : splitL l = noParts := by
  rw [split_else h1 h2 h3, if_pos h0]
theorem leaf_two (l : List UInt8) : leafL l ≤ 2 := by unfold leafL; split <;> (try split) <;> omega

/-- What is asked of a type. -/
def kindL (l : List UInt8) : Nat := (splitL l).kind
def elemL (l : List UInt8) : List UInt8 := (splitL l).elem
def deepL (l : List UInt8) : Nat := (splitL l).deep
def baseL (l : List UInt8) : List UInt8 := (splitL l).base
def isPlain (l : List UInt8) : Bool := decide (kindL l = 1) || decide (kindL l = 2) || decide (kindL l = 3)
theorem plain_kind (l : List UInt8) : isPlain l = (plainL l).isSome := by
  unfold isPlain kindL
  rcases ways l with h | ⟨r, rfl⟩ | ⟨r, rfl⟩ | ⟨r, rfl⟩ | ⟨h0, h1, h2, h3⟩
  · rw [split_leaf h, plainL_leaf h]
    have := leaf_two l
    have : leafL l = 1 ∨ leafL l = 2 := by omega
    rcases this with e | e <;> simp [e]
  · rw [split_box]
    cases hp : plainL (boxP ++ r) <;> simp [noParts]
  · rw [split_ref, plainL_ref]
    split <;> simp [noParts]
  · rw [split_mut, plainL_mut]
    split <;> simp [noParts]
  · rw [split_none h0 h1 h2 h3, plainL_none h1 h0]
    simp [noParts]
end Go.Proofs.YtlppbgmcoknliaaGreatDoor
