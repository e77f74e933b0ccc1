/-
  A type is made of its base by its boxes, and at most one ref or mut. No walk here.
-/
import Derived.Test.YtkohdnjgpclnoaaAlive
namespace Go.Proofs.Ytkohdnjgpclnoaa
set_option linter.unusedVariables false
open Go.RowKit

/-- A text with so many boxes in front. -/
def bx : Nat → List UInt8 → List UInt8
  | 0, l => l
  | n + 1, l => boxP ++ bx n l
theorem bx_len : ∀ (n : Nat) (l : List UInt8), (bx n l).length = 4 * n + l.length
  | 0, l => by simp [bx]
  | n + 1, l => by
    rw [bx, List.length_append, bx_len n l]
    simp only [boxP, List.length_cons, List.length_nil]
    omega
theorem bx_unbox : ∀ (n : Nat) (l : List UInt8), l = bx (unboxL n l).1 (unboxL n l).2
  | 0, l => rfl
  | n + 1, l => by
    rw [unboxL]
    split
    · rename_i h
      rw [bx, ← bx_unbox n (l.drop 4)]
      exact pre_split h
    · rfl
theorem plain_bx : ∀ (n : Nat) (l : List UInt8), leafL l ≠ 0 → n ≤ 8 → plainL (bx n l) = some n
  | 0, l, h, _ => plainL_leaf h
  | n + 1, l, h, hn => by
    rw [bx, plainL_box, plain_bx n l h (by omega)]
    simp only
    rw [if_neg (by omega)]
theorem deep_plain {l : List UInt8} {k : Nat} (h : plainL l = some k) : deepL l = k := by
  unfold deepL
  rcases ways l with hl | ⟨r, rfl⟩ | ⟨r, rfl⟩ | ⟨r, rfl⟩ | ⟨h0, h1, h2, h3⟩
  · rw [split_leaf hl]
    rw [plainL_leaf hl] at h
    injection h
  · rw [split_box, if_neg (by rw [h]; simp)]
    exact (plain_some h).1
  · rw [plainL_ref] at h; cases h
  · rw [plainL_mut] at h; cases h
  · rw [plainL_none h1 h0] at h; cases h
theorem boxable_plain {l : List UInt8} {k : Nat} (h : plainL l = some k) : boxable l = decide (k < 8) := by
  unfold boxable
  rw [plain_kind, h, deep_plain h]
  have := plainL_le h
  simp only [Option.isSome_some, Bool.true_and]
  by_cases hk : k = 8
  · subst hk; rfl
  · rw [decide_eq_false hk, decide_eq_true (by omega)]; rfl
theorem boxable_not {l : List UInt8} (h : plainL l = none) : boxable l = false := by
  unfold boxable
  rw [plain_kind, h]
  rfl
theorem kind_zero {l : List UInt8} (h : kindL l = 0) : splitL l = noParts := by
  unfold kindL at h
  rcases ways l with hl | ⟨r, rfl⟩ | ⟨r, rfl⟩ | ⟨r, rfl⟩ | ⟨h0, h1, h2, h3⟩
  · rw [split_leaf hl] at h
    exact absurd h hl
  · rw [split_box] at h ⊢
    split
    · rfl
    · rename_i hp; rw [if_neg hp] at h; cases h
  · rw [split_ref] at h ⊢
    split
    · rfl
    · rename_i hp; rw [if_neg hp] at h; cases h
  · rw [split_mut] at h ⊢
    split
    · rfl
    · rename_i hp; rw [if_neg hp] at h; cases h
  · exact split_none h0 h1 h2 h3

/-- What a type is. -/
structure TypeOf (l : List UInt8) : Prop where
  leaf : leafL (baseL l) ≠ 0
  deep : deepL l ≤ 8
  some : (l = bx (deepL l) (baseL l) ∧ isPlain l = true ∧ (kindL l = 1 ∨ kindL l = 2 ∨ kindL l = 3)) ∨ (l = refP ++ bx (deepL l) (baseL l) ∧ isPlain l = false ∧ kindL l = 4) ∨ (l = mutP ++ bx (deepL l) (baseL l) ∧ isPlain l = false ∧ kindL l = 5)
theorem typeOf {l : List UInt8} (h : kindL l ≠ 0) : TypeOf l := by
  have hq := plain_kind l
  rcases ways l with hl | ⟨r, rfl⟩ | ⟨r, rfl⟩ | ⟨r, rfl⟩ | ⟨h0, h1, h2, h3⟩
  · have hs := split_leaf hl
    have e1 : baseL l = l := by unfold baseL; rw [hs]
    have e2 : deepL l = 0 := by unfold deepL; rw [hs]
    have e3 : kindL l = leafL l := by unfold kindL; rw [hs]
    have := leaf_two l
    refine ⟨by rw [e1]; exact hl, by omega, .inl ⟨by rw [e1, e2]; rfl, by rw [hq, plainL_leaf hl]; rfl, by omega⟩⟩
  · have hs := split_box r
    cases hp : plainL (boxP ++ r) with
    | none => exfalso; apply h; unfold kindL; rw [hs, if_pos hp]; rfl
    | some k =>
      rw [if_neg (by rw [hp]; simp)] at hs
      have e1 : baseL (boxP ++ r) = endL (boxP ++ r) := by unfold baseL; rw [hs]
      have e2 : deepL (boxP ++ r) = (unboxL 8 (boxP ++ r)).1 := by unfold deepL; rw [hs]
      have e3 : kindL (boxP ++ r) = 3 := by unfold kindL; rw [hs]
      have hps := plain_some hp
      refine ⟨by rw [e1]; exact hps.2, by rw [e2]; exact unboxL_le 8 _, .inl ⟨?_, by rw [hq, hp]; rfl, by omega⟩⟩
      rw [e1, e2]
      exact bx_unbox 8 _
  · have hs := split_ref r
    cases hp : plainL r with
    | none => exfalso; apply h; unfold kindL; rw [hs, if_pos hp]; rfl
    | some k =>
      rw [if_neg (by rw [hp]; simp)] at hs
      have e1 : baseL (refP ++ r) = endL r := by unfold baseL; rw [hs]
      have e2 : deepL (refP ++ r) = (unboxL 8 r).1 := by unfold deepL; rw [hs]
      have e3 : kindL (refP ++ r) = 4 := by unfold kindL; rw [hs]
      have hps := plain_some hp
      refine ⟨by rw [e1]; exact hps.2, by rw [e2]; exact unboxL_le 8 _, .inr (.inl ⟨?_, by rw [hq, plainL_ref]; rfl, e3⟩)⟩
      rw [e1, e2]
      exact congrArg (refP ++ ·) (bx_unbox 8 r)
  · have hs := split_mut r
    cases hp : plainL r with
    | none => exfalso; apply h; unfold kindL; rw [hs, if_pos hp]; rfl
    | some k =>
      rw [if_neg (by rw [hp]; simp)] at hs
      have e1 : baseL (mutP ++ r) = endL r := by unfold baseL; rw [hs]
      have e2 : deepL (mutP ++ r) = (unboxL 8 r).1 := by unfold deepL; rw [hs]
      have e3 : kindL (mutP ++ r) = 5 := by unfold kindL; rw [hs]
      have hps := plain_some hp
      refine ⟨by rw [e1]; exact hps.2, by rw [e2]; exact unboxL_le 8 _, .inr (.inr ⟨?_, by rw [hq, plainL_mut]; rfl, e3⟩)⟩
      rw [e1, e2]
      exact congrArg (mutP ++ ·) (bx_unbox 8 r)
  · exfalso
    apply h
    unfold kindL
    rw [split_none h0 h1 h2 h3]
    rfl
theorem leaf_ne {l : List UInt8} (h : leafL l ≠ 0) : (!l.isEmpty) = true := by
  cases l with
  | nil => exact absurd leaf_nil h
  | cons b l => rfl
theorem leaf_kind {l : List UInt8} (h : leafL l ≠ 0) : kindL l = 1 ∨ kindL l = 2 := by
  unfold kindL
  rw [split_leaf h]
  have := leaf_two l
  show leafL l = 1 ∨ leafL l = 2
  omega
end Go.Proofs.Ytkohdnjgpclnoaa
