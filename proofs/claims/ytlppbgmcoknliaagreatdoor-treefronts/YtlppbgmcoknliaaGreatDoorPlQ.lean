/-
  When places are the same, and when one is the other one's beginning. No walk here.
-/
import Derived.Test.YtlppbgmcoknliaaGreatDoorFront
namespace Go.Proofs.YtlppbgmcoknliaaGreatDoor
set_option linter.unusedVariables false
open Go.RowKit

theorem placeQ_iff {a b : PlaceD} : placeQ a b = true ↔ a = b := by
  obtain ⟨l, s⟩ := a
  obtain ⟨m, t⟩ := b
  unfold placeQ
  rw [Bool.and_eq_true, bq_iff, sq_iff, PlaceD.mk.injEq]
theorem frontQ_iff {a b : PlaceD} : frontQ a b = true ↔ a.loc = b.loc ∧ a.steps <+: b.steps := by
  obtain ⟨l, s⟩ := a
  obtain ⟨m, t⟩ := b
  unfold frontQ
  rw [Bool.and_eq_true, decide_eq_true_eq, placeQ_iff, PlaceD.mk.injEq]
  simp only
  constructor
  · rintro ⟨h1, h2, h3⟩
    exact ⟨h2, h3 ▸ List.take_prefix _ _⟩
  · rintro ⟨h1, h2⟩
    exact ⟨h2.length_le, h1, List.prefix_iff_eq_take.1 h2⟩
theorem bool_eq {a b : Bool} (h : a = true ↔ b = true) : a = b := by cases a <;> cases b <;> simp_all

end Go.Proofs.YtlppbgmcoknliaaGreatDoor
