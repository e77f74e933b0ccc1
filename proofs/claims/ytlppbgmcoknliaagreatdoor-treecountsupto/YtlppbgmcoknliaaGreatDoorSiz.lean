/-
  How much a place is. No walk here.
-/
import Derived.Test.YtlppbgmcoknliaaGreatDoorOpn
import Derived.Test.YtlppbgmcoknliaaGreatDoorBld
namespace Go.Proofs.YtlppbgmcoknliaaGreatDoor
set_option linter.unusedVariables false
open Go.RowKit

theorem szL_mem {α : Type} {f : α → Nat} {l : List α} {x : α} (h : x ∈ l) : f x ≤ szL f l := by
 unfold szL
 induction l with
 | nil => cases h
 | cons a l ih =>
  rw [List.map_cons, List.sum_cons]
  rcases List.mem_cons.1 h with rfl | h
  · omega
  · have := ih h; omega
theorem fit_place {p : PlaceD} (h : p.sz ≤ 1048576) : p.Fit := by
 have h1 : p.loc.size + 1 + szL szS p.steps + 1 ≤ 1048576 := h
 refine ⟨by show p.loc.size ≤ _; omega, fun s hs => ?_⟩
 have h2 : s.size + 1 ≤ szL szS p.steps := szL_mem (f := szS) hs
 show s.size ≤ _
 omega
end Go.Proofs.YtlppbgmcoknliaaGreatDoor
