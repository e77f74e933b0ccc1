/-
  What Front and Equal answer of the four places of TreeFronts.
-/
import Derived.Test.YtlppbgmcoknliaaGreatDoorFr0
import Derived.Deep.RegionHeld3
namespace Go.Proofs.YtlppbgmcoknliaaGreatDoor
set_option linter.unusedVariables false
open Go.RowKit

/-- What Front and Equal answer of the four places. -/
structure FC (w : World) (l1 l2 : ByteArray) (s1 s2 : Option Addr) (n1 c1 n2 c2 I K : Nat) (vab vba vpo vop vao : Bool) : Prop where
  cap : ∀ W, Below w.heap.size w W → Calls Tryz.prog 16 #[.agg #[.string l1, .slice s1 I c1], .agg #[.string l1, .slice s1 n1 c1]] W fun e w' => e = .returned (.bool true) ∧ Below W.heap.size W w'
  cbp : ∀ W, Below w.heap.size w W → Calls Tryz.prog 16 #[.agg #[.string l1, .slice s1 K c1], .agg #[.string l1, .slice s1 n1 c1]] W fun e w' => e = .returned (.bool true) ∧ Below W.heap.size W w'
  cpp : ∀ W, Below w.heap.size w W → Calls Tryz.prog 16 #[.agg #[.string l1, .slice s1 n1 c1], .agg #[.string l1, .slice s1 n1 c1]] W fun e w' => e = .returned (.bool true) ∧ Below W.heap.size W w'
  cab : ∀ W, Below w.heap.size w W → Calls Tryz.prog 16 #[.agg #[.string l1, .slice s1 I c1], .agg #[.string l1, .slice s1 K c1]] W fun e w' => e = .returned (.bool vab) ∧ Below W.heap.size W w'
  cba : ∀ W, Below w.heap.size w W → Calls Tryz.prog 16 #[.agg #[.string l1, .slice s1 K c1], .agg #[.string l1, .slice s1 I c1]] W fun e w' => e = .returned (.bool vba) ∧ Below W.heap.size W w'
  cpo : ∀ W, Below w.heap.size w W → Calls Tryz.prog 16 #[.agg #[.string l1, .slice s1 n1 c1], .agg #[.string l2, .slice s2 n2 c2]] W fun e w' => e = .returned (.bool vpo) ∧ Below W.heap.size W w'
  cop : ∀ W, Below w.heap.size w W → Calls Tryz.prog 16 #[.agg #[.string l2, .slice s2 n2 c2], .agg #[.string l1, .slice s1 n1 c1]] W fun e w' => e = .returned (.bool vop) ∧ Below W.heap.size W w'
  cao : ∀ W, Below w.heap.size w W → Calls Tryz.prog 16 #[.agg #[.string l1, .slice s1 I c1], .agg #[.string l2, .slice s2 n2 c2]] W fun e w' => e = .returned (.bool vao) ∧ Below W.heap.size W w'
  epo : ∀ W, Below w.heap.size w W → Calls Tryz.prog 15 #[.agg #[.string l1, .slice s1 n1 c1], .agg #[.string l2, .slice s2 n2 c2]] W fun e w' => e = .returned (.bool (vpo && vop)) ∧ Below W.heap.size W w'
theorem fc_of (l1 l2 : ByteArray) (s1 s2 : Option Addr) (c1 c2 n1 n2 I K : Nat) (xs ys : List ByteArray) (w : World) (hp : PlaceX.At w ⟨l1, s1, c1, xs⟩) (ho : PlaceX.At w ⟨l2, s2, c2, ys⟩) (E1 : xs.length = n1) (E2 : ys.length = n2) (hpc : n1 ≤ c1) (hoc : n2 ≤ c2) (hI : I ≤ n1) (hK : K ≤ n1)
    (vab vba vpo vop vao : Bool) (FAB : frontQ ⟨l1, xs.take I⟩ ⟨l1, xs.take K⟩ = vab) (FBA : frontQ ⟨l1, xs.take K⟩ ⟨l1, xs.take I⟩ = vba) (FPO : frontQ ⟨l1, xs⟩ ⟨l2, ys⟩ = vpo) (FOP : frontQ ⟨l2, ys⟩ ⟨l1, xs⟩ = vop) (FAO : frontQ ⟨l1, xs.take I⟩ ⟨l2, ys⟩ = vao) :
    FC w l1 l2 s1 s2 n1 c1 n2 c2 I K vab vba vpo vop vao := by
  have EI : (xs.take I).length = I := by rw [List.length_take, E1]; omega
  have EK : (xs.take K).length = K := by rw [List.length_take, E1]; omega
  have HIC : I ≤ c1 := by omega
  have HKC : K ≤ c1 := by omega
  have FEQ : placeQ ⟨l1, xs⟩ ⟨l2, ys⟩ = (vpo && vop) := by
    rw [← FPO, ← FOP]
    refine bool_eq ?_
    rw [placeQ_iff, Bool.and_eq_true, frontQ_iff, frontQ_iff, PlaceD.mk.injEq]
    constructor
    · rintro ⟨rfl, rfl⟩
      exact ⟨⟨rfl, List.prefix_refl _⟩, rfl, List.prefix_refl _⟩
    · rintro ⟨⟨h1, h2⟩, _, h3⟩
      exact ⟨h1, h2.eq_of_length (Nat.le_antisymm h2.length_le h3.length_le)⟩
  have CAP : Hid (∀ W, Below w.heap.size w W → Calls Tryz.prog 16 #[.agg #[.string l1, .slice s1 I c1], .agg #[.string l1, .slice s1 n1 c1]] W fun e w' => e = .returned (.bool true) ∧ Below W.heap.size W w') := hidIt fun W hW => by
    have := front_place ⟨l1, s1, c1, xs.take I⟩ ⟨l1, s1, c1, xs⟩ W (St.take (PlaceX.At.on hp hW) I) (PlaceX.At.on hp hW) (by show xs.length ≤ c1; rw [E1]; exact hpc)
    simp only [PlaceX.row, PlaceX.d, E1, EI] at this
    rw [show frontQ ⟨l1, xs.take I⟩ ⟨l1, xs⟩ = true from (frontQ_iff.2 ⟨rfl, List.take_prefix _ _⟩)] at this
    exact this
  have CBP : Hid (∀ W, Below w.heap.size w W → Calls Tryz.prog 16 #[.agg #[.string l1, .slice s1 K c1], .agg #[.string l1, .slice s1 n1 c1]] W fun e w' => e = .returned (.bool true) ∧ Below W.heap.size W w') := hidIt fun W hW => by
    have := front_place ⟨l1, s1, c1, xs.take K⟩ ⟨l1, s1, c1, xs⟩ W (St.take (PlaceX.At.on hp hW) K) (PlaceX.At.on hp hW) (by show xs.length ≤ c1; rw [E1]; exact hpc)
    simp only [PlaceX.row, PlaceX.d, E1, EK] at this
    rw [show frontQ ⟨l1, xs.take K⟩ ⟨l1, xs⟩ = true from (frontQ_iff.2 ⟨rfl, List.take_prefix _ _⟩)] at this
    exact this
  have CPP : Hid (∀ W, Below w.heap.size w W → Calls Tryz.prog 16 #[.agg #[.string l1, .slice s1 n1 c1], .agg #[.string l1, .slice s1 n1 c1]] W fun e w' => e = .returned (.bool true) ∧ Below W.heap.size W w') := hidIt fun W hW => by
    have := front_place ⟨l1, s1, c1, xs⟩ ⟨l1, s1, c1, xs⟩ W (PlaceX.At.on hp hW) (PlaceX.At.on hp hW) (by show xs.length ≤ c1; rw [E1]; exact hpc)
    simp only [PlaceX.row, PlaceX.d, E1] at this
    rw [show frontQ ⟨l1, xs⟩ ⟨l1, xs⟩ = true from (frontQ_iff.2 ⟨rfl, List.prefix_refl _⟩)] at this
    exact this
  have CAB : Hid (∀ W, Below w.heap.size w W → Calls Tryz.prog 16 #[.agg #[.string l1, .slice s1 I c1], .agg #[.string l1, .slice s1 K c1]] W fun e w' => e = .returned (.bool vab) ∧ Below W.heap.size W w') := hidIt fun W hW => by
    have := front_place ⟨l1, s1, c1, xs.take I⟩ ⟨l1, s1, c1, xs.take K⟩ W (St.take (PlaceX.At.on hp hW) I) (St.take (PlaceX.At.on hp hW) K) (by show (xs.take K).length ≤ c1; rw [EK]; exact HKC)
    simp only [PlaceX.row, PlaceX.d, EI, EK] at this
    rw [show frontQ ⟨l1, xs.take I⟩ ⟨l1, xs.take K⟩ = vab from FAB] at this
    exact this
  have CBA : Hid (∀ W, Below w.heap.size w W → Calls Tryz.prog 16 #[.agg #[.string l1, .slice s1 K c1], .agg #[.string l1, .slice s1 I c1]] W fun e w' => e = .returned (.bool vba) ∧ Below W.heap.size W w') := hidIt fun W hW => by
    have := front_place ⟨l1, s1, c1, xs.take K⟩ ⟨l1, s1, c1, xs.take I⟩ W (St.take (PlaceX.At.on hp hW) K) (St.take (PlaceX.At.on hp hW) I) (by show (xs.take I).length ≤ c1; rw [EI]; exact HIC)
    simp only [PlaceX.row, PlaceX.d, EI, EK] at this
    rw [show frontQ ⟨l1, xs.take K⟩ ⟨l1, xs.take I⟩ = vba from FBA] at this
    exact this
  have CPO : Hid (∀ W, Below w.heap.size w W → Calls Tryz.prog 16 #[.agg #[.string l1, .slice s1 n1 c1], .agg #[.string l2, .slice s2 n2 c2]] W fun e w' => e = .returned (.bool vpo) ∧ Below W.heap.size W w') := hidIt fun W hW => by
    have := front_place ⟨l1, s1, c1, xs⟩ ⟨l2, s2, c2, ys⟩ W (PlaceX.At.on hp hW) (PlaceX.At.on ho hW) (by show ys.length ≤ c2; rw [E2]; exact hoc)
    simp only [PlaceX.row, PlaceX.d, E1, E2] at this
    rw [show frontQ ⟨l1, xs⟩ ⟨l2, ys⟩ = vpo from FPO] at this
    exact this
  have COP : Hid (∀ W, Below w.heap.size w W → Calls Tryz.prog 16 #[.agg #[.string l2, .slice s2 n2 c2], .agg #[.string l1, .slice s1 n1 c1]] W fun e w' => e = .returned (.bool vop) ∧ Below W.heap.size W w') := hidIt fun W hW => by
    have := front_place ⟨l2, s2, c2, ys⟩ ⟨l1, s1, c1, xs⟩ W (PlaceX.At.on ho hW) (PlaceX.At.on hp hW) (by show xs.length ≤ c1; rw [E1]; exact hpc)
    simp only [PlaceX.row, PlaceX.d, E1, E2] at this
    rw [show frontQ ⟨l2, ys⟩ ⟨l1, xs⟩ = vop from FOP] at this
    exact this
  have CAO : Hid (∀ W, Below w.heap.size w W → Calls Tryz.prog 16 #[.agg #[.string l1, .slice s1 I c1], .agg #[.string l2, .slice s2 n2 c2]] W fun e w' => e = .returned (.bool vao) ∧ Below W.heap.size W w') := hidIt fun W hW => by
    have := front_place ⟨l1, s1, c1, xs.take I⟩ ⟨l2, s2, c2, ys⟩ W (St.take (PlaceX.At.on hp hW) I) (PlaceX.At.on ho hW) (by show ys.length ≤ c2; rw [E2]; exact hoc)
    simp only [PlaceX.row, PlaceX.d, E2, EI] at this
    rw [show frontQ ⟨l1, xs.take I⟩ ⟨l2, ys⟩ = vao from FAO] at this
    exact this
  have EPO : Hid (∀ W, Below w.heap.size w W → Calls Tryz.prog 15 #[.agg #[.string l1, .slice s1 n1 c1], .agg #[.string l2, .slice s2 n2 c2]] W fun e w' => e = .returned (.bool (vpo && vop)) ∧ Below W.heap.size W w') := hidIt fun W hW => by
    have := equal_place ⟨l1, s1, c1, xs⟩ ⟨l2, s2, c2, ys⟩ W (PlaceX.At.on hp hW) (PlaceX.At.on ho hW)
    simp only [PlaceX.row, PlaceX.d, E1, E2] at this
    rw [show placeQ ⟨l1, xs⟩ ⟨l2, ys⟩ = (vpo && vop) from FEQ] at this
    exact this
  exact ⟨CAP.out, CBP.out, CPP.out, CAB.out, CBA.out, CPO.out, COP.out, CAO.out, EPO.out⟩
end Go.Proofs.YtlppbgmcoknliaaGreatDoor
