/-
  What alive asks, call by call.
-/
import Derived.Test.YtlppbgmcoknliaaGreatDoorSml
import Derived.Test.YtlppbgmcoknliaaGreatDoorUse4
import Derived.Test.YtlppbgmcoknliaaGreatDoorPlc
import Derived.Test.YtlppbgmcoknliaaGreatDoorBld
import Derived.Test.YtlppbgmcoknliaaGreatDoorFnd
import Derived.Test.YtlppbgmcoknliaaGreatDoorVrs
import Derived.Test.YtlppbgmcoknliaaGreatDoorSam3
import Derived.Test.YtlppbgmcoknliaaGreatDoorRgt3
import Derived.Test.YtlppbgmcoknliaaGreatDoorCln4
import Derived.Test.YtlppbgmcoknliaaGreatDoorEqs
namespace Go.Proofs.YtlppbgmcoknliaaGreatDoor
set_option linter.unusedVariables false
open Go.RowKit

def stepsA : List ByteArray := [⟨#[42]⟩, ⟨#[97]⟩]
/-- The place x.*.a, its steps at sa. -/
def plA (sa : Option Addr) (sc : Nat) : PlaceX := ⟨⟨#[120]⟩, sa, sc, stepsA⟩
theorem read1 : readD ⟨#[120, 46, 42, 46, 97]⟩ = ⟨⟨#[120]⟩, stepsA⟩ := by kernel_rfl
theorem read2 : placeR (readD ⟨#[120, 46, 46, 97]⟩) = false := by kernel_rfl
theorem right1 : placeR ⟨⟨#[120]⟩, stepsA⟩ = true := by kernel_rfl
theorem kPlace1 (W : World) : Calls Tryz.prog 10 #[.string ⟨#[120, 46, 42, 46, 97]⟩] W fun e w' => ∃ sa sc, e = .returned (.tuple #[.agg #[.string ⟨#[120]⟩, .slice sa 2 sc], .bool true]) ∧ (2 ≤ sc ∧ St w' sa stepsA) ∧ Below W.heap.size W w' := by
 refine (place_any ⟨#[120, 46, 42, 46, 97]⟩ (by unfold fitS; decide) W).mono ?_
 rw [read1, right1]
 rintro e w' ⟨⟨l, sa, sc, st⟩, rfl, hd, hc, ha, hb⟩
 rw [if_pos rfl] at hd
 simp only [PlaceX.d, PlaceD.mk.injEq] at hd
 obtain ⟨rfl, rfl⟩ := hd
 exact ⟨sa, sc, rfl, ⟨hc, ha⟩, hb⟩
theorem kPlace2 (W : World) : Calls Tryz.prog 10 #[.string ⟨#[120, 46, 46, 97]⟩] W fun e w' => ∃ sa sc, e = .returned (.tuple #[.agg #[.string ⟨#[]⟩, .slice sa 0 sc], .bool false]) ∧ Below W.heap.size W w' := by
 refine (place_any ⟨#[120, 46, 46, 97]⟩ (by unfold fitS; decide) W).mono ?_
 rw [read2]
 rintro e w' ⟨⟨l, sa, sc, st⟩, rfl, hd, hc, ha, hb⟩
 rw [if_neg (by decide)] at hd
 simp only [PlaceX.d, noPlace, PlaceD.mk.injEq] at hd
 obtain ⟨rfl, rfl⟩ := hd
 exact ⟨sa, sc, rfl, hb⟩

theorem smFit (b : Nat) (N A : Int) : (smX b N A).d.Fit := by
 simp [ProgD.Fit, ProgX.d, smX, smU, smF, smB, smS, smT, smV, StructX.d, EnumX.d, FuncX.d, BlockX.d, StmtX.d, TermX.d, PlaceX.d, StructD.Fit, EnumD.Fit, FuncD.Fit, BlockD.Fit, StmtD.Fit, TermD.Fit, PlaceD.Fit, VarD.Fit, fitS]
 decide
theorem smFitW (b : Nat) (N A : Int) : (smW b N A).d.Fit := by
 simp [ProgD.Fit, ProgX.d, smW, smU, smF, smB, smS, smT, StructX.d, EnumX.d, FuncX.d, BlockX.d, StmtX.d, TermX.d, PlaceX.d, StructD.Fit, EnumD.Fit, FuncD.Fit, BlockD.Fit, StmtD.Fit, TermD.Fit, PlaceD.Fit, VarD.Fit, fitS]
 decide
theorem kRight {b : Nat} {W : World} (h : SmAt b 5 0 (.slice (some ⟨b + 4, 0, none⟩) 2 2) W) : Calls Tryz.prog 20 #[.agg #[.slice (some ⟨b + 3, 0, none⟩) 1 1, .slice (some ⟨b + 5, 0, none⟩) 1 1, .slice (some ⟨b + 11, 0, none⟩) 1 1]] W fun e w' => e = .returned (.bool true) ∧ Below W.heap.size W w' := by
 have := right_any (smX b 5 0) W (smX_at h) (smFit b 5 0)
 rw [show progR (smX b 5 0).d = true by kernel_rfl] at this
 exact this
theorem kWrong {b : Nat} {W : World} (h : SmAt b 5 0 (.slice none 0 0) W) : Calls Tryz.prog 20 #[.agg #[.slice (some ⟨b + 3, 0, none⟩) 1 1, .slice (some ⟨b + 5, 0, none⟩) 1 1, .slice (some ⟨b + 11, 0, none⟩) 1 1]] W fun e w' => e = .returned (.bool false) ∧ Below W.heap.size W w' := by
 have := right_any (smW b 5 0) W (smW_at h) (smFitW b 5 0)
 rw [show progR (smW b 5 0).d = false by kernel_rfl] at this
 exact this
theorem kSame {b c : Nat} {N A : Int} {W : World} (R : Bool) (hR : progQ (smX b N A).d (smX c 5 0).d = R) (h : SmAt b N A (.slice (some ⟨b + 4, 0, none⟩) 2 2) W) (h2 : SmAt c 5 0 (.slice (some ⟨c + 4, 0, none⟩) 2 2) W) :
 Calls Tryz.prog 23 #[.agg #[.slice (some ⟨b + 3, 0, none⟩) 1 1, .slice (some ⟨b + 5, 0, none⟩) 1 1, .slice (some ⟨b + 11, 0, none⟩) 1 1], .agg #[.slice (some ⟨c + 3, 0, none⟩) 1 1, .slice (some ⟨c + 5, 0, none⟩) 1 1, .slice (some ⟨c + 11, 0, none⟩) 1 1]] W fun e w' => e = .returned (.bool R) ∧ Below W.heap.size W w' := by
 have := same_any (smX b N A) (smX c 5 0) W (smX_at h) (smX_at h2)
 rw [hR] at this
 exact this
theorem same6 (b c : Nat) : progQ (smX b 6 0).d (smX c 5 0).d = false := by kernel_rfl
theorem same9 (b c : Nat) : progQ (smX b 5 9).d (smX c 5 0).d = true := by kernel_rfl
theorem sameC (b : Nat) : progQ (smX b 6 0).d (smX b 6 0).d = true := by kernel_rfl
theorem kClone {b : Nat} {W : World} (h : SmAt b 6 0 (.slice (some ⟨b + 4, 0, none⟩) 2 2) W) :
 Calls Tryz.prog 24 #[.agg #[.slice (some ⟨b + 3, 0, none⟩) 1 1, .slice (some ⟨b + 5, 0, none⟩) 1 1, .slice (some ⟨b + 11, 0, none⟩) 1 1]] W fun e w' => ∃ y : ProgX, e = .returned (.agg #[.slice y.sa y.structs.length y.sc, .slice y.ea y.enums.length y.ec, .slice y.fa y.funcs.length y.fc]) ∧ (y.d = (smX b 6 0).d ∧ y.At w') ∧ Below W.heap.size W w' :=
 (cloneprog_any (smX b 6 0) W (smX_at h)).mono fun e w' ⟨y, h1, h2, h3, h4⟩ => ⟨y, h1, ⟨h2, h3.1⟩, h4⟩
theorem kSameC {b : Nat} {y : ProgX} {W : World} (h : SmAt b 6 0 (.slice (some ⟨b + 4, 0, none⟩) 2 2) W) (hy : y.d = (smX b 6 0).d) (hya : y.At W) :
 Calls Tryz.prog 23 #[.agg #[.slice y.sa y.structs.length y.sc, .slice y.ea y.enums.length y.ec, .slice y.fa y.funcs.length y.fc], .agg #[.slice (some ⟨b + 3, 0, none⟩) 1 1, .slice (some ⟨b + 5, 0, none⟩) 1 1, .slice (some ⟨b + 11, 0, none⟩) 1 1]] W fun e w' => e = .returned (.bool true) ∧ Below W.heap.size W w' := by
 have := same_any y (smX b 6 0) W hya (smX_at h)
 rw [hy, sameC] at this
 exact this
theorem useD (b : Nat) : fnU (smF b 5 0) = [⟨⟨#[120]⟩, []⟩, ⟨⟨#[120]⟩, []⟩, ⟨⟨#[120]⟩, []⟩] := by kernel_rfl
theorem useN (b : Nat) : fnN (smF b 5 0) = 5 := by kernel_rfl
theorem kUses {b : Nat} {V : Value} {W : World} (h : SmAt b 5 0 V W) :
 Calls Tryz.prog 27 #[.agg #[.int .i64 0, .string ⟨#[109, 97, 105, 110]⟩, .slice none 0 0, .slice (some ⟨b + 6, 0, none⟩) 1 1, .string ⟨#[105, 110, 116]⟩, .slice (some ⟨b + 10, 0, none⟩) 1 1]] W fun e w' => ∃ Bn ps, e = .returned (.func (.func 74) #[] #[.pointer (some ⟨Bn, 0, none⟩)]) ∧ (US W.heap.size Bn ps w' ∧ ps.length = 3) ∧ Below W.heap.size W w' := by
 refine (uses_any (smF b 5 0) W (smF_at h) (by rw [useN]; decide)).mono fun e w' ⟨Bn, ps, h1, h2, h3, h4⟩ => ⟨Bn, ps, h1, ⟨h2, ?_⟩, h4⟩
 have := congrArg List.length h3
 rw [useD, List.length_map] at this
 exact this
theorem kVars {b : Nat} {V : Value} {W : World} (h : SmAt b 5 0 V W) :
 Calls Tryz.prog 28 #[.agg #[.int .i64 0, .string ⟨#[109, 97, 105, 110]⟩, .slice none 0 0, .slice (some ⟨b + 6, 0, none⟩) 1 1, .string ⟨#[105, 110, 116]⟩, .slice (some ⟨b + 10, 0, none⟩) 1 1]] W fun e w' => ∃ a c, e = .returned (.slice a 1 c) ∧ Vrs w' a [⟨⟨#[120]⟩, ⟨#[105, 110, 116]⟩⟩] ∧ Below W.heap.size W w' :=
 (vars_any (smF b 5 0) W (smF_at h) (by show 0 + 1 ≤ 1048576; decide)).mono fun e w' ⟨a, c, h1, h2, h3, h4⟩ => ⟨a, c, h1, h2, h4⟩
theorem find1 : idxL (fun v : VarD => bq v.name ⟨#[120]⟩) [⟨⟨#[120]⟩, ⟨#[105, 110, 116]⟩⟩] = 0 := by kernel_rfl
theorem kFind {a : Option Addr} {c : Nat} {W : World} (h : Vrs W a [⟨⟨#[120]⟩, ⟨#[105, 110, 116]⟩⟩]) :
 Calls Tryz.prog 30 #[.slice a 1 c, .string ⟨#[120]⟩] W fun e w' => e = .returned (.int .i64 0) ∧ Below W.heap.size W w' := by
 have := find_any a [⟨⟨#[120]⟩, ⟨#[105, 110, 116]⟩⟩] c ⟨#[120]⟩ W h
 rw [find1] at this
 exact this
theorem block1 (b : Nat) : idxL (fun v : BlockX => bq v.name ⟨#[98, 49]⟩) (smF b 5 0).blocks = -1 := by kernel_rfl
theorem kBlock {b : Nat} {V : Value} {W : World} (h : SmAt b 5 0 V W) :
 Calls Tryz.prog 32 #[.agg #[.int .i64 0, .string ⟨#[109, 97, 105, 110]⟩, .slice none 0 0, .slice (some ⟨b + 6, 0, none⟩) 1 1, .string ⟨#[105, 110, 116]⟩, .slice (some ⟨b + 10, 0, none⟩) 1 1], .string ⟨#[98, 49]⟩] W fun e w' => e = .returned (.int .i64 (-1)) ∧ Below W.heap.size W w' := by
 have := block_any (smF b 5 0) ⟨#[98, 49]⟩ W (smF_at h)
 rw [block1] at this
 exact this
theorem textA : textL ⟨⟨#[120]⟩, stepsA⟩ = [120, 46, 42, 46, 97] := by kernel_rfl
section
variable {sa : Option Addr} {sc : Nat} {W : World} (h : St W sa stepsA) (hc : 2 ≤ sc)
include h
theorem kText : Calls Tryz.prog 13 #[.agg #[.string ⟨#[120]⟩, .slice sa 2 sc]] W fun e w' => e = .returned (.string ⟨#[120, 46, 42, 46, 97]⟩) ∧ Below W.heap.size W w' := by
 have := text_any (plA sa sc) W h (by show (textL ⟨⟨#[120]⟩, stepsA⟩).length ≤ _; rw [textA]; decide)
 rw [show textL (plA sa sc).d = [120, 46, 42, 46, 97] from textA] at this
 exact this
include hc
theorem kFront1 : Calls Tryz.prog 16 #[.agg #[.string ⟨#[120]⟩, .slice none 0 0], .agg #[.string ⟨#[120]⟩, .slice sa 2 sc]] W fun e w' => e = .returned (.bool true) ∧ Below W.heap.size W w' := by
 have := front_place ⟨⟨#[120]⟩, none, 0, []⟩ (plA sa sc) W St.nil h hc
 rw [show frontQ (PlaceX.d ⟨⟨#[120]⟩, none, 0, []⟩) (plA sa sc).d = true by kernel_rfl] at this
 exact this
omit hc
theorem kFront2 : Calls Tryz.prog 16 #[.agg #[.string ⟨#[120]⟩, .slice sa 2 sc], .agg #[.string ⟨#[120]⟩, .slice none 0 0]] W fun e w' => e = .returned (.bool false) ∧ Below W.heap.size W w' := by
 have := front_place (plA sa sc) ⟨⟨#[120]⟩, none, 0, []⟩ W h St.nil (Nat.le_refl _)
 rw [show frontQ (plA sa sc).d (PlaceX.d ⟨⟨#[120]⟩, none, 0, []⟩) = false by kernel_rfl] at this
 exact this
theorem kEqual : Calls Tryz.prog 15 #[.agg #[.string ⟨#[120]⟩, .slice sa 2 sc], .agg #[.string ⟨#[120]⟩, .slice sa 2 sc]] W fun e w' => e = .returned (.bool true) ∧ Below W.heap.size W w' := by
 have := equal_place (plA sa sc) (plA sa sc) W h h
 rw [show placeQ (plA sa sc).d (plA sa sc).d = true by kernel_rfl] at this
 exact this
end
end Go.Proofs.YtlppbgmcoknliaaGreatDoor
