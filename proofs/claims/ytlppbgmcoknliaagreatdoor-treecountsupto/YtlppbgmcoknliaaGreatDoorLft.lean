/-
  What the proofs of all rows of this seat share: the tables that are laid, and arguments that come in.
-/
import Derived.Test.YtlppbgmcoknliaaGreatDoorOpn
import Derived.Lay
import Derived.LaidMore
import Derived.Deep.DeepHandedRow
namespace Go.Proofs.YtlppbgmcoknliaaGreatDoor
open Go.ChangeShapes Go.WideShapes Go.ChangeAt Go.RowKit
set_option linter.unusedVariables false

theorem own : ownKnob Tryz.prog.godebug = none := by kernel_rfl
theorem laidOut : laidOutB Tryz.prog = true := by kernel_rfl
def lays : List (String × DataW Unit) := [("unicode/utf8.acceptRanges", Rows.laid_unicode_utf8_acceptRanges), ("unicode/utf8.first", Rows.laid_unicode_utf8_first)]
theorem lays_met (os : Os) (args : Array Value) : laidMetH Tryz.prog lays ((World.laidAll Tryz.prog os lays).forCall (fun _ _ => 0) ⟨#[], args, []⟩).memory := by
 rw [MakeChecks.laidMetH_plain _ _ _ (by kernel_rfl)]
 exact laidMet_laidAll _ (by kernel_rfl) (by kernel_rfl)

section
variable {H : Type} {enc : TypeId × Value → H} {W : World}
theorem cells_agg {cs : Array Value} {r : List Value} (h : (Value.agg cs).cells.toList = r) : cs = r.toArray := by
 rw [← h]
 simp [Value.cells]
set_option maxRecDepth 100000 in
theorem arg_prog {base : Nat} {v : Value} {d : DataW H} {p : List MemPlace} (hv : Value.okWide Tryz.prog W .any base 36 v) (h : DataW.Trod enc Tryz.prog W 0 (fun _ => true) true 36 v d p) (hb : Rows.uptoBulk d ≤ 1048576) :
 ∃ a : ProgX, v = .agg a.row.toArray ∧ a.Ok W ∧ a.d.sz ≤ Rows.uptoBulk d := by
 obtain ⟨cs, rfl, _⟩ := okWide_struct Tryz.underlying36 hv
 obtain ⟨fuel, hf⟩ := h
 have hq := open_prog hf
 obtain ⟨a, hcs, _, h1, h3⟩ := hq hb
 exact ⟨a, by rw [cells_agg hcs], h1, h3⟩
end
end Go.Proofs.YtlppbgmcoknliaaGreatDoor
