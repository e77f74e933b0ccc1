/-
  What the proofs of all rows of this seat share: the table that is laid, and lists of numbers that come in.
-/
import Derived.Test.YtcaibfalhkhleaaDoorRows
import Derived.Test.YtcaibfalhkhleaaDoorMany
import Derived.WalkKit
import Derived.ProofKit
import Derived.LaidMore
import Derived.OpenShut
import Derived.ShutString
import Derived.ChangeOld
import Derived.Below
import Derived.Stop.Joined
import Derived.Lib.LaidTab
namespace Go.Proofs.YtcaibfalhkhleaaDoor
open Go.ChangeShapes Go.WideShapes Go.ChangeAt Go.RowKit
set_option linter.unusedVariables false

theorem own : ownKnob Tryd.prog.godebug = none := by kernel_rfl
theorem laidOut : laidOutB Tryd.prog = true := by kernel_rfl
def lays : List (String × DataW Unit) := [("math/bits.deBruijn64tab", Rows.laid_math_bits_deBruijn64tab)]
theorem gTab : Tryd.prog.globalNamed "math/bits.deBruijn64tab" = some 0 := by kernel_rfl
theorem tTab : (Tryd.prog.globals[0]?).map (·.type) = some 69 := by kernel_rfl
def zTab : List Int := Lib.deBruijn64tab.map fun (n : Nat) => (n : Int)
theorem data_is : (Rows.laid_math_bits_deBruijn64tab : DataW Unit) = Lib.tabData .u8 zTab := by kernel_rfl

theorem door_met (os : Os) (args : Array Value) : laidMetH Tryd.prog lays ((World.doorLaid Tryd.prog 400 os).forCall (fun _ _ => 0) ⟨#[], args, []⟩).memory :=
  laidMetH_of_parts3 (fuel := 8) (laidMet_of_run' 8 (by kernel_rfl) (by kernel_rfl)) (by kernel_rfl) (by kernel_rfl)

theorem of_laid {W : World} (h : laidMetH Tryd.prog lays W) : Tab W := by
  rw [MakeChecks.laidMetH_plain _ _ _ (by kernel_rfl)] at h
  unfold lays at h
  rw [data_is] at h
  have ht := Lib.tabIs_of_head gTab tTab Tryd.underlying69 Tryd.underlying5 (by kernel_rfl) (by kernel_rfl) h
  intro j hj
  have hz : zTab.length = Lib.deBruijn64tab.length := by simp [zTab]
  have := ht.cell gTab j (by omega)
  rw [this]
  have e : zTab.getD j 0 = ((Lib.deBruijn64tab.getD j 0 : Nat) : Int) := by
    simp [zTab, List.getD, hj]
  rw [e]

/-- A list of numbers that comes in. -/
def LIn (w : World) (ao : Option Addr) (len : Nat) (zs : List Int) : Prop := zs.length = len ∧ LAt w ao zs ∧ len ≤ 9223372036854775807 ∧ ∀ n ∈ zs, (Lit.int .i64 n).wf = true
theorem LIn.of {w : World} {a : Addr} {len cap : Nat} {zs : List Int} (hl : len ≤ cap) (hm : cap ≤ maxLen) (hz : zs.length = cap) (hc : ∀ i, i < zs.length → w.cell? (a.add i) = some (.int .i64 (zs.getD i 0))) (hw : ∀ n ∈ zs, (Lit.int .i64 n).wf = true) : LIn w (some a) len (zs.take len) := by
  refine ⟨by simp; omega, ?_, by unfold maxLen at hm; omega, fun n hn => hw n (List.mem_of_mem_take hn)⟩
  intro j z hj
  have hjl : j < len := by have := (List.getElem?_eq_some_iff.1 hj).1; simp at this; omega
  obtain ⟨b, off, rfl, hc'⟩ := ints_at hc (by omega)
  refine ⟨b, off, rfl, ?_⟩
  rw [hc' j (by omega)]
  rw [List.getElem?_take_of_lt hjl] at hj
  simp [List.getD, hj]
theorem open_list {H : Type} {enc : TypeId × Value → H} {W : World} {base : Nat} {v : Value} {d : DataW H} {p : List MemPlace} (hv : Value.okWide Tryd.prog W .any base 22 v) (h : DataW.Trod enc Tryd.prog W 0 (fun _ => true) true 22 v d p) :
    ∃ a len cap zs, v = .slice a len cap ∧ LIn W a len zs := by
  obtain ⟨a, len, cap, rfl⟩ := okWide_slice Tryd.underlying22 hv
  obtain ⟨fuel, hf⟩ := h
  rcases open_ints Tryd.underlying22 Tryd.underlying3 (by kernel_rfl) hf with ⟨hcs, _⟩ | ⟨x, l, c, zs, hcs, _, hl, hm, hz, _, hcell, hwz⟩
  · simp [Value.cells] at hcs
    obtain ⟨rfl, rfl, rfl⟩ := hcs
    exact ⟨none, 0, 0, [], rfl, rfl, fun j z hj => by simp at hj, by omega, by simp⟩
  · simp [Value.cells] at hcs
    obtain ⟨rfl, rfl, rfl⟩ := hcs
    exact ⟨_, _, _, _, rfl, LIn.of hl hm (by simpa using hz) hcell hwz⟩
end Go.Proofs.YtcaibfalhkhleaaDoor
