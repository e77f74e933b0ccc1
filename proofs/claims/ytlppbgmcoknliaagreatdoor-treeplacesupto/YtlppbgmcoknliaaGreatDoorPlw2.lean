/-
  TreePlaces, of places of any length.
-/
import Derived.Test.YtlppbgmcoknliaaGreatDoorSiz
import Derived.Test.YtlppbgmcoknliaaGreatDoorPlw
namespace Go.Proofs.YtlppbgmcoknliaaGreatDoor
set_option linter.unusedVariables false
open Go.RowKit
theorem places_walk (s : ByteArray) (a b : PlaceX) (w : World) (hs : s.size ≤ 1048576) (ha : a.At w) (hb : b.At w) (hz : a.d.sz ≤ 1048576) (hac : a.Cap) (hbc : b.Cap) :
    Calls Tryz.prog 3 #[.string s, .agg a.row.toArray, .agg b.row.toArray] w fun e w' => e = .returned (.bool true) ∧ Below w.heap.size w w' := by
  have n1 := St.big ha
  have n2 := St.big hb
  by_cases h : 1000 < s.size ∨ 100 < a.steps.length ∨ 100 < b.steps.length
  · exact places_long s a.loc b.loc a.sa b.sa _ _ _ _ w hs n1 n2 h
  · exact places_short s a b w hs ha hb (fit_place hz) (Nat.le_trans (text_sz a.d) hz) hac hbc (by omega) (by omega) (by omega)
end Go.Proofs.YtlppbgmcoknliaaGreatDoor
