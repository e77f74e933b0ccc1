/-
  Join, Meet and Less as data.
-/
import Derived.Test.YtcaibfalhkhleaaDoorTrim
import Derived.Test.YtcaibfalhkhleaaDoorLen
import Derived.Test.YtcaibfalhkhleaaDoorLaid
namespace Go.Proofs.YtcaibfalhkhleaaDoor
set_option linter.unusedVariables false
open Go.RowKit

/-- The first k words are mixed. -/
def mixP (op : Bool → Bool → Bool) (p q : Nat → Bool) (k : Nat) : Nat → Bool := fun n => if n < 64 * k then op (p n) (q n) else p n
theorem mix_zero (op : Bool → Bool → Bool) (p q : Nat → Bool) : mixP op p q 0 = p := by funext n; simp [mixP]
theorem mix_other (op : Bool → Bool → Bool) (p q : Nat → Bool) (k j : Nat) (h : j ≠ k) : wd (mixP op p q (k + 1)) j = wd (mixP op p q k) j := by
  refine wd_congr fun i hi => ?_
  unfold mixP
  have : (64 * j + i < 64 * (k + 1)) ↔ (64 * j + i < 64 * k) := by omega
  simp [this]
theorem mix_here (op : Bool → Bool → Bool) (p q : Nat → Bool) (k : Nat) : wd (mixP op p q k) k = wd p k := by
  refine wd_congr fun i hi => ?_
  unfold mixP
  rw [if_neg (by omega)]
theorem mix_next (op : Bool → Bool → Bool) (p q : Nat → Bool) (k : Nat) : wd (mixP op p q (k + 1)) k = wd (fun n => op (p n) (q n)) k := by
  refine wd_congr fun i hi => ?_
  unfold mixP
  rw [if_pos (by omega)]
/-- What is in it behind that. -/
def opP (op : Bool → Bool → Bool) (b : Nat) (p q : Nat → Bool) : Nat → Bool := cutP b fun n => op (p n) (q n)
theorem mix_all (op : Bool → Bool → Bool) (b : Nat) (p q : Nat → Bool) : cutP b (mixP op p q (nw b)) = opP op b p q := by
  funext n
  unfold cutP opP cutP mixP
  by_cases h : n < b
  · rw [if_pos (by have := nw_le b; omega)]
  · simp [h]
/-- Did that change anything? -/
def chg (b : Nat) (p q : Nat → Bool) : Bool := !decide (∀ i, i < nw b → wd p i = wd q i)

theorem mixAnd (p q : Nat → Bool) (k : Nat) : bits BinOp.and IntKind.u64 ((wd p k : Nat) : Int) ((wd q k : Nat) : Int) = ((wd (fun n => p n && q n) k : Nat) : Int) := by
  rw [u64_and_nat _ _ (wd_lt _ _) (wd_lt _ _)]
  congr 1
  refine wd_eq (Nat.and_lt_two_pow (n := 64) _ (wd_lt _ _)) fun j hj => ?_
  rw [Nat.testBit_and, wd_bit, wd_bit]
  simp [hj]
theorem mixOr (p q : Nat → Bool) (k : Nat) : bits BinOp.or IntKind.u64 ((wd p k : Nat) : Int) ((wd q k : Nat) : Int) = ((wd (fun n => p n || q n) k : Nat) : Int) := by
  rw [u64_or_nat _ _ (wd_lt _ _) (wd_lt _ _)]
  congr 1
  refine wd_eq (Nat.or_lt_two_pow (n := 64) (wd_lt _ _) (wd_lt _ _)) fun j hj => ?_
  rw [Nat.testBit_or, wd_bit, wd_bit]
  simp [hj]
theorem mixLess (p q : Nat → Bool) (k : Nat) : bits BinOp.andNot IntKind.u64 ((wd p k : Nat) : Int) ((wd q k : Nat) : Int) = ((wd (fun n => p n && !q n) k : Nat) : Int) := by
  rw [u64_andNot_nat _ _ (wd_lt _ _) (wd_lt _ _)]
  congr 1
  refine wd_eq (Nat.and_lt_two_pow (n := 64) _ (Nat.lt_of_le_of_lt (Nat.sub_le _ _) (by decide))) fun j hj => ?_
  rw [Nat.testBit_and, wd_bit, not_bit _ _ (wd_lt _ _) hj, wd_bit]
  simp [hj]

set_option maxHeartbeats 400000 in
theorem meet1 (p q : Nat → Bool) (k : Nat) (w : World) : Calls Tryd.prog 41 #[.int .u64 (wd p k : Nat), .int .u64 (wd q k : Nat)] w fun e w' => e = .returned (.int .u64 (wd (fun n => p n && q n) k : Nat)) ∧ w = w' := by
  have key := mixAnd p q k
  go_enter Tryd.func41, Tryd.ntmps41
  go_wp2
  go_ret
  exact ⟨by rw [← key]; rfl, rfl⟩
set_option maxHeartbeats 400000 in
theorem less1 (p q : Nat → Bool) (k : Nat) (w : World) : Calls Tryd.prog 42 #[.int .u64 (wd p k : Nat), .int .u64 (wd q k : Nat)] w fun e w' => e = .returned (.int .u64 (wd (fun n => p n && !q n) k : Nat)) ∧ w = w' := by
  have key := mixLess p q k
  go_enter Tryd.func42, Tryd.ntmps42
  go_wp2
  go_ret
  exact ⟨by rw [← key]; rfl, rfl⟩
set_option maxHeartbeats 400000 in
theorem join1 (p q : Nat → Bool) (k : Nat) (w : World) : Calls Tryd.prog 43 #[.int .u64 (wd p k : Nat), .int .u64 (wd q k : Nat)] w fun e w' => e = .returned (.int .u64 (wd (fun n => p n || q n) k : Nat)) ∧ w = w' := by
  have key := mixOr p q k
  go_enter Tryd.func43, Tryd.ntmps43
  go_wp2
  go_ret
  exact ⟨by rw [← key]; rfl, rfl⟩
end Go.Proofs.YtcaibfalhkhleaaDoor
