/-
  The walks of TrailingZeros64, and of the iterator over a word's ones.
-/
import Derived.Test.YtcaibfalhkhleaaDoorSeq
import Derived.Test.YtcaibfalhkhleaaDoorRead
import Derived.Shelf.Spec.TrailingZeros
import Derived.Shelf.Abstract
import Derived.Shelf.RegionOpen
import Derived.OwnWalkIn
import Derived.TacticsInMore
import Derived.LoopNIn
import Derived.LoopIn
namespace Go.Proofs.YtcaibfalhkhleaaDoor
set_option linter.unusedVariables false
open Go.RowKit Go.Shelf
attribute [local go_sem] Oper.semAt_some

set_option maxHeartbeats 1000000 in
theorem tz_core (x k idx : Nat) (w : World) (hx0 : ((x : Int) == 0) = false)
    (key : IntKind.u64.wrap (bits BinOp.and IntKind.u64 (x : Int) (IntKind.u64.wrap (-(x : Int))) * 285870213051353865) / 288230376151711744 = (idx : Int))
    (hi : idx < 64) (hk : k < 64) (hcell : w.cell? ⟨0, idx, none⟩ = some (.int .u8 k)) :
    Calls Tryd.prog 49 #[.int .u64 x] w fun e w' => e = .returned (.int .i64 k) ∧ w = w' := by
  go_enter Tryd.func49, Tryd.ntmps49
  go_wp2_with (simp only [key])
  go_ret
  exact ⟨rfl, rfl⟩

/-- The table that TrailingZeros64 looks into is as it was laid. -/
def Tab (w : World) : Prop := TabAt 0 Lib.deBruijn64tab w
theorem tz_any (x : Nat) (hx : x < 18446744073709551616) (hx0 : x ≠ 0) (w : World) (hT : Tab w) :
    Calls Tryd.prog 49 #[.int .u64 x] w fun e w' => e = .returned (.int .i64 (Lib.ctz 64 x : Nat)) ∧ w = w' := by
  obtain ⟨hlow, hk⟩ := Lib.lowest_bit 64 x hx0 hx
  obtain ⟨hi, htab⟩ := Lib.deBruijn64_at _ hk
  have hcell := hT _ hi
  rw [htab] at hcell
  exact tz_core x _ _ w (by simp; omega) (tz64_key x _ hx hx0 hlow) hi hk hcell

set_option maxHeartbeats 400000 in
theorem ones_any (x : Nat) (w : World) :
    Calls Tryd.prog 45 #[.int .u64 x] w fun e w' => e = .returned (.func (.func 48) #[] #[.pointer (some ⟨w.heap.size, 0, none⟩)]) ∧ w.alloc (.cells #[.int .u64 x] 58) = w' := by
  go_enter Tryd.func45, Tryd.ntmps45
  go_wp2
  go_ret
  exact ⟨rfl, rfl⟩

theorem at_wide {n : Nat} {P : Program} {f : FuncId} {args : Array Value} {w : World} {R : Ending → World → Prop} (h : Calls P f args w R) : Fence.wide.fn f ∧ (Fence.wide.depth.isSome = true → 1 ≤ n) ∧ CallsIn Fence.wide (n - 1) P f args w R :=
  ⟨trivial, fun h => by simp [Fence.wide] at h, callsIn_wide.2 h⟩

/-- How a number is handed on. -/
def encN (j : Nat) : Array Value := #[.int .i64 j]

theorem pred_key (x : Nat) (hx : x < 18446744073709551616) (h0 : x ≠ 0) : IntKind.u64.wrap ((x : Int) - 1) = ((x - 1 : Nat) : Int) ∧ bits BinOp.and IntKind.u64 (x : Int) ((x - 1 : Nat) : Int) = ((x &&& (x - 1) : Nat) : Int) := by
  refine ⟨by rw [IntKind.wrap_u64]; omega, u64_and_nat _ _ hx (by omega)⟩

set_option maxRecDepth 100000 in
set_option maxHeartbeats 1000000 in
theorem ones1_in (n l B x : Nat) (hx : x < 18446744073709551616) (J Jx : List Nat → (Nat → Prop) → World → Prop) (W : World) (hB : W.cell? ⟨B, 0, none⟩ = some (.int .u64 x)) (hK : ∀ s G W, J s G W → Tab W)
    (hY : ∀ pre x₁ G W1, J pre G W1 → pre ++ [x₁] <+: bitsOf x → YieldAt Fence.wide (n - 1) Tryd.prog l (encN x₁) W1 fun e W' =>
      (e = .returned (.bool true) ∧ J (pre ++ [x₁]) G W' ∧ Kept G W1 W') ∨ (e = .returned (.bool false) ∧ Jx (pre ++ [x₁]) G W' ∧ Kept G W1 W'))
    (h0 : J [] (fun _ => False) W) :
    CallsIn Fence.wide n Tryd.prog 48 #[.func (.yield l) #[] #[], .pointer (some ⟨B, 0, none⟩)] W fun e W' => (∃ v, e = .returned v) ∧ ((∃ G, J (bitsOf x) G W') ∨ (∃ pre G, pre <+: bitsOf x ∧ Jx pre G W')) := by
  refine callsIn_of_wp Tryd.func48 rfl trivial ?_ rfl
  simp only [Tryd.ntmps48, List.size_toArray, List.length_cons, List.length_nil, Nat.reduceAdd, Nat.reduceSub, Array.replicate_succ, Array.replicate_zero, List.push_toArray, List.append_toArray, List.nil_append, List.cons_append]
  have HY := hidIt hY
  have HK := hidIt hK
  have H0 := hidIt h0
  clear hY hK h0
  gi_wp2
  gi_loopw [3] (fun v wr => ∃ (r : Nat) (pre : List Nat), v = .int .u64 r ∧ r < 18446744073709551616 ∧ Hid (bitsOf x = pre ++ bitsOf r) ∧ Hid (∃ G, J pre G wr)) (fun v _ => (intOf v).toNat)
  case atStart => exact ⟨x, [], rfl, hx, rfl, _, H0.out⟩
  case round =>
    clear H0 hB
    obtain ⟨r, pre, rfl, hr, hpre, hJ⟩ := hrel
    obtain ⟨G, hG⟩ := hJ.out
    have HG := hidIt hG
    by_cases hr0 : r = 0
    · subst hr0
      have HF : Hid (∃ G, J (bitsOf x) G wr) := ⟨G, by rw [hpre.out, bitsOf_zero, List.append_nil]; exact HG.out⟩
      clear hJ hG HG hpre
      gi_wp2
      go_end0
      exact ⟨⟨_, rfl⟩, .inl HF.out⟩
    · have hlow := bitsOf_low r hr0 hr
      have hmem : Hid (pre ++ [Lib.ctz 64 r] <+: bitsOf x) := by
        show _ <+: _
        rw [hpre.out, hlow]
        exact ⟨bitsOf (r &&& (r - 1)), by simp⟩
      have htz := hidIt (tz_any r hr hr0 wr (HK.out _ _ _ HG.out))
      have hctz := ctz_lt r hr0 hr
      have HN : Hid (bitsOf x = (pre ++ [Lib.ctz 64 r]) ++ bitsOf (r &&& (r - 1))) := by
        show _ = _
        rw [hpre.out, hlow]
        simp
      obtain ⟨hk1, hk2⟩ := pred_key r hr hr0
      have hr2 := and_pred_lt r hr
      have hr3 : r &&& (r - 1) < r := Nat.lt_of_le_of_lt Nat.and_le_right (by omega)
      have hne : ((r : Int) != 0) = true := by simp; omega
      obtain ⟨fn, tmps, assign, body, hy, hRd⟩ := HY.out _ _ _ _ HG.out hmem.out
      have HR := hidIt hRd
      unfold encN at hy
      clear hJ hG hpre hlow hRd
      generalize Lib.ctz 64 r = c at *
      generalize r &&& (r - 1) = r2 at *
      gi_wp2_with fail
      refine at_wide (htz.out.mono ?_)
      rintro e w' ⟨rfl, rfl⟩
      clear htz
      gi_wp2
      refine ⟨fun h => by simp [Fence.wide] at h, HR.out.mono ?_⟩
      clear HR hy
      rintro e W3 (⟨rfl, hJ3, hk3⟩ | ⟨rfl, hJx3, hk3⟩)
      · have HJ3 := hidIt hJ3
        clear hJ3 hk3
        gi_wp2
        go_roundw
        case rel => exact ⟨r2, pre ++ [c], by simp, by omega, HN, _, HJ3.out⟩
        case measure => simp [intOf]; omega
      · have HF : Hid (∃ pre G, pre <+: bitsOf x ∧ Jx pre G W3) := ⟨_, G, hmem.out, hJx3⟩
        clear hJx3 hk3
        gi_wp2
        refine bodyPost_ret (results_none rfl _ _ _) rfl ?_
        exact ⟨⟨_, rfl⟩, .inr HF.out⟩

theorem ones1_seq (n B x : Nat) (hx : x < 18446744073709551616) (w : World) (hB : w.cell? ⟨B, 0, none⟩ = some (.int .u64 x)) : SeqG n Tryd.prog 48 #[.pointer (some ⟨B, 0, none⟩)] encN Tab (bitsOf x) w :=
  fun l J Jx W hW _ _ hK hY h0 => ones1_in n l B x hx J Jx W ((hW.cell (p := ⟨B, 0, none⟩) (World.block_lt_of_cell? w _ hB)).trans hB) hK hY h0
end Go.Proofs.YtcaibfalhkhleaaDoor
