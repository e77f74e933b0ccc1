/-
  The walks of OnesCount64 and Len.
-/
import Derived.Test.YtcaibfalhkhleaaDoorNew
namespace Go.Proofs.YtcaibfalhkhleaaDoor
set_option linter.unusedVariables false
open Go.RowKit

theorem byte_le : ∀ b, b < 256 → a1 b ≤ 170 ∧ b1 (a1 b) ≤ 68 := by decide +kernel
theorem stA_le (k x : Nat) : stA k x ≤ 170 * msk 1 k := by
  induction k generalizing x with
  | zero => simp [stA, msk]
  | succ k ih =>
    have h1 := (byte_le (x % 256) (by omega)).1
    have h2 := ih (x / 256)
    rw [stA_succ, msk_succ]
    omega
theorem stBA_le (k x : Nat) : stB k (stA k x) ≤ 68 * msk 1 k := by
  induction k generalizing x with
  | zero => simp [stB, msk]
  | succ k ih =>
    have h1 := (byte_le (x % 256) (by omega)).2
    have h2 := ih (x / 256)
    rw [stBA_succ, msk_succ]
    omega
theorem msk8 : msk 1 8 = 72340172838076673 := by decide

theorem and_nat (x m : Nat) (hx : x < 18446744073709551616) (hm : m < 18446744073709551616) : bits BinOp.and IntKind.u64 (x : Int) (m : Int) = ((x &&& m : Nat) : Int) := u64_and_nat x m hx hm

theorem steps (x : Nat) (hx : x < 18446744073709551616) : ∃ a b c : Nat,
    IntKind.u64.wrap (bits BinOp.and IntKind.u64 ((x : Int) / 2) 6148914691236517205 + bits BinOp.and IntKind.u64 (x : Int) 6148914691236517205) = (a : Int) ∧
    IntKind.u64.wrap (bits BinOp.and IntKind.u64 ((a : Int) / 4) 3689348814741910323 + bits BinOp.and IntKind.u64 (a : Int) 3689348814741910323) = (b : Int) ∧
    bits BinOp.and IntKind.u64 (IntKind.u64.wrap ((b : Int) / 16 + (b : Int))) 1085102592571150095 = (c : Int) ∧ c < 1152921504606846976 ∧
    (c + c / 256 + (c + c / 256) / 65536 + (c + c / 256 + (c + c / 256) / 65536) / 4294967296) % 128 = ones 64 x := by
  obtain ⟨c, hc, hcl, hs⟩ := swar_sum x
  have m1 := masks
  have h1 := stA_le 8 x
  have h2 := stBA_le 8 x
  rw [msk8] at h1 h2
  refine ⟨stA 8 x, stB 8 (stA 8 x), c, ?_, ?_, ?_, by omega, hs⟩
  · have e1 := and_nat (x / 2) 6148914691236517205 (by omega) (by omega)
    have e2 := and_nat x 6148914691236517205 hx (by omega)
    have e3 : ((x / 2 : Nat) : Int) = (x : Int) / 2 := by omega
    rw [e3] at e1
    have h3 : stA 8 x = (x / 2 &&& 6148914691236517205) + (x &&& 6148914691236517205) := by unfold stA; rw [m1.1]
    have e1' : bits BinOp.and IntKind.u64 ((x : Int) / 2) 6148914691236517205 = ((x / 2 &&& 6148914691236517205 : Nat) : Int) := e1
    have e2' : bits BinOp.and IntKind.u64 (x : Int) 6148914691236517205 = ((x &&& 6148914691236517205 : Nat) : Int) := e2
    rw [e1', e2', IntKind.wrap_u64]
    omega
  · generalize stA 8 x = a at *
    have e1 := and_nat (a / 4) 3689348814741910323 (by omega) (by omega)
    have e2 := and_nat a 3689348814741910323 (by omega) (by omega)
    have e3 : ((a / 4 : Nat) : Int) = (a : Int) / 4 := by omega
    rw [e3] at e1
    have h3 : stB 8 a = (a / 4 &&& 3689348814741910323) + (a &&& 3689348814741910323) := by unfold stB; rw [m1.2.1]
    have e1' : bits BinOp.and IntKind.u64 ((a : Int) / 4) 3689348814741910323 = ((a / 4 &&& 3689348814741910323 : Nat) : Int) := e1
    have e2' : bits BinOp.and IntKind.u64 (a : Int) 3689348814741910323 = ((a &&& 3689348814741910323 : Nat) : Int) := e2
    rw [e1', e2', IntKind.wrap_u64]
    omega
  · have h3 : stC 8 (stB 8 (stA 8 x)) = c := hc
    generalize stB 8 (stA 8 x) = b at *
    have e1 := and_nat (b / 16 + b) 1085102592571150095 (by omega) (by omega)
    have e2 : IntKind.u64.wrap ((b : Int) / 16 + (b : Int)) = ((b / 16 + b : Nat) : Int) := by rw [IntKind.wrap_u64]; omega
    have e1' : bits BinOp.and IntKind.u64 ((b / 16 + b : Nat) : Int) 1085102592571150095 = ((b / 16 + b &&& 1085102592571150095 : Nat) : Int) := e1
    rw [e2, e1']
    have h4 : (b / 16 + b &&& 1085102592571150095) = c := by rw [← h3]; unfold stC; rw [m1.2.2]
    rw [h4]
theorem and127 (x : Int) (h0 : 0 ≤ x) (h1 : x < 9223372036854775808) : bits BinOp.and IntKind.i64 x 127 = x % 128 :=
  bits_mask .i64 63 (by decide) (fun n h0 h1 => by rw [IntKind.wrap_i64]; omega) 7 (by decide) x h0 h1

set_option maxHeartbeats 1000000 in
theorem onesCount_any (x : Nat) (hx : x < 18446744073709551616) (w : World) :
    Calls Tryd.prog 33 #[.int .u64 x] w fun e w' => e = .returned (.int .i64 (ones 64 x : Nat)) ∧ w = w' := by
  obtain ⟨a, b, c, e1, e2, e3, hc, hs⟩ := steps x hx
  obtain ⟨d, hd⟩ : ∃ d, d = c + c / 256 := ⟨_, rfl⟩
  obtain ⟨e, he⟩ : ∃ e, e = d + d / 65536 := ⟨_, rfl⟩
  obtain ⟨f, hf⟩ : ∃ f, f = e + e / 4294967296 := ⟨_, rfl⟩
  rw [← hd, ← he, ← hf] at hs
  have e4 : IntKind.u64.wrap ((c : Int) + (c : Int) / 256) = (d : Int) := by rw [IntKind.wrap_u64]; omega
  have e5 : IntKind.u64.wrap ((d : Int) + (d : Int) / 65536) = (e : Int) := by rw [IntKind.wrap_u64]; omega
  have e6 : IntKind.u64.wrap ((e : Int) + (e : Int) / 4294967296) = (f : Int) := by rw [IntKind.wrap_u64]; omega
  have hfl : f < 9223372036854775808 := by omega
  have e7 := and127 f (by omega) (by omega)
  have HS : Hid ((f : Int) % 128 = ((ones 64 x : Nat) : Int)) := by show _ = _; omega
  clear hs hd he hf hc
  go_enter Tryd.func33, Tryd.ntmps33
  go_wp2_with (first | simp only [e1] | simp only [e2] | simp only [e3] | simp only [e4] | simp only [e5] | simp only [e6] | simp only [e7])
  go_ret
  exact ⟨by rw [← HS.out]; rfl, rfl⟩
end Go.Proofs.YtcaibfalhkhleaaDoor
