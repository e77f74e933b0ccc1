/-
  The walks of bit, within, Bound, Has.
-/
import Derived.Test.YtcaibfalhkhleaaDoorProg
import Derived.Test.YtcaibfalhkhleaaDoorRep
import Derived.WalkLawsBesides
import Derived.BigRegion
import Derived.Deep.QuietTactic
import Derived.BigQuiet
import Derived.Deep.RegionWith
import Derived.Laws.BitsAllLaws
namespace Go.Proofs.YtcaibfalhkhleaaDoor
set_option linter.unusedVariables false
open Go.RowKit

/-- A number's bit in its word. -/
def btN (n : Nat) : Nat := 2 ^ (n % 64)
theorem btN_lt (n : Nat) : btN n < 18446744073709551616 := bit_lt n

set_option maxHeartbeats 400000 in
theorem bit_any (n : Nat) (w : World) (hn : n < 4611686018427387904) :
    Calls Tryd.prog 36 #[.int .i64 n] w fun e w' => e = .returned (.int .u64 (btN n : Nat)) ∧ w = w' := by
  have hp := btN_lt n
  have he : IntKind.u64.wrap (2 ^ (n % 64)) = ((btN n : Nat) : Int) := by
    rw [IntKind.wrap_u64]
    have : ((2 : Int) ^ (n % 64)) = ((btN n : Nat) : Int) := by simp [btN]
    rw [this]
    omega
  go_enter Tryd.func36, Tryd.ntmps36
  go_wp2
  go_ret
  exact ⟨by rw [← he]; rfl, rfl⟩

set_option maxHeartbeats 400000 in
theorem within_in (A : Nat) (b n : Int) (w : World) (hb : w.cell? ⟨A, 0, none⟩ = some (.int .i64 b)) (h0 : 0 ≤ n) (h1 : n < b) :
    Calls Tryd.prog 35 #[.pointer (some ⟨A, 0, none⟩), .int .i64 n] w fun e w' => e = .returned (.bool true) ∧ w = w' := by
  go_enter Tryd.func35, Tryd.ntmps35
  go_wp2
  go_ret
  exact ⟨by simp, rfl⟩
set_option maxHeartbeats 400000 in
theorem within_out (A : Nat) (b n : Int) (w : World) (hb : w.cell? ⟨A, 0, none⟩ = some (.int .i64 b)) (h : n < 0 ∨ b ≤ n) :
    Calls Tryd.prog 35 #[.pointer (some ⟨A, 0, none⟩), .int .i64 n] w fun e w' => e = .returned (.bool false) ∧ w = w' := by
  by_cases h0 : n < 0
  · clear h
    go_enter Tryd.func35, Tryd.ntmps35
    go_wp2
    go_ret
    exact ⟨by simp, rfl⟩
  · have h1 : b ≤ n := by omega
    clear h
    go_enter Tryd.func35, Tryd.ntmps35
    go_wp2
    go_ret
    exact ⟨by simp; omega, rfl⟩

set_option maxHeartbeats 400000 in
theorem bound_any (A : Nat) (b : Int) (w : World) (hb : w.cell? ⟨A, 0, none⟩ = some (.int .i64 b)) :
    Calls Tryd.prog 18 #[.pointer (some ⟨A, 0, none⟩)] w fun e w' => e = .returned (.int .i64 b) ∧ w = w' := by
  go_enter Tryd.func18, Tryd.ntmps18
  go_wp2
  go_ret
  exact ⟨rfl, rfl⟩

theorem and_key (p : Nat → Bool) (n : Nat) : bits BinOp.and IntKind.u64 ((wd p (n / 64) : Nat) : Int) ((btN n : Nat) : Int) = (((wd p (n / 64) &&& btN n) : Nat) : Int) := u64_and_nat _ _ (wd_lt _ _) (btN_lt _)


set_option maxHeartbeats 1000000 in
theorem has_out (A : Nat) (b n : Int) (w : World) (hb : w.cell? ⟨A, 0, none⟩ = some (.int .i64 b)) (h : n < 0 ∨ b ≤ n) :
    Calls Tryd.prog 19 #[.pointer (some ⟨A, 0, none⟩), .int .i64 n] w fun e w' => e = .returned (.bool false) ∧ ∃ m, w' = w.drewN m := by
  have hwi : ∀ k, Calls Tryd.prog 35 #[.pointer (some ⟨A, 0, none⟩), .int .i64 n] (w.drewN k) fun e w' => e = .returned (.bool false) ∧ w' = w.drewN k := fun k => (within_out A b n (w.drewN k) hb h).mono fun e w' ⟨h1, h2⟩ => ⟨h1, h2.symm⟩
  clear h hb
  go_enter Tryd.func19, Tryd.ntmps19
  go_wp2_with fail
  go_quiet (first | (go_at_call 35; refine Calls.quiet_of_same (hwi _)))
  go_wp2
  go_ret
  exact ⟨rfl, _, rfl⟩

theorem hasp_key (p : Nat → Bool) (n : Nat) : ((((wd p (n / 64) &&& btN n) : Nat) : Int) != 0) = p n := by
  have := and_bit p n
  cases hp : p n with
  | true =>
    rw [hp] at this
    have h2 : wd p (n / 64) &&& btN n ≠ 0 := by
      rw [show btN n = 2 ^ (n % 64) from rfl, this]
    simp
    omega
  | false =>
    rw [hp] at this
    have h2 : wd p (n / 64) &&& btN n = 0 := by
      by_cases h3 : wd p (n / 64) &&& btN n = 0
      · exact h3
      · have h4 : wd p (n / 64) &&& 2 ^ (n % 64) ≠ 0 := h3
        rw [this] at h4
        simp at h4
    rw [h2]
    rfl

set_option maxHeartbeats 1000000 in
theorem has_in {w : World} {A g b : Nat} {p : Nat → Bool} (h : SetAt w A g b p) (n : Nat) (hn : n < b) :
    Calls Tryd.prog 19 #[.pointer (some ⟨A, 0, none⟩), .int .i64 n] w fun e w' => e = .returned (.bool (p n)) ∧ ∃ m, w' = w.drewN m := by
  have hb := h.bound
  have hw := h.words
  have hc := h.row.cell (nw_lt hn)
  have hi := nw_lt hn
  have hbb := h.fits.1
  have hnw := h.fits.nwLe
  have hnb : n < 65536 := by omega
  have hi2 : (n : Int) / 64 < (nw b : Int) := by omega
  have key := and_key p n
  have hwi : ∀ k, Calls Tryd.prog 35 #[.pointer (some ⟨A, 0, none⟩), .int .i64 n] (w.drewN k) fun e w' => e = .returned (.bool true) ∧ w' = w.drewN k := fun k => (within_in A b n (w.drewN k) hb (by omega) (by omega)).mono fun e w' ⟨h1, h2⟩ => ⟨h1, h2.symm⟩
  have hbt : ∀ k, Calls Tryd.prog 36 #[.int .i64 n] (w.drewN k) fun e w' => e = .returned (.int .u64 (btN n : Nat)) ∧ w' = w.drewN k := fun k => (bit_any n (w.drewN k) (by omega)).mono fun e w' ⟨h1, h2⟩ => ⟨h1, h2.symm⟩
  have HR := hidIt (hasp_key p n)
  generalize wd p (n / 64) &&& btN n = X at key HR
  clear h
  go_enter Tryd.func19, Tryd.ntmps19
  go_wp2_with fail
  go_quiet (first | (go_at_call 35; refine Calls.quiet_of_same (hwi _)) | (go_at_call 36; refine Calls.quiet_of_same (hbt _)))
  go_wp2
  go_ret
  exact ⟨by rw [← HR.out]; simp, _, rfl⟩

theorem has_any {w : World} {A g b : Nat} {p : Nat → Bool} (h : SetAt w A g b p) (n : Int) :
    Calls Tryd.prog 19 #[.pointer (some ⟨A, 0, none⟩), .int .i64 n] w fun e w' => e = .returned (.bool (hasP p n)) ∧ ∃ m, w' = w.drewN m := by
  by_cases hn : n < 0 ∨ (b : Int) ≤ n
  · have e : hasP p n = false := by
      rcases hn with hn | hn
      · simp [hasP]
        omega
      · exact hasP_fits h.fits hn
    rw [e]
    exact has_out A b n w h.bound hn
  · obtain ⟨k, rfl⟩ : ∃ k : Nat, n = k := ⟨n.toNat, by omega⟩
    have := has_in h k (by omega)
    simpa [hasP] using this
theorem SetAt.drewN {w : World} {A g b : Nat} {p : Nat → Bool} (h : SetAt w A g b p) (m : Nat) : SetAt (w.drewN m) A g b p := ⟨h.head, h.row, h.fits⟩
theorem SetAt.drew {w : World} {A g b : Nat} {p : Nat → Bool} (h : SetAt w A g b p) : SetAt w.drew A g b p := ⟨h.head, h.row, h.fits⟩
theorem Kp.drewN {fp : Nat → Prop} {a w : World} (h : Kp fp a w) (m : Nat) : Kp fp a (w.drewN m) := ⟨h.os, h.tape, h.output, h.size, h.block⟩
end Go.Proofs.YtcaibfalhkhleaaDoor
