/-
  The walks of a slab's readers: indexOf, age, taken, first, find.
-/
import Derived.Test.YtbjofdijhcdmaaaProg
import Derived.Test.YtbjofdijhcdmaaaRep
import Derived.WalkLawsBesides
namespace Go.Proofs.Ytbjofdijhcdmaaa
set_option linter.unusedVariables false
open Go.RowKit

set_option maxHeartbeats 400000 in
theorem indexOf_any (a : Int) (w : World) (h0 : 0 ≤ a) (h1 : a < 18446744073709551616) :
    Calls Try.prog 43 #[.int .u64 a] w fun e w' => e = .returned (.int .i64 (a % 4294967296 / 4096)) ∧ w = w' := by
  go_enter Try.func43, Try.ntmps43
  go_wp2
  go_ret
  exact ⟨rfl, rfl⟩

set_option maxHeartbeats 400000 in
theorem age_any (g o : Nat) (ao : Option Addr) (n cap : Nat) (w : World) (hc : w.cell? ⟨g, o, none⟩ = some (.slice ao n cap)) (hn : n ≤ 1000000000) :
    Calls Try.prog 48 #[.pointer (some ⟨g, o, none⟩)] w fun e w' => e = .returned (.int .i64 ((n : Int) - 1)) ∧ w = w' := by
  go_enter Try.func48, Try.ntmps48
  go_wp2
  go_ret
  exact ⟨rfl, rfl⟩

set_option maxHeartbeats 400000 in
theorem taken_any (g o : Nat) (ao : Option Addr) (n cap : Nat) (w : World) (hc : w.cell? ⟨g, o + 1, none⟩ = some (.slice ao n cap)) :
    Calls Try.prog 49 #[.pointer (some ⟨g, o, none⟩)] w fun e w' => e = .returned (.bool (decide (0 < n))) ∧ w = w' := by
  go_enter Try.func49, Try.ntmps49
  go_wp2
  go_ret
  exact ⟨by simp, rfl⟩

set_option maxHeartbeats 400000 in
theorem first_any (g o : Nat) (ao : Option Addr) (n cap : Nat) (i : Int) (w : World) (hc : w.cell? ⟨g, o, none⟩ = some (.slice ao n cap)) (h1 : 1 ≤ n) (hn : n ≤ 1000000000) (hi0 : 0 ≤ i) (hi : i < 1000000) :
    Calls Try.prog 40 #[.pointer (some ⟨g, o, none⟩), .int .i64 i] w fun e w' => e = .returned (.int .u64 (4611686018427387904 + ((n : Int) - 1) * 4294967296 + i * 4096)) ∧ w = w' := by
  go_enter Try.func40, Try.ntmps40
  go_wp2_with (go_at_call 48; refine (age_any _ _ _ _ _ _ hc hn).mono ?_; rintro e w' ⟨rfl, rfl⟩)
  go_ret
  exact ⟨rfl, rfl⟩

set_option maxHeartbeats 400000 in
theorem find_low (A : Nat) (a : Int) (w : World) (h0 : 0 ≤ a) (hb : a < 4611686018427387904) :
    Calls Try.prog 42 #[.pointer (some ⟨A, 0, none⟩), .int .u64 a] w fun e w' => e = .returned (.tuple #[.pointer none, .int .i64 0, .int .i64 12]) ∧ w = w' := by
  have h1 : a < 18446744073709551616 := by omega
  go_enter Try.func42, Try.ntmps42
  go_wp2_with (first | (go_at_call 43; refine (indexOf_any _ _ h0 h1).mono ?_; rintro e w' ⟨rfl, rfl⟩))
  go_ret3
  exact ⟨rfl, rfl⟩

set_option maxHeartbeats 400000 in
theorem find_beyond (A : Nat) (ao : Option Addr) (n cap : Nat) (a : Int) (w : World) (h0 : 0 ≤ a) (h1 : a < 18446744073709551616) (hb : 4611686018427387904 ≤ a)
   (hE : w.cell? ⟨A, 3, none⟩ = some (.slice ao n cap)) (hi : (n : Int) ≤ a % 4294967296 / 4096) :
    Calls Try.prog 42 #[.pointer (some ⟨A, 0, none⟩), .int .u64 a] w fun e w' => e = .returned (.tuple #[.pointer none, .int .i64 0, .int .i64 12]) ∧ w = w' := by
  go_enter Try.func42, Try.ntmps42
  go_wp2_with (first | (go_at_call 43; refine (indexOf_any _ _ h0 h1).mono ?_; rintro e w' ⟨rfl, rfl⟩))
  go_ret3
  exact ⟨rfl, rfl⟩

set_option maxHeartbeats 400000 in
theorem find_older (A g n cap : Nat) (ao : Option Addr) (ns cs : Nat) (a : Int) (w : World) (h0 : 0 ≤ a) (h1 : a < 18446744073709551616) (hb : 4611686018427387904 ≤ a)
   (hE : w.cell? ⟨A, 3, none⟩ = some (.slice (some ⟨g, 0, none⟩) n cap)) (hi : a % 4294967296 / 4096 < (n : Int))
   (hS : w.cell? ⟨g, (a % 4294967296 / 4096).toNat * 2, none⟩ = some (.slice ao ns cs)) (hA : (ns : Int) ≤ (a - 4611686018427387904) / 4294967296) :
    Calls Try.prog 42 #[.pointer (some ⟨A, 0, none⟩), .int .u64 a] w fun e w' => e = .returned (.tuple #[.pointer none, .int .i64 0, .int .i64 12]) ∧ w = w' := by
  go_enter Try.func42, Try.ntmps42
  go_wp2_with (first | (go_at_call 43; refine (indexOf_any _ _ h0 h1).mono ?_; rintro e w' ⟨rfl, rfl⟩))
  go_ret3
  exact ⟨rfl, rfl⟩

set_option maxHeartbeats 400000 in
theorem find_place (A g n cap gs ns cs : Nat) (z a : Int) (w : World) (h0 : 0 ≤ a) (h1 : a < 18446744073709551616) (hb : 4611686018427387904 ≤ a)
   (hE : w.cell? ⟨A, 3, none⟩ = some (.slice (some ⟨g, 0, none⟩) n cap)) (hi : a % 4294967296 / 4096 < (n : Int))
   (hS : w.cell? ⟨g, (a % 4294967296 / 4096).toNat * 2, none⟩ = some (.slice (some ⟨gs, 0, none⟩) ns cs)) (hA : (a - 4611686018427387904) / 4294967296 < (ns : Int))
   (hZ : w.cell? ⟨gs, ((a - 4611686018427387904) / 4294967296).toNat, none⟩ = some (.int .u16 z)) (hz0 : 0 ≤ z) (hz : z ≤ a % 4096) :
    Calls Try.prog 42 #[.pointer (some ⟨A, 0, none⟩), .int .u64 a] w fun e w' => e = .returned (.tuple #[.pointer none, .int .i64 0, .int .i64 12]) ∧ w = w' := by
  go_enter Try.func42, Try.ntmps42
  go_wp2_with (first | (go_at_call 43; refine (indexOf_any _ _ h0 h1).mono ?_; rintro e w' ⟨rfl, rfl⟩))
  go_ret3
  exact ⟨rfl, rfl⟩

set_option maxHeartbeats 400000 in
theorem find_freed (A g n cap gs ns cs : Nat) (at_ : Option Addr) (nt ct : Nat) (z a : Int) (w : World) (h0 : 0 ≤ a) (h1 : a < 18446744073709551616) (hb : 4611686018427387904 ≤ a)
   (hE : w.cell? ⟨A, 3, none⟩ = some (.slice (some ⟨g, 0, none⟩) n cap)) (hi : a % 4294967296 / 4096 < (n : Int))
   (hS : w.cell? ⟨g, (a % 4294967296 / 4096).toNat * 2, none⟩ = some (.slice (some ⟨gs, 0, none⟩) ns cs)) (hns : ns ≤ 1000000000) (hA : (a - 4611686018427387904) / 4294967296 < (ns : Int))
   (hT : w.cell? ⟨g, (a % 4294967296 / 4096).toNat * 2 + 1, none⟩ = some (.slice at_ nt ct))
   (hZ : w.cell? ⟨gs, ((a - 4611686018427387904) / 4294967296).toNat, none⟩ = some (.int .u16 z)) (hz0 : a % 4096 < z) (hz : z ≤ 65535)
   (hF : (a - 4611686018427387904) / 4294967296 < (ns : Int) - 1 ∨ nt = 0) :
    Calls Try.prog 42 #[.pointer (some ⟨A, 0, none⟩), .int .u64 a] w fun e w' => e = .returned (.tuple #[.pointer none, .int .i64 0, .int .i64 14]) ∧ w = w' := by
  have hz1 : 0 ≤ z := by omega
  by_cases hF1 : (a - 4611686018427387904) / 4294967296 < (ns : Int) - 1
  · clear hF
    go_enter Try.func42, Try.ntmps42
    go_wp2_with (first | (go_at_call 43; refine (indexOf_any _ _ h0 h1).mono ?_; rintro e w' ⟨rfl, rfl⟩) | (go_at_call 48; refine (age_any _ _ _ _ _ _ hS hns).mono ?_; rintro e w' ⟨rfl, rfl⟩))
    go_ret3
    exact ⟨rfl, rfl⟩
  · obtain rfl : nt = 0 := by omega
    clear hF
    go_enter Try.func42, Try.ntmps42
    go_wp2_with (first | (go_at_call 43; refine (indexOf_any _ _ h0 h1).mono ?_; rintro e w' ⟨rfl, rfl⟩) | (go_at_call 48; refine (age_any _ _ _ _ _ _ hS hns).mono ?_; rintro e w' ⟨rfl, rfl⟩) | (go_at_call 49; refine (taken_any _ _ _ _ _ _ hT).mono ?_; rintro e w' ⟨rfl, rfl⟩))
    go_ret3
    exact ⟨rfl, rfl⟩

set_option maxHeartbeats 400000 in
theorem find_good (A g n cap gs ns cs : Nat) (at_ : Option Addr) (nt ct : Nat) (z a : Int) (w : World) (h0 : 0 ≤ a) (h1 : a < 18446744073709551616) (hb : 4611686018427387904 ≤ a)
   (hE : w.cell? ⟨A, 3, none⟩ = some (.slice (some ⟨g, 0, none⟩) n cap)) (hi : a % 4294967296 / 4096 < (n : Int))
   (hS : w.cell? ⟨g, (a % 4294967296 / 4096).toNat * 2, none⟩ = some (.slice (some ⟨gs, 0, none⟩) ns cs)) (hns : ns ≤ 1000000000) (hA : (a - 4611686018427387904) / 4294967296 < (ns : Int))
   (hT : w.cell? ⟨g, (a % 4294967296 / 4096).toNat * 2 + 1, none⟩ = some (.slice at_ nt ct))
   (hZ : w.cell? ⟨gs, ((a - 4611686018427387904) / 4294967296).toNat, none⟩ = some (.int .u16 z)) (hz0 : a % 4096 < z) (hz : z ≤ 65535)
   (hF1 : (ns : Int) - 1 ≤ (a - 4611686018427387904) / 4294967296) (hF2 : 0 < nt) :
    Calls Try.prog 42 #[.pointer (some ⟨A, 0, none⟩), .int .u64 a] w fun e w' => e = .returned (.tuple #[.pointer (some ⟨g, (a % 4294967296 / 4096).toNat * 2, none⟩), .int .i64 (a % 4096), .int .i64 0]) ∧ w = w' := by
  have hz1 : 0 ≤ z := by omega
  go_enter Try.func42, Try.ntmps42
  go_wp2_with (first | (go_at_call 43; refine (indexOf_any _ _ h0 h1).mono ?_; rintro e w' ⟨rfl, rfl⟩) | (go_at_call 48; refine (age_any _ _ _ _ _ _ hS hns).mono ?_; rintro e w' ⟨rfl, rfl⟩) | (go_at_call 49; refine (taken_any _ _ _ _ _ _ hT).mono ?_; rintro e w' ⟨rfl, rfl⟩))
  go_ret3
  exact ⟨rfl, rfl⟩
end Go.Proofs.Ytbjofdijhcdmaaa
