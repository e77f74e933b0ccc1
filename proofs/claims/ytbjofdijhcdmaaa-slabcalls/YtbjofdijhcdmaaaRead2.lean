/-
  What Load, Off, Size, Live and Used answer, by the data that a slab stands for; they turn nothing.
-/
import Derived.Test.YtbjofdijhcdmaaaRead
namespace Go.Proofs.Ytbjofdijhcdmaaa
set_option linter.unusedVariables false
open Go.RowKit

section
variable {w : World} {A : Nat} {st : Sl} {fp : Nat → Prop} {ve vf : Value} {es : List (Value × Value)}

set_option maxHeartbeats 400000 in
theorem live_any (h : Rep w A st fp) : Calls Try.prog 19 #[.pointer (some ⟨A, 0, none⟩)] w fun e w' => e = .returned (.int .i64 st.live) ∧ w = w' := by
  obtain ⟨ve, vf, es, h⟩ := h
  have h1 := h.cells.2.1
  clear h
  go_enter Try.func19, Try.ntmps19
  go_wp2
  go_ret
  exact ⟨rfl, rfl⟩

set_option maxHeartbeats 400000 in
theorem used_any (h : Rep w A st fp) : Calls Try.prog 22 #[.pointer (some ⟨A, 0, none⟩)] w fun e w' => e = .returned (.int .i64 st.used) ∧ w = w' := by
  obtain ⟨ve, vf, es, h⟩ := h
  have h1 := h.cells.2.2.1
  clear h
  go_enter Try.func22, Try.ntmps22
  go_wp2
  go_ret
  exact ⟨rfl, rfl⟩

set_option maxHeartbeats 400000 in
theorem load_err (A : Nat) (a c : Int) (w : World) (hc : (c != 0) = true)
    (hf : Hid (Calls Try.prog 42 #[.pointer (some ⟨A, 0, none⟩), .int .u64 a] w fun e w' => e = .returned (.tuple #[.pointer none, .int .i64 0, .int .i64 c]) ∧ w = w')) :
    Calls Try.prog 18 #[.pointer (some ⟨A, 0, none⟩), .int .u64 a] w fun e w' => e = .returned (.tuple #[.int .i64 0, .int .i64 c]) ∧ w = w' := by
  go_enter Try.func18, Try.ntmps18
  go_wp2_with (go_at_call 42; refine hf.out.mono ?_; rintro e w' ⟨rfl, rfl⟩)
  go_ret2
  exact ⟨rfl, rfl⟩

set_option maxHeartbeats 400000 in
theorem size_err (A : Nat) (a c : Int) (w : World) (hc : (c != 0) = true)
    (hf : Hid (Calls Try.prog 42 #[.pointer (some ⟨A, 0, none⟩), .int .u64 a] w fun e w' => e = .returned (.tuple #[.pointer none, .int .i64 0, .int .i64 c]) ∧ w = w')) :
    Calls Try.prog 23 #[.pointer (some ⟨A, 0, none⟩), .int .u64 a] w fun e w' => e = .returned (.tuple #[.int .i64 0, .int .i64 c]) ∧ w = w' := by
  go_enter Try.func23, Try.ntmps23
  go_wp2_with (go_at_call 42; refine hf.out.mono ?_; rintro e w' ⟨rfl, rfl⟩)
  go_ret2
  exact ⟨rfl, rfl⟩

set_option maxHeartbeats 400000 in
theorem off_err (A : Nat) (a k c : Int) (w : World) (hc : (c != 0) = true)
    (hf : Hid (Calls Try.prog 42 #[.pointer (some ⟨A, 0, none⟩), .int .u64 a] w fun e w' => e = .returned (.tuple #[.pointer none, .int .i64 0, .int .i64 c]) ∧ w = w')) :
    Calls Try.prog 20 #[.pointer (some ⟨A, 0, none⟩), .int .u64 a, .int .i64 k] w fun e w' => e = .returned (.tuple #[.int .u64 0, .int .i64 c]) ∧ w = w' := by
  go_enter Try.func20, Try.ntmps20
  go_wp2_with (go_at_call 42; refine hf.out.mono ?_; rintro e w' ⟨rfl, rfl⟩)
  go_ret2
  exact ⟨rfl, rfl⟩

set_option maxHeartbeats 400000 in
theorem load_ok (A g o gt nt ct p : Nat) (a v : Int) (b : Bool) (w : World)
    (hT : w.cell? ⟨g, o + 1, none⟩ = some (.slice (some ⟨gt, 0, none⟩) nt ct)) (hp : p < nt) (hV : w.cell? ⟨gt, p * 2, none⟩ = some (.int .i64 v)) (hB : w.cell? ⟨gt, p * 2 + 1, none⟩ = some (.bool b))
    (hf : Hid (Calls Try.prog 42 #[.pointer (some ⟨A, 0, none⟩), .int .u64 a] w fun e w' => e = .returned (.tuple #[.pointer (some ⟨g, o, none⟩), .int .i64 p, .int .i64 0]) ∧ w = w')) :
    Calls Try.prog 18 #[.pointer (some ⟨A, 0, none⟩), .int .u64 a] w fun e w' => e = .returned (.tuple #[.int .i64 (if b then v else 0), .int .i64 (if b then 0 else 15)]) ∧ w = w' := by
  cases b
  all_goals
    go_enter Try.func18, Try.ntmps18
    go_wp2_with (go_at_call 42; refine hf.out.mono ?_; rintro e w' ⟨rfl, rfl⟩)
    go_ret2
    exact ⟨rfl, rfl⟩

set_option maxHeartbeats 400000 in
theorem size_ok (A g o nt ct : Nat) (at_ : Option Addr) (a p : Int) (w : World)
    (hT : w.cell? ⟨g, o + 1, none⟩ = some (.slice at_ nt ct))
    (hf : Hid (Calls Try.prog 42 #[.pointer (some ⟨A, 0, none⟩), .int .u64 a] w fun e w' => e = .returned (.tuple #[.pointer (some ⟨g, o, none⟩), .int .i64 p, .int .i64 0]) ∧ w = w')) :
    Calls Try.prog 23 #[.pointer (some ⟨A, 0, none⟩), .int .u64 a] w fun e w' => e = .returned (.tuple #[.int .i64 nt, .int .i64 0]) ∧ w = w' := by
  go_enter Try.func23, Try.ntmps23
  go_wp2_with (go_at_call 42; refine hf.out.mono ?_; rintro e w' ⟨rfl, rfl⟩)
  go_ret2
  exact ⟨rfl, rfl⟩

set_option maxHeartbeats 400000 in
theorem off_ok (A g o ns cs nt ct p : Nat) (as_ at_ : Option Addr) (a k : Int) (w : World) (h0 : 0 ≤ a) (h1 : a < 18446744073709551616) (hi : a % 4294967296 / 4096 < 1000000)
    (hS : w.cell? ⟨g, o, none⟩ = some (.slice as_ ns cs)) (hns : 1 ≤ ns) (hns2 : ns ≤ 1000000000) (hT : w.cell? ⟨g, o + 1, none⟩ = some (.slice at_ nt ct)) (hnt : nt < 10000) (hp : p < nt) (hk1 : - (p : Int) ≤ k) (hk2 : k < (nt : Int) - p)
    (hf : Hid (Calls Try.prog 42 #[.pointer (some ⟨A, 0, none⟩), .int .u64 a] w fun e w' => e = .returned (.tuple #[.pointer (some ⟨g, o, none⟩), .int .i64 p, .int .i64 0]) ∧ w = w')) :
    Calls Try.prog 20 #[.pointer (some ⟨A, 0, none⟩), .int .u64 a, .int .i64 k] w fun e w' => e = .returned (.tuple #[.int .u64 (4611686018427387904 + ((ns : Int) - 1) * 4294967296 + a % 4294967296 / 4096 * 4096 + (p + k)), .int .i64 0]) ∧ w = w' := by
  have hix : 0 ≤ a % 4294967296 / 4096 := by omega
  go_enter Try.func20, Try.ntmps20
  go_wp2_with (first | (go_at_call 42; refine hf.out.mono ?_; rintro e w' ⟨rfl, rfl⟩) | (go_at_call 43; refine (indexOf_any _ _ h0 h1).mono ?_; rintro e w' ⟨rfl, rfl⟩) | (go_at_call 40; refine (first_any _ _ _ _ _ _ _ hS hns hns2 hix hi).mono ?_; rintro e w' ⟨rfl, rfl⟩))
  go_ret2
  exact ⟨rfl, rfl⟩

set_option maxHeartbeats 400000 in
theorem off_out (A g o nt ct p : Nat) (at_ : Option Addr) (a k : Int) (w : World)
    (hT : w.cell? ⟨g, o + 1, none⟩ = some (.slice at_ nt ct)) (hnt : nt < 10000) (hp : p < nt) (hk : k < - (p : Int) ∨ (nt : Int) - p ≤ k)
    (hf : Hid (Calls Try.prog 42 #[.pointer (some ⟨A, 0, none⟩), .int .u64 a] w fun e w' => e = .returned (.tuple #[.pointer (some ⟨g, o, none⟩), .int .i64 p, .int .i64 0]) ∧ w = w')) :
    Calls Try.prog 20 #[.pointer (some ⟨A, 0, none⟩), .int .u64 a, .int .i64 k] w fun e w' => e = .returned (.tuple #[.int .u64 0, .int .i64 11]) ∧ w = w' := by
  by_cases hk1 : k < - (p : Int)
  · clear hk
    go_enter Try.func20, Try.ntmps20
    go_wp2_with (go_at_call 42; refine hf.out.mono ?_; rintro e w' ⟨rfl, rfl⟩)
    go_ret2
    exact ⟨rfl, rfl⟩
  · have hk2 : (nt : Int) - p ≤ k := by omega
    clear hk
    go_enter Try.func20, Try.ntmps20
    go_wp2_with (go_at_call 42; refine hf.out.mono ?_; rintro e w' ⟨rfl, rfl⟩)
    go_ret2
    exact ⟨rfl, rfl⟩

end
end Go.Proofs.Ytbjofdijhcdmaaa
