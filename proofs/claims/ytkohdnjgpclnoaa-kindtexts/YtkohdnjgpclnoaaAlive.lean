/-
  The walk of alive.
-/
import Derived.Test.YtkohdnjgpclnoaaSplit
namespace Go.Proofs.Ytkohdnjgpclnoaa
set_option linter.unusedVariables false
open Go.RowKit

set_option maxHeartbeats 1000000 in
theorem alive_any (w : World) : Calls Try.prog 7 #[] w fun e w' => e = .returned (.bool true) ∧ Below w.heap.size w w' := by
  have c0 : ∀ w, Calls Try.prog 9 #[.string ⟨#[109, 117, 116, 32, 98, 111, 120, 32, 105, 110, 116]⟩] w fun e w' => e = .returned (.tuple #[.string ⟨#[98, 111, 120, 32, 105, 110, 116]⟩, .bool true]) ∧ Below w.heap.size w w' := fun w => by
    have := elem_any ⟨#[109, 117, 116, 32, 98, 111, 120, 32, 105, 110, 116]⟩ (by decide) w
    rw [show elemL (⟨#[109, 117, 116, 32, 98, 111, 120, 32, 105, 110, 116]⟩ : ByteArray).data.toList = [98, 111, 120, 32, 105, 110, 116] by kernel_rfl] at this
    exact this
  have c1 : ∀ w, Calls Try.prog 9 #[.string ⟨#[105, 110, 116]⟩] w fun e w' => e = .returned (.tuple #[.string ⟨#[]⟩, .bool false]) ∧ Below w.heap.size w w' := fun w => by
    have := elem_any ⟨#[105, 110, 116]⟩ (by decide) w
    rw [show elemL (⟨#[105, 110, 116]⟩ : ByteArray).data.toList = [] by kernel_rfl] at this
    exact this
  have c2 : ∀ w, Calls Try.prog 18 #[.string ⟨#[112, 97, 105, 114]⟩] w fun e w' => e = .returned (.tuple #[.string ⟨#[98, 111, 120, 32, 112, 97, 105, 114]⟩, .bool true]) ∧ Below w.heap.size w w' := fun w => by
    have := box_any ⟨#[112, 97, 105, 114]⟩ (by decide) w
    rw [show boxable (⟨#[112, 97, 105, 114]⟩ : ByteArray).data.toList = true by kernel_rfl] at this
    exact this
  have c3 : ∀ w, Calls Try.prog 18 #[.string ⟨#[114, 101, 102, 32, 105, 110, 116]⟩] w fun e w' => e = .returned (.tuple #[.string ⟨#[]⟩, .bool false]) ∧ Below w.heap.size w w' := fun w => by
    have := box_any ⟨#[114, 101, 102, 32, 105, 110, 116]⟩ (by decide) w
    rw [show boxable (⟨#[114, 101, 102, 32, 105, 110, 116]⟩ : ByteArray).data.toList = false by kernel_rfl] at this
    exact this
  have c4 : ∀ w, Calls Try.prog 11 #[.string ⟨#[114, 101, 102, 32, 98, 111, 120, 32, 112, 97, 105, 114]⟩] w fun e w' => e = .returned (.tuple #[.string ⟨#[112, 97, 105, 114]⟩, .bool true]) ∧ Below w.heap.size w w' := fun w => by
    have := base_any ⟨#[114, 101, 102, 32, 98, 111, 120, 32, 112, 97, 105, 114]⟩ (by decide) w
    rw [show baseL (⟨#[114, 101, 102, 32, 98, 111, 120, 32, 112, 97, 105, 114]⟩ : ByteArray).data.toList = [112, 97, 105, 114] by kernel_rfl] at this
    exact this
  have c5 : ∀ w, Calls Try.prog 13 #[.string ⟨#[109, 117, 116, 32, 98, 111, 120, 32, 105, 110, 116]⟩] w fun e w' => e = .returned (.int .i64 5) ∧ Below w.heap.size w w' := fun w => by
    have := kind_any ⟨#[109, 117, 116, 32, 98, 111, 120, 32, 105, 110, 116]⟩ (by decide) w
    rw [show kindL (⟨#[109, 117, 116, 32, 98, 111, 120, 32, 105, 110, 116]⟩ : ByteArray).data.toList = 5 by kernel_rfl] at this
    exact this
  have c6 : ∀ w, Calls Try.prog 13 #[.string ⟨#[98, 111, 120, 32, 114, 101, 102, 32, 105, 110, 116]⟩] w fun e w' => e = .returned (.int .i64 0) ∧ Below w.heap.size w w' := fun w => by
    have := kind_any ⟨#[98, 111, 120, 32, 114, 101, 102, 32, 105, 110, 116]⟩ (by decide) w
    rw [show kindL (⟨#[98, 111, 120, 32, 114, 101, 102, 32, 105, 110, 116]⟩ : ByteArray).data.toList = 0 by kernel_rfl] at this
    exact this
  have c7 : ∀ w, Calls Try.prog 15 #[.string ⟨#[98, 111, 120, 32, 105, 110, 116]⟩] w fun e w' => e = .returned (.bool true) ∧ Below w.heap.size w w' := fun w => by
    have := plain_any ⟨#[98, 111, 120, 32, 105, 110, 116]⟩ (by decide) w
    rw [show isPlain (⟨#[98, 111, 120, 32, 105, 110, 116]⟩ : ByteArray).data.toList = true by kernel_rfl] at this
    exact this
  have c8 : ∀ w, Calls Try.prog 15 #[.string ⟨#[114, 101, 102, 32, 105, 110, 116]⟩] w fun e w' => e = .returned (.bool false) ∧ Below w.heap.size w w' := fun w => by
    have := plain_any ⟨#[114, 101, 102, 32, 105, 110, 116]⟩ (by decide) w
    rw [show isPlain (⟨#[114, 101, 102, 32, 105, 110, 116]⟩ : ByteArray).data.toList = false by kernel_rfl] at this
    exact this
  have c9 : ∀ w, Calls Try.prog 16 #[.string ⟨#[114, 101, 102, 32, 98, 111, 120, 32, 98, 111, 120, 32, 105, 110, 116]⟩] w fun e w' => e = .returned (.int .i64 2) ∧ Below w.heap.size w w' := fun w => by
    have := deep_any ⟨#[114, 101, 102, 32, 98, 111, 120, 32, 98, 111, 120, 32, 105, 110, 116]⟩ (by decide) w
    rw [show deepL (⟨#[114, 101, 102, 32, 98, 111, 120, 32, 98, 111, 120, 32, 105, 110, 116]⟩ : ByteArray).data.toList = 2 by kernel_rfl] at this
    exact this
  go_enter Try.func7, Try.ntmps7
  go_wp2_with (go_at_call 9; refine (c0 _).mono ?_)
  rintro e w0 ⟨rfl, h0⟩
  have h0 := hidIt h0
  clear c0
  go_wp2_with (go_at_call 9; refine (c1 _).mono ?_)
  rintro e w1 ⟨rfl, h1⟩
  have h1 := hidIt h1
  clear c1
  go_wp2_with (go_at_call 18; refine (c2 _).mono ?_)
  rintro e w2 ⟨rfl, h2⟩
  have h2 := hidIt h2
  clear c2
  go_wp2_with (go_at_call 18; refine (c3 _).mono ?_)
  rintro e w3 ⟨rfl, h3⟩
  have h3 := hidIt h3
  clear c3
  go_wp2_with (go_at_call 11; refine (c4 _).mono ?_)
  rintro e w4 ⟨rfl, h4⟩
  have h4 := hidIt h4
  clear c4
  go_wp2_with (go_at_call 13; refine (c5 _).mono ?_)
  rintro e w5 ⟨rfl, h5⟩
  have h5 := hidIt h5
  clear c5
  go_wp2_with (go_at_call 13; refine (c6 _).mono ?_)
  rintro e w6 ⟨rfl, h6⟩
  have h6 := hidIt h6
  clear c6
  go_wp2_with (go_at_call 15; refine (c7 _).mono ?_)
  rintro e w7 ⟨rfl, h7⟩
  have h7 := hidIt h7
  clear c7
  go_wp2_with (go_at_call 15; refine (c8 _).mono ?_)
  rintro e w8 ⟨rfl, h8⟩
  have h8 := hidIt h8
  clear c8
  go_wp2_with (go_at_call 16; refine (c9 _).mono ?_)
  rintro e w9 ⟨rfl, h9⟩
  have h9 := hidIt h9
  clear c9
  go_wp2
  go_ret
  exact ⟨rfl, below_next (below_next (below_next (below_next (below_next (below_next (below_next (below_next (below_next h0.out h1.out) h2.out) h3.out) h4.out) h5.out) h6.out) h7.out) h8.out) h9.out⟩
end Go.Proofs.Ytkohdnjgpclnoaa
