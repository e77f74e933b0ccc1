/-
  The walks of trim and Fill.
-/
import Derived.Test.YtcaibfalhkhleaaDoorNew
namespace Go.Proofs.YtcaibfalhkhleaaDoor
set_option linter.unusedVariables false
open Go.RowKit

/-- A set whose last word may have something behind the bound. -/
structure RawAt (w : World) (A g b : Nat) (p : Nat → Bool) : Prop where
  head : w.heap[A]? = some (.cells #[.int .i64 b, .slice (some ⟨g, 0, none⟩) (nw b) (nw b)] 55 (0, 0))
  row : RowAt w g (nw b) p
  le : b ≤ 65536
theorem SetAt.raw {w : World} {A g b : Nat} {p : Nat → Bool} (h : SetAt w A g b p) : RawAt w A g b p := ⟨h.head, h.row, h.fits.1⟩
theorem RawAt.bound {w : World} {A g b : Nat} {p : Nat → Bool} (h : RawAt w A g b p) : w.cell? ⟨A, 0, none⟩ = some (.int .i64 b) := by simp [World.cell?, h.head]
theorem RawAt.words {w : World} {A g b : Nat} {p : Nat → Bool} (h : RawAt w A g b p) : w.cell? ⟨A, 1, none⟩ = some (.slice (some ⟨g, 0, none⟩) (nw b) (nw b)) := by simp [World.cell?, h.head]
theorem RawAt.ne {w : World} {A g b : Nat} {p : Nat → Bool} (h : RawAt w A g b p) : A ≠ g := by
  intro e
  subst e
  have h1 := h.head
  have h2 : w.heap[A]? = _ := h.row
  rw [h1] at h2
  simp at h2
theorem RawAt.drewN {w : World} {A g b : Nat} {p : Nat → Bool} (h : RawAt w A g b p) (m : Nat) : RawAt (w.drewN m) A g b p := ⟨h.head, h.row, h.le⟩
theorem RawAt.set {w : World} {A g b : Nat} {p q : Nat → Bool} (h : RawAt w A g b p) {i : Nat} (hi : i < nw b) (hne : ∀ j, j < nw b → j ≠ i → wd q j = wd p j) : RawAt (w.setCell ⟨g, i, none⟩ (.int .u64 (wd q i : Nat))) A g b q :=
  ⟨(Below.heap_setCell _ _ _ _ (fun e => h.ne e)).trans h.head, h.row.set hi hne, h.le⟩
theorem RawAt.fit {w : World} {A g b : Nat} {p q : Nat → Bool} (h : RawAt w A g b p) (hq : Fits b q) (he : ∀ i, i < nw b → wd p i = wd q i) : SetAt w A g b q :=
  ⟨h.head, by have := h.row; unfold RowAt at this ⊢; rw [this, wcells_congr he], hq⟩

theorem cut_key (p : Nat → Bool) (b : Nat) (hb : b % 64 ≠ 0) : bits BinOp.and IntKind.u64 ((wd p (nw b - 1) : Nat) : Int) (((btN (b % 64) : Nat) : Int) - 1) = ((wd (cutP b p) (nw b - 1) : Nat) : Int) := by
  have h1 : 1 ≤ btN (b % 64) := Nat.two_pow_pos _
  have h2 := btN_lt (b % 64)
  rw [show ((btN (b % 64) : Nat) : Int) - 1 = ((btN (b % 64) - 1 : Nat) : Int) from by omega, u64_and_nat _ _ (wd_lt _ _) (by omega), ← cut_last p hb]
  unfold btN
  rw [Nat.mod_mod]

set_option maxHeartbeats 2000000 in
theorem trim_last {w : World} {A g b : Nat} {p : Nat → Bool} (h : RawAt w A g b p) (hr : b % 64 ≠ 0) :
    Calls Tryd.prog 46 #[.pointer (some ⟨A, 0, none⟩)] w fun e w' => e = .returned (.tuple #[]) ∧ SetAt w' A g b (cutP b p) ∧ Kp (fun k => k = g) w w' := by
  have hb := h.bound
  have hw := h.words
  have hle := h.le
  have hnw : nw b ≤ 1024 := by unfold nw; omega
  have hpos : 1 ≤ nw b := by unfold nw; omega
  have hc := h.row.cell (show nw b - 1 < nw b by omega)
  have hf := h.row.frz (nw b - 1)
  have hr2 : ((b : Int) % 64 != 0) = true := by simp; omega
  have key := cut_key p b hr
  have h1 : 1 ≤ btN (b % 64) := Nat.two_pow_pos _
  have h2 := btN_lt (b % 64)
  have hbt : ∀ k, Calls Tryd.prog 36 #[.int .i64 ((b : Int) % 64)] k fun e w' => e = .returned (.int .u64 (btN (b % 64) : Nat)) ∧ k = w' := fun k => by
    have := bit_any (b % 64) k (by omega)
    rwa [show ((b % 64 : Nat) : Int) = (b : Int) % 64 from by omega] at this
  have HF : Hid (∀ m, SetAt ((w.drewN m).setCell ⟨g, nw b - 1, none⟩ (.int .u64 (wd (cutP b p) (nw b - 1) : Nat))) A g b (cutP b p) ∧ Kp (fun k => k = g) w ((w.drewN m).setCell ⟨g, nw b - 1, none⟩ (.int .u64 (wd (cutP b p) (nw b - 1) : Nat)))) := by
    intro m
    have := (h.drewN m).set (q := cutP b p) (show nw b - 1 < nw b by omega) (fun j hj hne => cut_inner p (by omega))
    exact ⟨⟨this.head, this.row, cutP_fits hle p⟩, ((Kp.refl _ w).drewN m).setG _ _⟩
  have hq3 : IntKind.u64.wrap (((btN (b % 64) : Nat) : Int) - 1) = ((btN (b % 64) : Nat) : Int) - 1 := by rw [IntKind.wrap_u64]; omega
  clear h hr
  obtain ⟨i, hi⟩ : ∃ i, nw b = i + 1 := ⟨nw b - 1, by omega⟩
  rw [hi] at hw hnw hpos
  rw [show nw b - 1 = i from by omega] at hc hf key HF
  have hq1 : IntKind.i64.wrap (i : Int) = (i : Int) := IntWalk.i64_in _ (by omega)
  clear hi
  generalize wd p i = W1 at *
  generalize wd (cutP b p) i = W2 at *
  generalize btN (b % 64) = T at *
  go_enter Tryd.func46, Tryd.ntmps46
  go_wp2_with fail
  go_region_with (go_at_call 36; refine (hbt _).mono ?_; rintro e w' ⟨rfl, rfl⟩)
  all_goals go_wp2
  all_goals go_end0
  all_goals exact ⟨rfl, HF.out 1⟩

set_option maxHeartbeats 400000 in
theorem trim_whole {w : World} {A g b : Nat} {p : Nat → Bool} (h : RawAt w A g b p) (hr : b % 64 = 0) :
    Calls Tryd.prog 46 #[.pointer (some ⟨A, 0, none⟩)] w fun e w' => e = .returned (.tuple #[]) ∧ SetAt w' A g b (cutP b p) ∧ Kp (fun k => k = g) w w' := by
  have hb := h.bound
  have hr2 : ((b : Int) % 64 != 0) = false := by simp; omega
  have HF : Hid (SetAt w A g b (cutP b p)) := h.fit (cutP_fits h.le p) fun i hi => (cut_whole p hr hi).symm
  clear h
  go_enter Tryd.func46, Tryd.ntmps46
  go_wp2
  go_end0
  exact ⟨rfl, HF.out, Kp.refl _ _⟩
theorem trim_any {w : World} {A g b : Nat} {p : Nat → Bool} (h : RawAt w A g b p) :
    Calls Tryd.prog 46 #[.pointer (some ⟨A, 0, none⟩)] w fun e w' => e = .returned (.tuple #[]) ∧ SetAt w' A g b (cutP b p) ∧ Kp (fun k => k = g) w w' := by
  by_cases hr : b % 64 = 0
  · exact trim_whole h hr
  · exact trim_last h hr
end Go.Proofs.YtcaibfalhkhleaaDoor
