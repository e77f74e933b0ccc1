/-
  The walks of Add and Cut.
-/
import Derived.Test.YtcaibfalhkhleaaDoorRead
import Derived.StillTailTactics
namespace Go.Proofs.YtcaibfalhkhleaaDoor
set_option linter.unusedVariables false
open Go.RowKit

theorem or_key (p : Nat → Bool) (n : Nat) : bits BinOp.or IntKind.u64 ((wd p (n / 64) : Nat) : Int) ((btN n : Nat) : Int) = ((wd (upd p n true) (n / 64) : Nat) : Int) := by
  rw [u64_or_nat _ _ (wd_lt _ _) (btN_lt _), ← or_bit]
  rfl
theorem andNot_key (p : Nat → Bool) (n : Nat) : bits BinOp.andNot IntKind.u64 ((wd p (n / 64) : Nat) : Int) ((btN n : Nat) : Int) = ((wd (upd p n false) (n / 64) : Nat) : Int) := by
  rw [u64_andNot_nat _ _ (wd_lt _ _) (btN_lt _), ← andNot_bit]
  rfl

theorem Kp.setG {a w : World} {g : Nat} (h : Kp (fun k => k = g) a w) (i : Nat) (u : Value) : Kp (fun k => k = g) a (w.setCell ⟨g, i, none⟩ u) := h.setCell (p := ⟨g, i, none⟩) (.inl rfl) u

set_option maxHeartbeats 2000000 in
theorem add_new {w : World} {A g b : Nat} {p : Nat → Bool} (h : SetAt w A g b p) (n : Nat) (hn : n < b) (hp : p n = false) :
    Calls Tryd.prog 28 #[.pointer (some ⟨A, 0, none⟩), .int .i64 n] w fun e w' => e = .returned (.bool true) ∧ SetAt w' A g b (upd p n true) ∧ Kp (fun k => k = g) w w' := by
  have hhas := has_in h n hn
  rw [hp] at hhas
  have hb := h.bound
  have hw := h.words
  have hi := nw_lt hn
  have hc := h.row.cell hi
  have hf := h.row.frz (n / 64)
  have hbb := h.fits.1
  have hnw := h.fits.nwLe
  have hnb : n < 65536 := by omega
  have hq1 : wrap64 ((n : Int) / 64) = ((n / 64 : Nat) : Int) := (IntWalk.wrap64_in _ (by omega)).trans (by omega)
  have hq2 : IntKind.i64.wrap ((n : Int) / 64) = ((n / 64 : Nat) : Int) := (IntWalk.i64_in _ (by omega)).trans (by omega)
  have hq3 : IntKind.i64.wrap ((n : Int).tdiv 64) = ((n / 64 : Nat) : Int) := by rw [Int.tdiv_eq_ediv_of_nonneg (by omega)]; exact hq2
  have key := or_key p n
  have hwi := within_in A b n w hb (by omega) (by omega)
  have HF : Hid (∀ m, SetAt ((w.drewN m).setCell ⟨g, n / 64, none⟩ (.int .u64 (wd (upd p n true) (n / 64) : Nat))) A g b (upd p n true) ∧ Kp (fun k => k = g) w ((w.drewN m).setCell ⟨g, n / 64, none⟩ (.int .u64 (wd (upd p n true) (n / 64) : Nat)))) :=
    fun m => ⟨(h.drewN m).set hi (fun j _ hj => upd_other p n j true hj) (h.fits.updF hn true), ((Kp.refl _ w).drewN m).setG _ _⟩
  clear h
  generalize n / 64 = i at *
  generalize wd p i = W1 at *
  generalize wd (upd p n true) i = W2 at *
  go_enter Tryd.func28, Tryd.ntmps28
  go_wp2_with (first | (go_at_call 35; refine hwi.mono ?_; rintro e w' ⟨rfl, rfl⟩) | (go_at_call 19; refine hhas.mono ?_; rintro e w' ⟨rfl, m, rfl⟩))
  have hbt : ∀ k, Calls Tryd.prog 36 #[.int .i64 n] k fun e w' => e = .returned (.int .u64 (btN n : Nat)) ∧ k = w' := fun k => bit_any n k (by omega)
  go_region_with (go_at_call 36; refine (hbt _).mono ?_; rintro e w' ⟨rfl, rfl⟩)
  all_goals go_wp2
  all_goals go_ret
  all_goals exact ⟨rfl, HF.out _⟩

set_option maxHeartbeats 2000000 in
theorem cut_old {w : World} {A g b : Nat} {p : Nat → Bool} (h : SetAt w A g b p) (n : Nat) (hn : n < b) (hp : p n = true) :
    Calls Tryd.prog 29 #[.pointer (some ⟨A, 0, none⟩), .int .i64 n] w fun e w' => e = .returned (.bool true) ∧ SetAt w' A g b (upd p n false) ∧ Kp (fun k => k = g) w w' := by
  have hhas := has_in h n hn
  rw [hp] at hhas
  have hb := h.bound
  have hw := h.words
  have hi := nw_lt hn
  have hc := h.row.cell hi
  have hf := h.row.frz (n / 64)
  have hbb := h.fits.1
  have hnw := h.fits.nwLe
  have hnb : n < 65536 := by omega
  have hq1 : wrap64 ((n : Int) / 64) = ((n / 64 : Nat) : Int) := (IntWalk.wrap64_in _ (by omega)).trans (by omega)
  have hq2 : IntKind.i64.wrap ((n : Int) / 64) = ((n / 64 : Nat) : Int) := (IntWalk.i64_in _ (by omega)).trans (by omega)
  have hq3 : IntKind.i64.wrap ((n : Int).tdiv 64) = ((n / 64 : Nat) : Int) := by rw [Int.tdiv_eq_ediv_of_nonneg (by omega)]; exact hq2
  have key := andNot_key p n
  have HF : Hid (∀ m, SetAt ((w.drewN m).setCell ⟨g, n / 64, none⟩ (.int .u64 (wd (upd p n false) (n / 64) : Nat))) A g b (upd p n false) ∧ Kp (fun k => k = g) w ((w.drewN m).setCell ⟨g, n / 64, none⟩ (.int .u64 (wd (upd p n false) (n / 64) : Nat)))) :=
    fun m => ⟨(h.drewN m).set hi (fun j _ hj => upd_other p n j false hj) (h.fits.updF hn false), ((Kp.refl _ w).drewN m).setG _ _⟩
  clear h
  generalize n / 64 = i at *
  generalize wd p i = W1 at *
  generalize wd (upd p n false) i = W2 at *
  go_enter Tryd.func29, Tryd.ntmps29
  go_wp2_with (first | (go_at_call 19; refine hhas.mono ?_; rintro e w' ⟨rfl, m, rfl⟩))
  have hbt : ∀ k, Calls Tryd.prog 36 #[.int .i64 n] k fun e w' => e = .returned (.int .u64 (btN n : Nat)) ∧ k = w' := fun k => bit_any n k (by omega)
  go_region_with (go_at_call 36; refine (hbt _).mono ?_; rintro e w' ⟨rfl, rfl⟩)
  all_goals go_wp2
  all_goals go_ret
  all_goals exact ⟨rfl, HF.out _⟩

set_option maxHeartbeats 400000 in
theorem add_out {w : World} {A g b : Nat} {p : Nat → Bool} (h : SetAt w A g b p) (n : Int) (hn : n < 0 ∨ (b : Int) ≤ n) :
    Calls Tryd.prog 28 #[.pointer (some ⟨A, 0, none⟩), .int .i64 n] w fun e w' => e = .returned (.bool false) ∧ ∃ m, w' = w.drewN m := by
  have hwi := within_out A b n w h.bound hn
  clear h hn
  go_enter Tryd.func28, Tryd.ntmps28
  go_wp2_with (first | (go_at_call 35; refine hwi.mono ?_; rintro e w' ⟨rfl, rfl⟩))
  go_ret
  exact ⟨rfl, 0, rfl⟩
set_option maxHeartbeats 400000 in
theorem add_old {w : World} {A g b : Nat} {p : Nat → Bool} (h : SetAt w A g b p) (n : Nat) (hn : n < b) (hp : p n = true) :
    Calls Tryd.prog 28 #[.pointer (some ⟨A, 0, none⟩), .int .i64 n] w fun e w' => e = .returned (.bool false) ∧ ∃ m, w' = w.drewN m := by
  have hwi := within_in A b n w h.bound (by omega) (by omega)
  have hhas := has_in h n hn
  rw [hp] at hhas
  clear h hp
  go_enter Tryd.func28, Tryd.ntmps28
  go_wp2_with (first | (go_at_call 35; refine hwi.mono ?_; rintro e w' ⟨rfl, rfl⟩) | (go_at_call 19; refine hhas.mono ?_; rintro e w' ⟨rfl, m, rfl⟩))
  go_ret
  exact ⟨rfl, m, rfl⟩
set_option maxHeartbeats 400000 in
theorem cut_none {w : World} {A g b : Nat} {p : Nat → Bool} (h : SetAt w A g b p) (n : Int) (hn : hasP p n = false) :
    Calls Tryd.prog 29 #[.pointer (some ⟨A, 0, none⟩), .int .i64 n] w fun e w' => e = .returned (.bool false) ∧ ∃ m, w' = w.drewN m := by
  have hhas := has_any h n
  rw [hn] at hhas
  clear h hn
  go_enter Tryd.func29, Tryd.ntmps29
  go_wp2_with (first | (go_at_call 19; refine hhas.mono ?_; rintro e w' ⟨rfl, m, rfl⟩))
  go_ret
  exact ⟨rfl, m, rfl⟩

/-- What Add answers. -/
def addB (b : Nat) (p : Nat → Bool) (k : Int) : Bool := decide (0 ≤ k ∧ k < b) && !p k.toNat
theorem add_any {w : World} {A g b : Nat} {p : Nat → Bool} (h : SetAt w A g b p) (k : Int) :
    Calls Tryd.prog 28 #[.pointer (some ⟨A, 0, none⟩), .int .i64 k] w fun e w' => e = .returned (.bool (addB b p k)) ∧ SetAt w' A g b (addP b p k) ∧ Kp (fun i => i = g) w w' := by
  by_cases hk : 0 ≤ k ∧ k < b
  · obtain ⟨n, rfl⟩ : ∃ n : Nat, k = n := ⟨k.toNat, by omega⟩
    have hn : n < b := by omega
    have e1 : addP b p n = upd p n true := by simp [addP, hn]
    have e2 : addB b p n = !p n := by simp [addB, hn]
    rw [e1, e2]
    cases hp : p n with
    | false => exact add_new h n hn hp
    | true =>
      rw [upd_self hp]
      exact (add_old h n hn hp).mono fun e w' ⟨h1, m, h2⟩ => ⟨h1, by rw [h2]; exact h.drewN m, by rw [h2]; exact (Kp.refl _ w).drewN m⟩
  · have e1 : addP b p k = p := by simp [addP, hk]
    have e2 : addB b p k = false := by simp [addB, hk]
    rw [e1, e2]
    exact (add_out h k (by omega)).mono fun e w' ⟨h1, m, h2⟩ => ⟨h1, by rw [h2]; exact h.drewN m, by rw [h2]; exact (Kp.refl _ w).drewN m⟩
theorem cut_any {w : World} {A g b : Nat} {p : Nat → Bool} (h : SetAt w A g b p) (k : Int) :
    Calls Tryd.prog 29 #[.pointer (some ⟨A, 0, none⟩), .int .i64 k] w fun e w' => e = .returned (.bool (hasP p k)) ∧ SetAt w' A g b (cutN p k) ∧ Kp (fun i => i = g) w w' := by
  cases hp : hasP p k with
  | true =>
    simp only [hasP, Bool.and_eq_true, decide_eq_true_eq] at hp
    obtain ⟨n, rfl⟩ : ∃ n : Nat, k = n := ⟨k.toNat, by omega⟩
    have hpn : p n = true := by simpa using hp.2
    have e1 : cutN p n = upd p n false := by simp [cutN]
    rw [e1]
    exact cut_old h n (h.fits.2 n hpn) hpn
  | false =>
    have e1 : cutN p k = p := by
      unfold cutN
      split
      · rename_i h0
        simp [hasP, h0] at hp
        exact upd_self hp
      · rfl
    rw [e1]
    exact (cut_none h k hp).mono fun e w' ⟨h1, m, h2⟩ => ⟨h1, by rw [h2]; exact h.drewN m, by rw [h2]; exact (Kp.refl _ w).drewN m⟩
end Go.Proofs.YtcaibfalhkhleaaDoor
