/-
  The document's set: how it lies in memory; the walks of Has, Put, New, Copy.
-/
import Derived.Test.YtcaibfalhkhleaaDoorMany
namespace Go.Proofs.YtcaibfalhkhleaaDoor
set_option linter.unusedVariables false
open Go.RowKit

/-- A row of bools at block h: its first b tell p. -/
def RowB (W : World) (h b c : Nat) (p : Nat → Bool) : Prop := ∃ cur, W.heap[h]? = some (.cells cur 4 (0, 0)) ∧ cur.size = c ∧ b ≤ c ∧ c ≤ maxLen ∧ ∀ i, i < b → cur[i]? = some (.bool (p i))
/-- THE DOCUMENT's SET AT BLOCK R. -/
structure RefAt (W : World) (R h b c : Nat) (p : Nat → Bool) : Prop where
  head : W.heap[R]? = some (.cells #[.slice (some ⟨h, 0, none⟩) b c] 40 (0, 0))
  row : RowB W h b c p
  fits : Fits b p
section
variable {W W' : World} {R h b c : Nat} {p q : Nat → Bool}
theorem RowB.cell (H : RowB W h b c p) {i : Nat} (hi : i < b) : W.cell? ⟨h, i, none⟩ = some (.bool (p i)) := by
  obtain ⟨cur, h1, h2, h3, h4, h5⟩ := H
  have := h5 i hi
  simp [World.cell?, h1, this]
theorem RowB.frz (H : RowB W h b c p) (i : Nat) : W.frozen? ⟨h, i, none⟩ = false := by
  obtain ⟨cur, h1, _⟩ := H
  exact frozen_of_row W h i _ 4 h1
theorem RowB.lt (H : RowB W h b c p) : h < W.heap.size := by
  obtain ⟨cur, h1, _⟩ := H
  exact (Array.getElem?_eq_some_iff.1 h1).1
theorem RefAt.slice (H : RefAt W R h b c p) : W.cell? ⟨R, 0, none⟩ = some (.slice (some ⟨h, 0, none⟩) b c) := by simp [World.cell?, H.head]
theorem RefAt.ltR (H : RefAt W R h b c p) : R < W.heap.size := (Array.getElem?_eq_some_iff.1 H.head).1
theorem RefAt.ne (H : RefAt W R h b c p) : R ≠ h := by
  intro e
  subst e
  obtain ⟨cur, h1, _⟩ := H.row
  rw [H.head] at h1
  simp at h1
theorem RowB.kept {fp : Nat → Prop} (H : RowB W h b c p) (k : Kp fp W W') (hn : ¬ fp h) : RowB W' h b c p := by
  obtain ⟨cur, h1, r⟩ := H
  exact ⟨cur, k.at h1 hn, r⟩
theorem RefAt.kept {fp : Nat → Prop} (H : RefAt W R h b c p) (k : Kp fp W W') (h1 : ¬ fp R) (h2 : ¬ fp h) : RefAt W' R h b c p := ⟨k.at H.head h1, H.row.kept k h2, H.fits⟩
theorem RefAt.drewN (H : RefAt W R h b c p) (m : Nat) : RefAt (W.drewN m) R h b c p := ⟨H.head, H.row, H.fits⟩
theorem RowB.set (H : RowB W h b c p) {n : Nat} (hn : n < b) (v : Bool) : RowB (W.setCell ⟨h, n, none⟩ (.bool v)) h b c (upd p n v) := by
  obtain ⟨cur, h1, h2, h3, h4, h5⟩ := H
  refine ⟨_, heap_setCell_row W h n (.bool v) _ 4 h1, by simpa using h2, h3, h4, fun i hi => ?_⟩
  rw [Array.getElem?_setIfInBounds]
  unfold upd
  by_cases e : n = i
  · subst e
    rw [if_pos rfl, if_pos (by omega), if_pos rfl]
  · rw [if_neg e, if_neg (fun e' => e e'.symm)]
    exact h5 i hi
theorem RefAt.set (H : RefAt W R h b c p) {n : Nat} (hn : n < b) (v : Bool) : RefAt (W.setCell ⟨h, n, none⟩ (.bool v)) R h b c (upd p n v) :=
  ⟨(Below.heap_setCell _ _ _ _ (fun e => H.ne e)).trans H.head, H.row.set hn v, H.fits.updF hn v⟩
/-- No set's blocks are a document's. -/
theorem RefAt.apart {A g b' : Nat} {q : Nat → Bool} (H : RefAt W R h b c p) (hs : SetAt W A g b' q) : R ≠ g ∧ h ≠ g ∧ A ≠ h := by
  obtain ⟨cur, h1, _⟩ := H.row
  have h2 : W.heap[g]? = _ := hs.row
  refine ⟨fun e => ?_, fun e => ?_, fun e => ?_⟩
  · subst e
    rw [H.head] at h2
    simp at h2
  · subst e
    rw [h1] at h2
    simp at h2
  · subst e
    rw [hs.head] at h1
    simp at h1
end

set_option maxHeartbeats 400000 in
theorem rhas_out (R h b c : Nat) (n : Int) (w : World) (hs : w.cell? ⟨R, 0, none⟩ = some (.slice (some ⟨h, 0, none⟩) b c)) (hb : b ≤ 65536) (hn : n < 0 ∨ (b : Int) ≤ n) :
    Calls Tryd.prog 20 #[.pointer (some ⟨R, 0, none⟩), .int .i64 n] w fun e w' => e = .returned (.bool false) ∧ w = w' := by
  by_cases h0 : n < 0
  · clear hn
    go_enter Tryd.func20, Tryd.ntmps20
    go_wp2
    go_ret
    exact ⟨by simp, rfl⟩
  · have h1 : (b : Int) ≤ n := by omega
    have h2 : decide (n < (b : Int)) = false := by simp; omega
    clear hn
    go_enter Tryd.func20, Tryd.ntmps20
    go_wp2
    go_ret
    exact ⟨by simp, rfl⟩
set_option maxHeartbeats 400000 in
theorem rhas_in {w : World} {R h b c : Nat} {p : Nat → Bool} (H : RefAt w R h b c p) (n : Nat) (hn : n < b) :
    Calls Tryd.prog 20 #[.pointer (some ⟨R, 0, none⟩), .int .i64 n] w fun e w' => e = .returned (.bool (p n)) ∧ w = w' := by
  have hs := H.slice
  have hc := H.row.cell hn
  have hb := H.fits.1
  clear H
  generalize p n = x at *
  go_enter Tryd.func20, Tryd.ntmps20
  go_wp2
  go_ret
  exact ⟨by simp, rfl⟩
theorem rhas_any {w : World} {R h b c : Nat} {p : Nat → Bool} (H : RefAt w R h b c p) (n : Int) :
    Calls Tryd.prog 20 #[.pointer (some ⟨R, 0, none⟩), .int .i64 n] w fun e w' => e = .returned (.bool (hasP p n)) ∧ w = w' := by
  by_cases hn : n < 0 ∨ (b : Int) ≤ n
  · have e : hasP p n = false := by
      rcases hn with hn | hn
      · simp [hasP]
        omega
      · exact hasP_fits H.fits hn
    rw [e]
    exact rhas_out R h b c n w H.slice H.fits.1 hn
  · obtain ⟨k, rfl⟩ : ∃ k : Nat, n = k := ⟨n.toNat, by omega⟩
    have := rhas_in H k (by omega)
    simpa [hasP] using this

/-- Put, as data. -/
def putP (b : Nat) (p : Nat → Bool) (k : Int) (v : Bool) : Nat → Bool := if 0 ≤ k ∧ k < b then upd p k.toNat v else p
def putB (b : Nat) (p : Nat → Bool) (k : Int) (v : Bool) : Bool := decide (0 ≤ k ∧ k < b) && !(p k.toNat == v)

set_option maxHeartbeats 400000 in
theorem rput_out (R h b c : Nat) (n : Int) (v : Bool) (w : World) (hs : w.cell? ⟨R, 0, none⟩ = some (.slice (some ⟨h, 0, none⟩) b c)) (hb : b ≤ 65536) (hn : n < 0 ∨ (b : Int) ≤ n) :
    Calls Tryd.prog 31 #[.pointer (some ⟨R, 0, none⟩), .int .i64 n, .bool v] w fun e w' => e = .returned (.bool false) ∧ w = w' := by
  by_cases h0 : n < 0
  · clear hn
    go_enter Tryd.func31, Tryd.ntmps31
    go_wp2
    go_ret
    exact ⟨rfl, rfl⟩
  · have h1 : (b : Int) ≤ n := by omega
    clear hn
    go_enter Tryd.func31, Tryd.ntmps31
    go_wp2
    go_ret
    exact ⟨rfl, rfl⟩
set_option maxHeartbeats 400000 in
theorem rput_same {w : World} {R h b c : Nat} {p : Nat → Bool} (H : RefAt w R h b c p) (n : Nat) (hn : n < b) (v : Bool) (hv : p n = v) :
    Calls Tryd.prog 31 #[.pointer (some ⟨R, 0, none⟩), .int .i64 n, .bool v] w fun e w' => e = .returned (.bool false) ∧ w = w' := by
  have hs := H.slice
  have hc := H.row.cell hn
  rw [hv] at hc
  have hb := H.fits.1
  clear H hv
  go_enter Tryd.func31, Tryd.ntmps31
  go_wp2
  go_ret
  exact ⟨rfl, rfl⟩
set_option maxHeartbeats 400000 in
theorem rput_other {w : World} {R h b c : Nat} {p : Nat → Bool} (H : RefAt w R h b c p) (n : Nat) (hn : n < b) (v : Bool) (hv : p n = !v) :
    Calls Tryd.prog 31 #[.pointer (some ⟨R, 0, none⟩), .int .i64 n, .bool v] w fun e w' => e = .returned (.bool true) ∧ RefAt w' R h b c (upd p n v) ∧ Kp (fun k => k = h) w w' := by
  have hs := H.slice
  have hc := H.row.cell hn
  rw [hv] at hc
  have hf := H.row.frz n
  have hb := H.fits.1
  have HF : Hid (RefAt (w.setCell ⟨h, n, none⟩ (.bool v)) R h b c (upd p n v) ∧ Kp (fun k => k = h) w (w.setCell ⟨h, n, none⟩ (.bool v))) := ⟨H.set hn v, (Kp.refl _ w).setG _ _⟩
  clear H hv
  cases v
  · go_enter Tryd.func31, Tryd.ntmps31
    go_wp2
    go_ret
    exact ⟨rfl, HF.out⟩
  · go_enter Tryd.func31, Tryd.ntmps31
    go_wp2
    go_ret
    exact ⟨rfl, HF.out⟩
theorem rput_any {w : World} {R h b c : Nat} {p : Nat → Bool} (H : RefAt w R h b c p) (k : Int) (v : Bool) :
    Calls Tryd.prog 31 #[.pointer (some ⟨R, 0, none⟩), .int .i64 k, .bool v] w fun e w' => e = .returned (.bool (putB b p k v)) ∧ RefAt w' R h b c (putP b p k v) ∧ Kp (fun i => i = h) w w' := by
  by_cases hk : 0 ≤ k ∧ k < b
  · obtain ⟨n, rfl⟩ : ∃ n : Nat, k = n := ⟨k.toNat, by omega⟩
    have hn : n < b := by omega
    have e1 : putP b p n v = upd p n v := by simp [putP, hn]
    have e2 : putB b p n v = !(p n == v) := by simp [putB, hn]
    rw [e1, e2]
    by_cases hp : p n = v
    · rw [upd_self hp, hp]
      simp only [beq_self_eq_true, Bool.not_true]
      exact (rput_same H n hn v hp).mono fun e w' ⟨h1, h2⟩ => ⟨h1, by rw [← h2]; exact H, by rw [← h2]; exact Kp.refl _ w⟩
    · have hp2 : p n = !v := by cases h1 : p n <;> cases v <;> simp_all
      rw [hp2, show ((!v) == v) = false from by cases v <;> rfl]
      exact rput_other H n hn v hp2
  · have e1 : putP b p k v = p := by simp [putP, hk]
    have e2 : putB b p k v = false := by simp [putB, hk]
    rw [e1, e2]
    exact (rput_out R h b c k v w H.slice H.fits.1 (by omega)).mono fun e w' ⟨h1, h2⟩ => ⟨h1, by rw [← h2]; exact H, by rw [← h2]; exact Kp.refl _ w⟩
theorem put_add {b : Nat} {p : Nat → Bool} {k : Int} : putB b p k true = addB b p k ∧ putP b p k true = addP b p k := by
  constructor
  · unfold putB addB
    cases p k.toNat <;> simp
  · rfl
theorem put_cut {b : Nat} {p : Nat → Bool} (hf : Fits b p) {k : Int} : putB b p k false = hasP p k ∧ putP b p k false = cutN p k := by
  by_cases hk : 0 ≤ k
  · by_cases hb : k < b
    · constructor
      · simp [putB, hasP, hk, hb]
      · simp [putP, cutN, hk, hb]
    · have hp := hf.out (n := k.toNat) (by omega)
      constructor
      · simp [putB, hasP, hb, hp]
      · simp only [putP, cutN, hk, hb, and_false, if_false, if_true]
        exact (upd_self hp).symm
  · constructor
    · simp [putB, hasP, hk]
    · simp [putP, cutN, hk]
end Go.Proofs.YtcaibfalhkhleaaDoor
