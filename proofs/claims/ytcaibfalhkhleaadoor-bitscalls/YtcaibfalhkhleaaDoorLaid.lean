/-
  The walks of laid and Clone.
-/
import Derived.Test.YtcaibfalhkhleaaDoorNew
import Derived.Laws.CopyOwn
namespace Go.Proofs.YtcaibfalhkhleaaDoor
set_option linter.unusedVariables false
open Go.RowKit

def wlist (m : Nat) (p : Nat → Bool) : List Value := (List.range m).map fun i => Value.int .u64 (wd p i : Nat)
theorem wlist_cells (m : Nat) (p : Nat → Bool) : (wlist m p).toArray = wcells m p := rfl
theorem wlist_length (m : Nat) (p : Nat → Bool) : (wlist m p).length = m := by simp [wlist]
theorem wlist_get (m : Nat) (p : Nat → Bool) {i : Nat} (h : i < m) : (wlist m p)[i]? = some (.int .u64 (wd p i : Nat)) := by simp [wlist, h]
theorem wlist_one (m : Nat) (p : Nat → Bool) : ∀ u ∈ wlist m p, u.oneCell' = true := by
  intro u hu
  simp only [wlist, List.mem_map] at hu
  obtain ⟨n, _, rfl⟩ := hu
  rfl
theorem wlist_splice {b m : Nat} {p : Nat → Bool} (h : Fits b p) : splice (wlist m fun _ => false) 0 (wlist (Nat.min (nw b) m) p) = wlist m p := by
  refine List.ext_getElem? fun j => ?_
  simp only [splice, List.take_zero, List.nil_append, Nat.zero_add]
  by_cases hj : j < m
  · rw [wlist_get m p hj]
    by_cases hk : j < Nat.min (nw b) m
    · rw [List.getElem?_append_left (by rw [wlist_length]; exact hk), wlist_get _ p hk]
    · have hk2 : nw b ≤ j := by
        have : Nat.min (nw b) m = min (nw b) m := rfl
        omega
      rw [List.getElem?_append_right (by rw [wlist_length]; omega), List.getElem?_drop, wlist_length, show Nat.min (nw b) m + (j - Nat.min (nw b) m) = j from by omega, wlist_get _ _ hj, wd_none, h.zero hk2]
  · rw [List.getElem?_eq_none (l := wlist m p) (by rw [wlist_length]; omega), List.getElem?_eq_none]
    simp only [List.length_append, List.length_drop, wlist_length]
    have : Nat.min (nw b) m = min (nw b) m := rfl
    omega

set_option maxHeartbeats 400000 in
theorem laid_any {w : World} {A g b : Nat} {p : Nat → Bool} (h : SetAt w A g b p) (m : Nat) (hm : m ≤ 2000) :
    Calls Tryd.prog 34 #[.pointer (some ⟨A, 0, none⟩), .int .i64 m] w fun e w' => e = .returned (.slice (some ⟨w.heap.size, 0, none⟩) m m) ∧ RowAt w' w.heap.size m p ∧ Kp (fun _ => False) w w' := by
  have hw := h.words
  have hnw := h.fits.nwLe
  have hmk := make53 m (by omega)
  rw [made_cells] at hmk
  have hA := h.ltA
  have hgl := h.ltg
  have hsp := hidIt (wlist_splice (m := m) h.fits)
  have hrow : Hid (∀ j, j < nw b → (w.alloc (.cells (wcells m fun _ => false) 58)).cell? ⟨g, j, none⟩ = some (.int .u64 (wd p j : Nat))) := fun j hj => (World.cell?_of_block (w := w) (Below.heap_alloc w _ _ hgl)).trans (h.row.cell hj)
  have hsrc : Hid (∀ j v, (wlist (Nat.min (nw b) m) p)[j]? = some v → (w.alloc (.cells (wcells m fun _ => false) 58)).cell? ((⟨g, 0, none⟩ : Addr).add j) = some v) := by
    intro j v hj
    have hl : j < Nat.min (nw b) m := by have := (List.getElem?_eq_some_iff.1 hj).1; rwa [wlist_length] at this
    have hm2 : Nat.min (nw b) m = min (nw b) m := rfl
    rw [wlist_get _ p hl] at hj
    cases hj
    have := hrow.out j (by omega)
    simp only [Addr.add, Nat.zero_add]
    split
    · rename_i h0
      rw [h0] at this ⊢
      exact this
    · exact this
  clear h hrow
  go_enter Tryd.func34, Tryd.ntmps34
  go_wp2_with (refine wpList_copy_splice rfl (.tmp 8) (.tmp 12) 53 53 rfl 58 Tryd.underlying53 (by kernel_rfl) (some ⟨w.heap.size, 0, none⟩) (some ⟨g, 0, none⟩) m m (nw b) (nw b) (by simp [Act.eval]) (by simp [Act.eval]) w.heap.size 0 (wlist m fun _ => false) 58 (heap_new w _) (wlist (Nat.min (nw b) m) p) (wlist_length _ _) (fun _ => ⟨rfl, _, rfl, hsrc.out⟩) (by rw [wlist_length, wlist_length]; have : Nat.min (nw b) m = min (nw b) m := rfl; omega) (wlist_one _ _) w.heap.size w ((Below.refl _ w).alloc (Nat.le_refl _) _) (Nat.le_refl _) ?_)
  intro w' hg hb
  have HF : Hid (RowAt w' w.heap.size m p ∧ Kp (fun _ => False) w w') := by
    have h1 := hg.out
    rw [hsp.out] at h1
    exact ⟨h1, ⟨hb.os, hb.tape, hb.output, hb.size, fun k hk _ => hb.block k hk⟩⟩
  clear hg hb hsrc hsp hmk
  go_wp2
  go_ret
  exact ⟨rfl, HF.out⟩

theorem Kp.undrewN {fp : Nat → Prop} {w w' : World} {m : Nat} (h : Kp fp (w.drewN m) w') : Kp fp w w' := ⟨h.os, h.tape, h.output, h.size, h.block⟩

set_option maxHeartbeats 2000000 in
theorem clone_any {w : World} {A g b : Nat} {p : Nat → Bool} (h : SetAt w A g b p) :
    Calls Tryd.prog 17 #[.pointer (some ⟨A, 0, none⟩)] w fun e w' => ∃ C d, e = .returned (.pointer (some ⟨C, 0, none⟩)) ∧ w.heap.size ≤ C ∧ w.heap.size ≤ d ∧ SetAt w' C d b p ∧ Kp (fun _ => False) w w' := by
  have hb := h.bound
  have hw := h.words
  have hnw := h.fits.nwLe
  have hA := h.ltA
  have hla := fun k => laid_any (h.drewN k) (nw b) (by omega)
  have Hf := hidIt h.fits
  clear h
  go_enter Tryd.func17, Tryd.ntmps17
  go_wp2_with fail
  go_region_with (go_at_call 34; go_must (refine (hla 1).mono ?_); rintro e w' ⟨rfl, hrow, hkp⟩; have hb2 : w'.cell? ⟨A, 0, none⟩ = some (.int .i64 b) := hkp.cell (p := ⟨A, 0, none⟩) hb (fun h => h); have HR := hidIt hrow; have HK := hidIt hkp; have hsz := hkp.size; clear hrow hkp)
  all_goals go_wp2
  all_goals go_ret
  all_goals exact ⟨w'.heap.size, w.heap.size, rfl, hsz, Nat.le_refl _, ⟨heap_new w' _, (Below.heap_alloc w' _ _ HR.out.lt).trans HR.out, Hf.out⟩, (HK.out.alloc _).undrewN⟩
end Go.Proofs.YtcaibfalhkhleaaDoor
