/-
  Any number of sets side by side; lists of numbers that are handed in; how many numbers sets have.
-/
import Derived.Test.YtcaibfalhkhleaaDoorAlive
import Derived.OpenShut
namespace Go.Proofs.YtcaibfalhkhleaaDoor
set_option linter.unusedVariables false
open Go.RowKit

/-- A set: its block, its words' block, its bound, its numbers. -/
structure SD where
  A : Nat
  g : Nat
  b : Nat
  p : Nat → Bool
/-- Sets that were made behind w. -/
structure MS (w : World) (l : List SD) (W : World) : Prop where
  sets : ∀ d ∈ l, SetAt W d.A d.g d.b d.p ∧ w.heap.size ≤ d.A ∧ w.heap.size ≤ d.g
  nodup : (l.map SD.g).Nodup
  bel : Below w.heap.size w W

theorem MS.start {w W : World} (h : Below w.heap.size w W) : MS w [] W := ⟨fun d hd => by simp at hd, by simp, h⟩
theorem MS.at {w W : World} {l : List SD} (h : MS w l W) {i A g b : Nat} {p : Nat → Bool} (hi : l[i]? = some ⟨A, g, b, p⟩) : SetAt W A g b p := (h.sets _ (List.mem_of_getElem? hi)).1
theorem MS.grow {w W W' : World} {l : List SD} (h : MS w l W) (k : Kp (fun _ => False) W W') : MS w l W' :=
  ⟨fun d hd => ⟨(h.sets d hd).1.grown k, (h.sets d hd).2⟩, h.nodup, bOn0 h.bel k⟩
theorem MS.old {w W W' : World} {l : List SD} (h : MS w l W) (k : Kp (fun i => W.heap.size ≤ i) W W') : MS w l W' := by
  refine ⟨fun d hd => ⟨?_, (h.sets d hd).2⟩, h.nodup, h.bel.trans (k.below h.bel.size fun i hi => Nat.le_trans h.bel.size hi)⟩
  have h1 := (h.sets d hd).1.ltA
  have h2 := (h.sets d hd).1.ltg
  exact (h.sets d hd).1.kept k (by omega) (by omega)
/-- One of them has turned. -/
theorem MS.on {w W W' : World} {l : List SD} (h : MS w l W) {i A g b : Nat} {p p' : Nat → Bool} (hi : l[i]? = some ⟨A, g, b, p⟩) (hs : SetAt W' A g b p') (k : Kp (fun j => j = g) W W') : MS w (l.set i ⟨A, g, b, p'⟩) W' := by
  have h0 := h.sets _ (List.mem_of_getElem? hi)
  have hil : i < l.length := (List.getElem?_eq_some_iff.1 hi).1
  refine ⟨fun d hd => ?_, ?_, bOnG h.bel k h0.2.2⟩
  · obtain ⟨j, hj⟩ := List.mem_iff_getElem?.1 hd
    rw [List.getElem?_set] at hj
    by_cases hij : i = j
    · subst hij
      rw [if_pos rfl, if_pos hil] at hj
      cases hj
      exact ⟨hs, h0.2⟩
    · rw [if_neg hij] at hj
      refine ⟨(h.sets d (List.mem_of_getElem? hj)).1.other h0.1 k fun e => ?_, (h.sets d (List.mem_of_getElem? hj)).2⟩
      have hn := List.pairwise_iff_getElem.1 h.nodup
      have hjl : j < l.length := (List.getElem?_eq_some_iff.1 hj).1
      have e1 : l[i] = ⟨A, g, b, p⟩ := (List.getElem?_eq_some_iff.1 hi).2
      have e2 : l[j] = d := (List.getElem?_eq_some_iff.1 hj).2
      rcases Nat.lt_or_gt_of_ne hij with hlt | hlt
      · exact hn i j (by simpa using hil) (by simpa using hjl) hlt (by simp [e1, e2, e])
      · exact hn j i (by simpa using hjl) (by simpa using hil) hlt (by simp [e1, e2, e])
  · rw [List.map_set]
    have : (l.map SD.g).set i g = l.map SD.g := by
      refine List.ext_getElem? fun j => ?_
      rw [List.getElem?_set]
      by_cases hij : i = j
      · subst hij
        have e1 : l[i] = ⟨A, g, b, p⟩ := (List.getElem?_eq_some_iff.1 hi).2
        simp [hil, e1]
      · simp [hij]
    rw [this]
    exact h.nodup
/-- A new one. -/
theorem MS.push {w W W' : World} {l : List SD} (h : MS w l W) {A g b : Nat} {p : Nat → Bool} (hs : SetAt W' A g b p) (k : Kp (fun _ => False) W W') (hA : W.heap.size ≤ A) (hg : W.heap.size ≤ g) : MS w (l ++ [⟨A, g, b, p⟩]) W' := by
  have h' := h.grow k
  have hb := h.bel.size
  refine ⟨fun d hd => ?_, ?_, h'.bel⟩
  · rcases List.mem_append.1 hd with hd | hd
    · exact h'.sets d hd
    · simp at hd
      subst hd
      exact ⟨hs, by simp; omega, by simp; omega⟩
  · rw [List.map_append, List.nodup_append]
    refine ⟨h.nodup, by simp, ?_⟩
    intro x hx y hy e
    simp at hy
    subst hy
    obtain ⟨d, hd, rfl⟩ := List.mem_map.1 hx
    have := (h.sets d hd).1.ltg
    omega
theorem MS.tab {w W : World} {l : List SD} (h : MS w l W) (hT : Tab w) : Tab W := hT.below h.bel

/-- A list that was handed in is as it was. -/
theorem LAt.below {w W : World} {ao : Option Addr} {zs : List Int} (h : LAt w ao zs) (hb : Below w.heap.size w W) : LAt W ao zs := by
  intro j z hz
  obtain ⟨b, off, e, hc⟩ := h j z hz
  exact ⟨b, off, e, (hb.cell (p := ⟨b, off + j, none⟩) (World.block_lt_of_cell? w _ hc)).trans hc⟩
/-- How many there are. -/
def cnt (b : Nat) (p : Nat → Bool) : Nat := (nums b p).length
theorem cnt_succ (b : Nat) (p : Nat → Bool) : cnt (b + 1) p = cnt b p + (p b).toNat := by
  unfold cnt nums
  rw [List.range_succ, List.filter_append, List.length_append]
  cases hp : p b <;> simp [hp]
theorem cnt_zero (p : Nat → Bool) : cnt 0 p = 0 := rfl
theorem cnt_congr {b : Nat} {p q : Nat → Bool} (h : ∀ n, n < b → p n = q n) : cnt b p = cnt b q := by
  induction b with
  | zero => rfl
  | succ b ih => rw [cnt_succ, cnt_succ, ih (fun n hn => h n (by omega)), h b (by omega)]
theorem cnt_le (b : Nat) (p : Nat → Bool) : cnt b p ≤ b := nums_le b p
theorem cnt_split (b : Nat) (p q : Nat → Bool) : cnt b p = cnt b (fun n => p n && q n) + cnt b (fun n => p n && !q n) := by
  induction b with
  | zero => rfl
  | succ b ih =>
    rw [cnt_succ, cnt_succ, cnt_succ, ih]
    cases p b <;> cases q b <;> simp <;> omega
theorem cnt_or (b : Nat) (p q : Nat → Bool) : cnt b (fun n => p n || q n) + cnt b (fun n => p n && q n) = cnt b p + cnt b q := by
  induction b with
  | zero => rfl
  | succ b ih =>
    rw [cnt_succ, cnt_succ, cnt_succ, cnt_succ]
    cases p b <;> cases q b <;> simp <;> omega
/-- One within another: it has fewer just if it is another one. -/
theorem cnt_sub {b : Nat} {p q : Nat → Bool} (h : ∀ n, n < b → p n = true → q n = true) : cnt b p ≤ cnt b q ∧ (cnt b p = cnt b q ↔ ∀ n, n < b → p n = q n) := by
  induction b with
  | zero => exact ⟨Nat.le_refl _, by simp [cnt_zero]⟩
  | succ b ih =>
    obtain ⟨h1, h2⟩ := ih fun n hn => h n (by omega)
    have h3 := h b (by omega)
    rw [cnt_succ, cnt_succ]
    refine ⟨by cases hp : p b <;> cases hq : q b <;> simp_all <;> omega, ?_⟩
    constructor
    · intro he
      have h4 : p b = q b ∧ cnt b p = cnt b q := by
        cases hp : p b <;> cases hq : q b <;> simp_all <;> omega
      intro n hn
      by_cases hnb : n = b
      · rw [hnb]; exact h4.1
      · exact (h2.1 h4.2) n (by omega)
    · intro he
      rw [he b (by omega), h2.2 fun n hn => he n (by omega)]
theorem chg_eq {b : Nat} {p q : Nat → Bool} (hp : Fits b p) (hq : Fits b q) : chg b p q = !decide (∀ n, n < b → p n = q n) := by
  unfold chg
  congr 1
  rw [decide_eq_decide]
  constructor
  · intro h n hn
    have := wd_inj (h (n / 64) (nw_lt hn)) (n % 64) (by omega)
    rwa [show 64 * (n / 64) + n % 64 = n from by omega] at this
  · intro h i hi
    refine wd_congr fun j hj => ?_
    by_cases hn : 64 * i + j < b
    · exact h _ hn
    · rw [hp.out (by omega), hq.out (by omega)]
theorem opP_fits {op : Bool → Bool → Bool} {b : Nat} (hb : b ≤ 65536) (p q : Nat → Bool) : Fits b (opP op b p q) := cutP_fits hb _
theorem opP_at {op : Bool → Bool → Bool} {b n : Nat} (hn : n < b) (p q : Nat → Bool) : opP op b p q n = op (p n) (q n) := by simp [opP, cutP, hn]
theorem clampB_le (b : Int) : clampB b ≤ 65536 := by unfold clampB; omega
end Go.Proofs.YtcaibfalhkhleaaDoor
