/-
  A place comes back by its text. No walk here.
-/
import Derived.Test.YtlppbgmcoknliaaGreatDoorRRd
namespace Go.Proofs.YtlppbgmcoknliaaGreatDoor
set_option linter.unusedVariables false
open Go.RowKit

theorem okAt_dot : ∀ (l : List UInt8) (k : Nat), okAt k l = true → (46 : UInt8) ∉ l
  | [], _, _, h => by simp at h
  | b :: l, k, hk, h => by
    rw [okAt, Bool.and_eq_true] at hk
    rcases List.mem_cons.1 h with rfl | h
    · have h1 : isLetter 46 = false := by decide
      have h2 : isDigit 46 = false := by decide
      have := hk.1
      simp [h1, h2] at this
    · exact okAt_dot l (k + 1) hk.2 h
theorem name_dot {s : ByteArray} (h : nameS s = true) : (46 : UInt8) ∉ s.data.toList := by
  unfold nameS at h
  rw [name_ok] at h
  simp only [Bool.and_eq_true] at h
  exact okAt_dot _ 0 h.1.1.1
theorem step_dot {s : ByteArray} (h : stepS s = true) : (46 : UInt8) ∉ s.data.toList := by
  unfold stepS at h
  rw [Bool.or_eq_true] at h
  rcases h with h | h
  · have e : s.data.toList = [42] := by rw [← ByteArray.toList_eq]; exact beq_iff_eq.1 h
    rw [e]
    decide
  · exact name_dot h
theorem dots_text : ∀ (l : List UInt8) (xs : List ByteArray), (46 : UInt8) ∉ l → (∀ x ∈ xs, (46 : UInt8) ∉ x.data.toList) → dotsL (l ++ xs.flatMap fun s => 46 :: s.data.toList) = l :: xs.map (·.data.toList)
  | l, [], hl, _ => by simp [dots_none hl]
  | l, x :: xs, hl, h => by
    rw [List.flatMap_cons, List.cons_append, dots_app _ hl, dots_text _ xs (h x (by simp)) (fun y hy => h y (by simp [hy]))]
    rfl
theorem text_back {p : PlaceD} (h : placeR p = true) : readF ⟨(textL p).toArray⟩ = p := by
  obtain ⟨l, xs⟩ := p
  unfold placeR everyL at h
  simp only [Bool.and_eq_true, List.all_eq_true] at h
  have e := dots_text l.data.toList xs (name_dot h.1) (fun x hx => step_dot (h.2.2.2 x hx))
  unfold readF partsF
  have e2 : (⟨(textL ⟨l, xs⟩).toArray⟩ : ByteArray).data.toList = l.data.toList ++ xs.flatMap fun s => 46 :: s.data.toList := rfl
  rw [e2, e]
  simp only [List.map_cons, List.headD_cons, List.tail_cons, List.map_map, bs_of]
  congr 1
  conv => rhs; rw [← List.map_id xs]
  exact List.map_congr_left fun x _ => bs_of x
end Go.Proofs.YtlppbgmcoknliaaGreatDoor
