/-
  The walk of Name.
-/
import Derived.Test.YtlppbgmcoknliaaGreatDoorOne
namespace Go.Proofs.YtlppbgmcoknliaaGreatDoor
set_option linter.unusedVariables false
open Go.RowKit

theorem heap_on {w w' : World} {b : Nat} {o : Obj} (h : w.heap[b]? = some o) (hb : Below w.heap.size w w') : w'.heap[b]? = some o :=
  (hb.block b (Array.getElem?_eq_some_iff.1 h).1).trans h
theorem below_new (w : World) (o : Obj) : Below w.heap.size w (w.alloc o) := (Below.refl _ _).alloc (Nat.le_refl _) o
theorem below_next {a b c : World} (h : Below a.heap.size a b) (k : Below b.heap.size b c) : Below a.heap.size a c := h.trans (k.mono h.size)

/-- What Name answers. -/
def nameB (l : List UInt8) : Bool :=
  match firstL l with
  | none => false
  | some x => x.kind == 1 && l.take x.size == l

set_option maxHeartbeats 1000000 in
theorem isName_any (s : ByteArray) (hs : s.size ≤ 100000000) (w : World) :
    Calls Tryz.prog 82 #[.string s] w fun e w' => e = .returned (.bool (nameB s.data.toList)) ∧ Below w.heap.size w w' := by
  have c1 := first_any s hs
  unfold nameB
  rw [← ByteArray.toList_eq]
  rw [← ByteArray.toList_eq] at c1
  cases hf : firstL s.toList with
  | none =>
    rw [hf] at c1
    simp only [fstV] at c1
    clear hf
    go_enter Tryz.func82, Tryz.ntmps82
    go_wp2_with (first | (go_at_call 120; refine (c1 _).mono ?_; rintro e w' ⟨rfl, hb⟩; have hb := hidIt hb))
    go_ret
    exact ⟨rfl, hb.out.alloc hb.out.size _⟩
  | some x =>
    rw [hf] at c1
    simp only [fstV] at c1
    clear hf
    simp only
    by_cases hk : x.kind = 1
    · have hk1 : ((x.kind : Int) == 1) = true := by simp; omega
      have hk2 : (x.kind == 1) = true := by simp; omega
      rw [hk2, Bool.true_and]
      generalize (x.kind : Int) = K at c1 hk1
      have el : (⟨(s.toList.take x.size).toArray⟩ : ByteArray).toList = s.toList.take x.size := ByteArray.toList_mk _
      clear hk hk2
      generalize (s.toList.take x.size) = tk at c1 el ⊢
      go_enter Tryz.func82, Tryz.ntmps82
      go_wp2_with (first | (go_at_call 120; refine (c1 _).mono ?_; rintro e w' ⟨rfl, hb⟩; have hb := hidIt hb))
      go_ret
      exact ⟨rfl, hb.out.alloc hb.out.size _⟩
    · have hk1 : ((x.kind : Int) == 1) = false := by simp; omega
      have hk2 : (x.kind == 1) = false := by simp; omega
      rw [hk2, Bool.false_and]
      generalize (x.kind : Int) = K at c1 hk1
      clear hk hk2
      go_enter Tryz.func82, Tryz.ntmps82
      go_wp2_with (first | (go_at_call 120; refine (c1 _).mono ?_; rintro e w' ⟨rfl, hb⟩; have hb := hidIt hb))
      go_ret
      exact ⟨rfl, hb.out.alloc hb.out.size _⟩

end Go.Proofs.YtlppbgmcoknliaaGreatDoor
