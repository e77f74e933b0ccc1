/-
  The walk of Front.
-/
import Derived.Test.YtlppbgmcoknliaaGreatDoorEq
import Derived.StillTailTactics
namespace Go.Proofs.YtlppbgmcoknliaaGreatDoor
set_option linter.unusedVariables false
open Go.RowKit

theorem Sl.take {w : World} {k : Nat} {a : Option Addr} {rows : List (List Value)} (h : Sl w k a rows) (n : Nat) : Sl w k a (rows.take n) := by
  refine ⟨fun r hr => h.len r (List.mem_of_mem_take hr), ?_, ?_⟩
  · have := h.big; rw [List.length_take]; omega
  · rcases h.at_ with h0 | ⟨b, off, e, hlt, hc⟩
    · exact .inl (by rw [h0]; simp)
    · refine .inr ⟨b, off, e, hlt, fun j r i v hj hv => hc j r i v ?_ hv⟩
      rw [List.getElem?_take] at hj
      split at hj
      · exact hj
      · cases hj
theorem St.take {w : World} {a : Option Addr} {xs : List ByteArray} (h : St w a xs) (n : Nat) : St w a (xs.take n) := by
  have := Sl.take h n
  unfold St
  rw [show strs (xs.take n) = (strs xs).take n by simp [strs, List.map_take]]
  exact this

/-- Is a place another one's beginning? -/
def frontQ (a b : PlaceD) : Bool := decide (a.steps.length ≤ b.steps.length) && placeQ a ⟨b.loc, b.steps.take a.steps.length⟩

set_option maxHeartbeats 400000 in
set_option maxRecDepth 100000 in
theorem front_place (p q : PlaceX) (w : World) (hp : p.At w) (hq : q.At w) (hc : q.steps.length ≤ q.sc) :
    Calls Tryz.prog 16 #[.agg p.row.toArray, .agg q.row.toArray] w fun e w' => e = .returned (.bool (frontQ p.d q.d)) ∧ Below w.heap.size w w' := by
  have b1 := St.big hp
  have b2 := St.big hq
  have hb := hidIt (below_next (below_new w (.cells #[.string p.loc, .slice p.sa p.steps.length p.sc] 24)) (below_new _ (.cells #[.string q.loc, .slice q.sa q.steps.length q.sc] 24)))
  by_cases hl : p.steps.length ≤ q.steps.length
  · have c1 : Hid (∀ W, Below w.heap.size w W → Calls Tryz.prog 15 #[.agg #[.string p.loc, .slice p.sa p.steps.length p.sc], .agg #[.string q.loc, .slice q.sa p.steps.length q.sc]] W fun e w' => e = .returned (.bool (frontQ p.d q.d)) ∧ Below W.heap.size W w') := hidIt fun W hW => by
      have := equal_place p ⟨q.loc, q.sa, q.sc, q.steps.take p.steps.length⟩ W (hp.on hW) (St.take (hq.on hW) _)
      have e : (q.steps.take p.steps.length).length = p.steps.length := by rw [List.length_take]; omega
      have e2 : frontQ p.d q.d = placeQ p.d ⟨q.loc, q.steps.take p.steps.length⟩ := by
        unfold frontQ
        rw [decide_eq_true (show p.d.steps.length ≤ q.d.steps.length from hl), Bool.true_and]
        rfl
      rw [e2]
      simp only [PlaceX.row, e] at this
      exact this
    clear hp hq
    have hl1 : ¬ (q.steps.length : Int) < (p.steps.length : Int) := by omega
    have hl2 : (p.steps.length : Int) ≤ (q.sc : Int) := by omega
    generalize frontQ p.d q.d = R at c1 ⊢
    obtain ⟨l1, s1, k1, x1⟩ := p
    obtain ⟨l2, s2, k2, x2⟩ := q
    simp only [PlaceX.row] at *
    generalize x1.length = n1 at *
    generalize x2.length = n2 at *
    go_enter Tryz.func16, Tryz.ntmps16
    go_wp2_with fail
    obtain ⟨hh1, hh2⟩ := two_at (w := w) (cs := #[.string l1, .slice s1 n1 k1]) (ds := #[.string l2, .slice s2 n2 k2]) (t := 24) (u := 24) rfl rfl (Below.refl _ _)
    have q0 := cell_at hh1 0
    have q1 := cell_at hh1 1
    have q2 := cell_at hh2 0
    have q3 := cell_at hh2 1
    clear hh1 hh2
    simp only [List.getElem?_toArray, List.getElem?_cons_zero, List.getElem?_cons_succ] at q0 q1 q2 q3
    generalize ((w.alloc (Obj.cells #[Value.string l1, Value.slice s1 n1 k1] 24)).alloc (Obj.cells #[Value.string l2, Value.slice s2 n2 k2] 24)) = w2 at q0 q1 q2 q3 hb ⊢
    go_still_tail 10, (by kernel_rfl)
    change wpList _ _ _ _ _ w2.drew
    have hb := hidIt hb.out.drew
    clear q0 q1 q2 q3
    generalize w2.drew = w3 at hb ⊢
    go_wp2_with (go_at_call 15; refine (c1.out _ hb.out).mono ?_; rintro e w' ⟨rfl, hq⟩)
    go_ret
    exact ⟨rfl, below_next hb.out hq⟩
  · have e2 : frontQ p.d q.d = false := by
      unfold frontQ
      rw [decide_eq_false (show ¬ p.d.steps.length ≤ q.d.steps.length from hl), Bool.false_and]
    rw [e2]
    have hl1 : (q.steps.length : Int) < (p.steps.length : Int) := by omega
    clear hp hq e2
    obtain ⟨l1, s1, k1, x1⟩ := p
    obtain ⟨l2, s2, k2, x2⟩ := q
    simp only [PlaceX.row] at *
    generalize x1.length = n1 at *
    generalize x2.length = n2 at *
    go_enter Tryz.func16, Tryz.ntmps16
    go_wp2_with fail
    go_ret
    exact ⟨rfl, hb.out⟩
end Go.Proofs.YtlppbgmcoknliaaGreatDoor
