/-
  The document's own answers on places: SameTexts, Equal, Front, Place, Text.
-/
import Derived.Test.YtlppbgmcoknliaaGreatDoorEqs
import Derived.Test.YtlppbgmcoknliaaGreatDoorBld
import Derived.Deep.RegionHeld3
namespace Go.Proofs.YtlppbgmcoknliaaGreatDoor
set_option linter.unusedVariables false
open Go.RowKit

set_option maxHeartbeats 2000000 in
set_option maxRecDepth 100000 in
theorem docplace_any (p : PlaceX) (w : World) (hp : p.At w) (hf : p.d.Fit) :
 Calls Tryz.prog 18 #[.agg #[.string p.loc, .slice p.sa p.steps.length p.sc]] w fun e w' => e = .returned (.bool (placeR p.d)) ∧ Below w.heap.size w w' := by
 have n1 := St.big hp
 have eR : placeR p.d = (p.steps.all stepS && (nameS p.loc && decide ((p.steps.length : Int) ≤ 8))) := by
  unfold placeR everyL PlaceX.d
  simp only
  rw [decide_eq_true (show (0 : Int) ≤ p.steps.length by omega)]
  cases nameS p.loc <;> cases p.steps.all stepS <;> simp
 rw [eR]
 clear eR
 obtain ⟨l, sa, sc, xs⟩ := p
 obtain ⟨hf1, hf2⟩ := hf
 simp only [PlaceX.d] at hf1 hf2
 have cL : Hid (∀ W, Calls Tryz.prog 44 #[.string l] W fun e w' => e = .returned (.bool (nameS l)) ∧ Below W.heap.size W w') := hidIt fun W => rname_any l (fit_le hf1) W
 have cS : Hid (∀ x ∈ xs, ∀ W, Calls Tryz.prog 44 #[.string x] W fun e w' => e = .returned (.bool (nameS x)) ∧ Below W.heap.size W w') := hidIt fun x hx W => rname_any x (fit_le (hf2 x hx)) W
 have HP := hidIt hp
 clear hf1 hf2 hp
 simp only at n1 ⊢
 obtain ⟨A, hA⟩ : ∃ A, xs.all stepS = A := ⟨_, rfl⟩
 rw [hA]
 have HA := hidIt hA
 clear hA
 obtain ⟨N, hN⟩ : ∃ N, nameS l = N := ⟨_, rfl⟩
 rw [hN] at cL ⊢
 clear hN
 obtain ⟨n, hn⟩ : ∃ n, xs.length = n := ⟨_, rfl⟩
 rw [hn] at n1 ⊢
 have hn := hidIt hn
 have hb := hidIt (below_new w (.cells #[.string l, .slice sa n sc] 24))
 have H1 := hidIt (heap_alloc_new w (.cells #[.string l, .slice sa n sc] 24))
 go_enter Tryz.func18, Tryz.ntmps18
 go_wp2_with fail
 generalize (w.alloc (.cells #[.string l, .slice sa n sc] 24)) = W2 at hb H1 ⊢
 go_loopg [3] n (fun g s2 wr => ∃ k : Nat, k ≤ n ∧ n - k ≤ g ∧ s2 = .int .i64 k ∧ Hid (Below w.heap.size w wr ∧ wr.heap[w.heap.size]? = some (.cells #[.string l, .slice sa n sc] 24 (0, 0)) ∧ ∀ (j : Nat) (x : ByteArray), j < k → xs[j]? = some x → stepS x = true))
 case atStart => exact ⟨0, Nat.zero_le _, by omega, rfl, hidIt ⟨hb.out, H1.out, fun j x hj => absurd hj (Nat.not_lt_zero _)⟩⟩
 case round =>
  clear hb H1
  obtain ⟨k, hk, hg, rfl, R⟩ := hrel
  obtain ⟨p0, p1⟩ := cells_2 R.out.2.1
  by_cases hlt : k < n
  · obtain ⟨x, hx⟩ : ∃ x, xs[k]? = some x := ⟨_, List.getElem?_eq_getElem (by rw [hn.out]; exact hlt)⟩
    obtain ⟨b1, o1, rfl, g1⟩ := St.cell HP.out hx
    have g1 := g1 wr R.out.1
    have cX := hidIt (cS.out x (List.mem_of_getElem? hx))
    have hx := hidIt hx
    have eS : Hid (stepS x = ((x.toList == [42]) || nameS x)) := hidIt rfl
    cases h42 : (x.toList == [42]) with
    | true =>
     rw [h42] at eS
     clear cX cL
     go_wp2_with fail
     go_roundg (n - (k + 1))
     case measure => omega
     case rel =>
      refine ⟨k + 1, by omega, by omega, by go_num, hidIt ⟨R.out.1, R.out.2.1, fun j u hj hu => ?_⟩⟩
      by_cases e : j = k
      · subst e
        obtain rfl : x = u := Option.some.inj (hx.out.symm.trans hu)
        rw [eS.out]; rfl
      · exact R.out.2.2 j u (by omega) hu
    | false =>
     rw [h42] at eS
     obtain ⟨M, hM⟩ : ∃ M, nameS x = M := ⟨_, rfl⟩
     rw [hM] at cX eS
     clear hM cL
     cases M with
     | true =>
      go_wp2_with (go_at_call 44; refine (cX.out _).mono ?_; rintro e w3 ⟨rfl, hq⟩; have hq := hidIt hq)
      go_roundg (n - (k + 1))
      case measure => omega
      case rel =>
       refine ⟨k + 1, by omega, by omega, by go_num, hidIt ⟨below_next R.out.1 hq.out, heap_on R.out.2.1 hq.out, fun j u hj hu => ?_⟩⟩
       by_cases e : j = k
       · subst e
         obtain rfl : x = u := Option.some.inj (hx.out.symm.trans hu)
         rw [eS.out]; rfl
       · exact R.out.2.2 j u (by omega) hu
     | false =>
      obtain rfl : false = A := by
       rw [← HA.out, eq_comm, List.all_eq_false]
       exact ⟨x, List.mem_of_getElem? hx.out, by rw [eS.out]; simp⟩
      go_wp2_with (go_at_call 44; refine (cX.out _).mono ?_; rintro e w3 ⟨rfl, hq⟩; have hq := hidIt hq)
      go_ret
      exact ⟨rfl, below_next R.out.1 hq.out⟩
  · have : k = n := by omega
    subst this
    obtain rfl : true = A := by
     rw [← HA.out, eq_comm, List.all_eq_true]
     intro x hx
     obtain ⟨j, hj⟩ := List.mem_iff_getElem?.1 hx
     have := (List.getElem?_eq_some_iff.1 hj).1
     rw [hn.out] at this
     exact R.out.2.2 j x this hj
    go_wp2_with (go_at_call 44; refine (cL.out _).mono ?_; rintro e w3 ⟨rfl, hq⟩; have hq := hidIt hq; have p1 : w3.cell? ⟨w.heap.size, 1, none⟩ = some (.slice sa k sc) := cell_at (heap_on R.out.2.1 hq.out) 1)
    all_goals go_ret
    all_goals exact ⟨by cases N <;> simp_all, below_next R.out.1 hq.out⟩

end Go.Proofs.YtlppbgmcoknliaaGreatDoor
