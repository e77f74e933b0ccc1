/-
  The walks of slices.Equal (texts), Equal and Front of places.
-/
import Derived.Test.YtlppbgmcoknliaaGreatDoorDat
import Derived.BigQuiet
namespace Go.Proofs.YtlppbgmcoknliaaGreatDoor
set_option linter.unusedVariables false
open Go.RowKit

theorem below_drewN (w : World) : ∀ q, Below w.heap.size w (w.drewN q)
  | 0 => Below.refl _ _
  | q + 1 => (below_drewN w q).drew

set_option maxHeartbeats 2000000 in
set_option maxRecDepth 100000 in
theorem equal_strs (a b : Option Addr) (xs ys : List ByteArray) (c d : Nat) (w : World) (h1 : St w a xs) (h2 : St w b ys) :
    Calls Tryz.prog 43 #[.slice a xs.length c, .slice b ys.length d] w fun e w' => e = .returned (.bool (sq xs ys)) ∧ ∃ q, w' = w.drewN q := by
  have n1 := h1.big
  have n2 := h2.big
  by_cases hnm : xs.length = ys.length
  · have H1 := hidIt h1
    have H2 := hidIt h2
    have L1 := hidIt (rfl : xs.length = xs.length)
    obtain ⟨n, hn⟩ : ∃ n, xs.length = n := ⟨_, rfl⟩
    rw [hn] at hnm
    rw [← hnm, hn]
    have hn1 := hidIt hn
    have hn2 := hidIt hnm
    rw [hn] at n1
    clear n2 hn hnm h1 h2 L1
    obtain ⟨R, hR0⟩ : ∃ R, sq xs ys = R := ⟨_, rfl⟩
    rw [hR0]
    have hR := hidIt hR0
    clear hR0
    go_enter Tryz.func43, Tryz.ntmps43
    go_wp2
    go_loopg [13] n (fun g s13 wr => ∃ k q : Nat, k ≤ n ∧ n - k ≤ g ∧ s13 = .int .i64 k ∧ wr = w.drewN q ∧ Hid (∀ (j : Nat) (x y : ByteArray), j < k → xs[j]? = some x → ys[j]? = some y → bq x y = true))
    case atStart => exact ⟨0, 0, Nat.zero_le _, by omega, rfl, rfl, hidIt fun j x y hj => absurd hj (Nat.not_lt_zero _)⟩
    case round =>
      obtain ⟨k, q, hk, hg, rfl, rfl, A⟩ := hrel
      by_cases hlt : k < n
      · obtain ⟨x, hx⟩ : ∃ x, xs[k]? = some x := ⟨_, List.getElem?_eq_getElem (by rw [hn1.out]; exact hlt)⟩
        obtain ⟨y, hy⟩ : ∃ y, ys[k]? = some y := ⟨_, List.getElem?_eq_getElem (by rw [← hn2.out]; exact hlt)⟩
        obtain ⟨b1, o1, rfl, g1⟩ := H1.out.cell hx
        obtain ⟨b2, o2, rfl, g2⟩ := H2.out.cell hy
        have g1 := g1 w (Below.refl _ _)
        have g2 := g2 w (Below.refl _ _)
        have hx := hidIt hx
        have hy := hidIt hy
        cases hxy : bq x y with
        | true =>
          have hb : (x.toList == y.toList) = true := hxy
          have hxy := hidIt hxy
          go_wp2_with fail
          go_region
          go_wp2
          go_roundg (n - (k + 1))
          case measure => omega
          case rel =>
            refine ⟨k + 1, q + 1, by omega, by omega, by go_num, rfl, hidIt fun j u v hj hu hv => ?_⟩
            by_cases e : j = k
            · subst e
              obtain rfl : x = u := Option.some.inj (hx.out.symm.trans hu)
              obtain rfl : y = v := Option.some.inj (hy.out.symm.trans hv)
              exact hxy.out
            · exact A.out j u v (by omega) hu hv
        | false =>
          have hb : (x.toList == y.toList) = false := hxy
          obtain rfl : false = R := (lq_at hx.out hy.out hxy).symm.trans hR.out
          have hxy := hidIt hxy
          go_wp2_with fail
          go_region
          go_wp2
          go_ret
          exact ⟨rfl, q + 1, rfl⟩
      · have : k = n := by omega
        subst this
        obtain rfl : true = R := by
          refine (lq_all (by rw [hn1.out]; exact hn2.out) fun j x y hj hy => A.out j x y ?_ hj hy).symm.trans hR.out
          have := (List.getElem?_eq_some_iff.1 hj).1
          rw [hn1.out] at this
          exact this
        go_wp2
        go_ret
        exact ⟨rfl, q, rfl⟩
  · have e0 : sq xs ys = false := lq_len hnm
    rw [e0]
    clear e0
    have hnm' : ¬ (xs.length : Int) = (ys.length : Int) := by omega
    clear h1 h2 hnm
    generalize xs.length = n at *
    generalize ys.length = m at *
    go_enter Tryz.func43, Tryz.ntmps43
    go_wp2
    go_ret
    exact ⟨rfl, 0, rfl⟩

theorem two_at {w : World} {o1 o2 : Obj} {cs ds : Array Value} {t u : TypeId} {w1 : World} (e1 : o1 = .cells cs t (0, 0)) (e2 : o2 = .cells ds u (0, 0)) (h : Below ((w.alloc o1).alloc o2).heap.size ((w.alloc o1).alloc o2) w1) :
    w1.heap[w.heap.size]? = some (.cells cs t (0, 0)) ∧ w1.heap[w.heap.size + 1]? = some (.cells ds u (0, 0)) := by
  subst e1 e2
  have s1 : (w.alloc (.cells cs t (0, 0))).heap.size = w.heap.size + 1 := World.size_alloc _ _
  refine ⟨?_, ?_⟩
  · rw [h.block _ (by rw [World.size_alloc, World.size_alloc]; omega), Below.heap_alloc _ _ _ (by rw [World.size_alloc]; omega)]
    exact heap_alloc_new w _
  · rw [h.block _ (by rw [World.size_alloc, World.size_alloc]; omega), ← s1]
    exact heap_alloc_new _ _

set_option maxHeartbeats 2000000 in
theorem equal_place (p q : PlaceX) (w : World) (hp : p.At w) (hq : q.At w) :
    Calls Tryz.prog 15 #[.agg p.row.toArray, .agg q.row.toArray] w fun e w' => e = .returned (.bool (placeQ p.d q.d)) ∧ Below w.heap.size w w' := by
  have c1 : ∀ W, Below w.heap.size w W → Calls Tryz.prog 43 #[.slice p.sa p.steps.length p.sc, .slice q.sa q.steps.length q.sc] W fun e w' => e = .returned (.bool (sq p.steps q.steps)) ∧ ∃ n, w' = W.drewN n := fun W hW => equal_strs p.sa q.sa p.steps q.steps p.sc q.sc W (St.on hp hW) (St.on hq hW)
  clear hp hq
  obtain ⟨l1, s1, k1, x1⟩ := p
  obtain ⟨l2, s2, k2, x2⟩ := q
  simp only [PlaceX.row, PlaceX.d, placeQ, bq] at c1 ⊢
  generalize x1.length = n1 at c1 ⊢
  generalize x2.length = n2 at c1 ⊢
  generalize sq x1 x2 = b at c1 ⊢
  have hb := hidIt (below_next (below_new w (.cells #[.string l1, .slice s1 n1 k1] 24)) (below_new _ (.cells #[.string l2, .slice s2 n2 k2] 24)))
  generalize hv : (l1.toList == l2.toList) = v
  cases v
  · go_enter Tryz.func15, Tryz.ntmps15
    go_wp2_with fail
    go_ret
    exact ⟨rfl, hb.out⟩
  · go_enter Tryz.func15, Tryz.ntmps15
    go_wp2_with (go_at_call 43; refine (c1 _ hb.out).mono ?_; rintro e w' ⟨rfl, m, rfl⟩)
    go_ret
    exact ⟨rfl, below_next hb.out (below_drewN _ _)⟩
end Go.Proofs.YtlppbgmcoknliaaGreatDoor
