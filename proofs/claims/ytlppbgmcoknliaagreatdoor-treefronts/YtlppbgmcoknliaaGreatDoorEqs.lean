/-
  The walks of slices.Equal of names with types and of arms, and of slices.EqualFunc of places.
-/
import Derived.Test.YtlppbgmcoknliaaGreatDoorFront
import Derived.Shelf.SlicesE.Kit
import Derived.Deep.DeepCutAuto
import Derived.Deep.QuietTactic
namespace Go.Proofs.YtlppbgmcoknliaaGreatDoor
set_option linter.unusedVariables false
open Go.RowKit

theorem Sl.cells {w : World} {k : Nat} {a : Option Addr} {rows : List (List Value)} (h : Sl w k a rows) {j : Nat} {r : List Value} (hj : rows[j]? = some r) :
    ∃ b off, a = some ⟨b, off, none⟩ ∧ b < w.heap.size ∧ ∀ W, Below w.heap.size w W → ∀ i v, r[i]? = some v → W.cell? ⟨b, off + j * k + i, none⟩ = some v := by
  rcases h.at_ with h0 | ⟨b, off, e, hlt, hc⟩
  · rw [h0] at hj; simp at hj
  · refine ⟨b, off, e, hlt, fun W hW i v hv => ?_⟩
    rw [hW.cell (p := ⟨b, off + j * k + i, none⟩) hlt]
    exact hc j r i v hj hv

theorem neq_var (x y : VarD) (w : World) : Sem.run Tryz.prog (binOp .neq 52 (.agg #[.string x.name, .string x.type]) (.agg #[.string y.name, .string y.type])) w = .ok (.bool (!varQ x y)) w := by
  have u9 := Tryz.underlying9
  have a9 := Tryz.isAgg9
  have z9 := Tryz.sizeOf9
  have hS : Tryz.prog.underlying 52 = some (.struct (Tryz.prog.fieldsOf 52)) := by kernel_rfl
  have hp : Tryz.prog.stoodInHeld 52 = false := by kernel_rfl
  rw [run_neq_struct, show (10000 : Nat) = 9999 + 1 from rfl, run_equalIn_agg w 9999 52 _ _ hS hp]
  simp only [Program.fieldsOf, Tryz.underlying52]
  go_simp
  unfold varQ bq
  by_cases h0 : x.name.toList = y.name.toList <;> by_cases h1 : x.type.toList = y.type.toList <;> simp [h0, h1]
theorem grd_var (op : BinOp) (a b : Operand) (x y : VarD) (w : World) : Sem.run Tryz.prog (eqGuard op 52 a b (.agg #[.string x.name, .string x.type]) (.agg #[.string y.name, .string y.type])) w = .ok () w :=
  run_eqGuard_agg w op 52 a b _ _ (by kernel_rfl)

theorem neq_arm (x y : ArmD) (w : World) : Sem.run Tryz.prog (binOp .neq 103 (.agg #[.string x.variant, .string x.loc, .string x.block]) (.agg #[.string y.variant, .string y.loc, .string y.block])) w = .ok (.bool (!armQ x y)) w := by
  have u9 := Tryz.underlying9
  have a9 := Tryz.isAgg9
  have z9 := Tryz.sizeOf9
  have hS : Tryz.prog.underlying 103 = some (.struct (Tryz.prog.fieldsOf 103)) := by kernel_rfl
  have hp : Tryz.prog.stoodInHeld 103 = false := by kernel_rfl
  rw [run_neq_struct, show (10000 : Nat) = 9999 + 1 from rfl, run_equalIn_agg w 9999 103 _ _ hS hp]
  simp only [Program.fieldsOf, Tryz.underlying103]
  go_simp
  unfold armQ bq
  by_cases h0 : x.variant.toList = y.variant.toList <;> by_cases h1 : x.loc.toList = y.loc.toList <;> by_cases h2 : x.block.toList = y.block.toList <;> simp [h0, h1, h2]
theorem grd_arm (op : BinOp) (a b : Operand) (x y : ArmD) (w : World) : Sem.run Tryz.prog (eqGuard op 103 a b (.agg #[.string x.variant, .string x.loc, .string x.block]) (.agg #[.string y.variant, .string y.loc, .string y.block])) w = .ok () w :=
  run_eqGuard_agg w op 103 a b _ _ (by kernel_rfl)

set_option maxHeartbeats 2000000 in
set_option maxRecDepth 100000 in
theorem equal_vars (a b : Option Addr) (xs ys : List VarD) (c d : Nat) (w : World) (h1 : Vrs w a xs) (h2 : Vrs w b ys) :
    Calls Tryz.prog 107 #[.slice a xs.length c, .slice b ys.length d] w fun e w' => e = .returned (.bool (lq varQ xs ys)) ∧ Below w.heap.size w w' := by
  have n1 := h1.big
  have n2 := h2.big
  rw [List.length_map] at n1 n2
  by_cases hnm : xs.length = ys.length
  · have H1 := hidIt h1
    have H2 := hidIt h2
    obtain ⟨n, hn⟩ : ∃ n, xs.length = n := ⟨_, rfl⟩
    rw [hn] at hnm
    rw [← hnm, hn]
    have hn1 := hidIt hn
    have hn2 := hidIt hnm
    rw [hn] at n1
    clear n2 hn hnm h1 h2
    obtain ⟨R, hR0⟩ : ∃ R, lq varQ xs ys = R := ⟨_, rfl⟩
    rw [hR0]
    have hR := hidIt hR0
    clear hR0
    go_enter Tryz.func107, Tryz.ntmps107
    go_wp2
    go_loopg [13] n (fun g s13 wr => ∃ k : Nat, k ≤ n ∧ n - k ≤ g ∧ s13 = .int .i64 k ∧ Hid (Below w.heap.size w wr) ∧ Hid (∀ (j : Nat) (x y : VarD), j < k → xs[j]? = some x → ys[j]? = some y → varQ x y = true))
    case atStart => exact ⟨0, Nat.zero_le _, by omega, rfl, hidIt (Below.refl _ _), hidIt fun j x y hj => absurd hj (Nat.not_lt_zero _)⟩
    case round =>
      obtain ⟨k, hk, hg, rfl, hb, A⟩ := hrel
      by_cases hlt : k < n
      · obtain ⟨x, hx⟩ : ∃ x, xs[k]? = some x := ⟨_, List.getElem?_eq_getElem (by rw [hn1.out]; exact hlt)⟩
        obtain ⟨y, hy⟩ : ∃ y, ys[k]? = some y := ⟨_, List.getElem?_eq_getElem (by rw [← hn2.out]; exact hlt)⟩
        obtain ⟨b1, o1, rfl, z1, g1⟩ := H1.out.cells (j := k) (r := x.row) (by rw [List.getElem?_map, hx]; rfl)
        obtain ⟨b2, o2, rfl, z2, g2⟩ := H2.out.cells (j := k) (r := y.row) (by rw [List.getElem?_map, hy]; rfl)
        have Hx := hidIt hx
        have Hy := hidIt hy
        have p0 := g1 wr hb.out 0 _ rfl
        have p1 := g1 wr hb.out 1 _ rfl
        rw [Nat.add_zero] at p0
        have q0 := g2 wr hb.out 0 _ rfl
        have q1 := g2 wr hb.out 1 _ rfl
        rw [Nat.add_zero] at q0
        clear g1 g2 hx hy z1 z2
        have hne := neq_var x y
        have hgd := fun op a b w => grd_var op a b x y w
        cases hxy : varQ x y with
        | true =>
          rw [hxy] at hne
          have hxy := hidIt hxy
          go_wp2_with fail
          go_quiet (fail)
          go_wp2
          go_roundg (n - (k + 1))
          case measure => omega
          case rel =>
            refine ⟨k + 1, by omega, by omega, by go_num, hidIt (below_next hb.out (below_drewN _ _)), hidIt fun j u v hj hu hv => ?_⟩
            by_cases e : j = k
            · subst e
              obtain rfl : x = u := Option.some.inj (Hx.out.symm.trans hu)
              obtain rfl : y = v := Option.some.inj (Hy.out.symm.trans hv)
              exact hxy.out
            · exact A.out j u v (by omega) hu hv
        | false =>
          rw [hxy] at hne
          obtain rfl : false = R := (lq_at Hx.out Hy.out hxy).symm.trans hR.out
          have hxy := hidIt hxy
          go_wp2_with fail
          go_quiet (fail)
          go_wp2
          go_ret
          exact ⟨rfl, below_next hb.out (below_drewN _ _)⟩
      · have : k = n := by omega
        subst this
        obtain rfl : true = R := by
          refine (lq_all (by rw [hn1.out]; exact hn2.out) fun j x y hj hy => A.out j x y ?_ hj hy).symm.trans hR.out
          have := (List.getElem?_eq_some_iff.1 hj).1
          rw [hn1.out] at this
          exact this
        go_wp2
        go_ret
        exact ⟨rfl, hb.out⟩
  · have e0 : lq varQ xs ys = false := lq_len hnm
    rw [e0]
    clear e0
    have hnm' : ¬ (xs.length : Int) = (ys.length : Int) := by omega
    clear h1 h2 hnm
    generalize xs.length = n at *
    generalize ys.length = m at *
    go_enter Tryz.func107, Tryz.ntmps107
    go_wp2
    go_ret
    exact ⟨rfl, Below.refl _ _⟩

set_option maxHeartbeats 2000000 in
set_option maxRecDepth 100000 in
theorem equal_arms (a b : Option Addr) (xs ys : List ArmD) (c d : Nat) (w : World) (h1 : Ars w a xs) (h2 : Ars w b ys) :
    Calls Tryz.prog 178 #[.slice a xs.length c, .slice b ys.length d] w fun e w' => e = .returned (.bool (lq armQ xs ys)) ∧ Below w.heap.size w w' := by
  have n1 := h1.big
  have n2 := h2.big
  rw [List.length_map] at n1 n2
  by_cases hnm : xs.length = ys.length
  · have H1 := hidIt h1
    have H2 := hidIt h2
    obtain ⟨n, hn⟩ : ∃ n, xs.length = n := ⟨_, rfl⟩
    rw [hn] at hnm
    rw [← hnm, hn]
    have hn1 := hidIt hn
    have hn2 := hidIt hnm
    rw [hn] at n1
    clear n2 hn hnm h1 h2
    obtain ⟨R, hR0⟩ : ∃ R, lq armQ xs ys = R := ⟨_, rfl⟩
    rw [hR0]
    have hR := hidIt hR0
    clear hR0
    go_enter Tryz.func178, Tryz.ntmps178
    go_wp2
    go_loopg [13] n (fun g s13 wr => ∃ k : Nat, k ≤ n ∧ n - k ≤ g ∧ s13 = .int .i64 k ∧ Hid (Below w.heap.size w wr) ∧ Hid (∀ (j : Nat) (x y : ArmD), j < k → xs[j]? = some x → ys[j]? = some y → armQ x y = true))
    case atStart => exact ⟨0, Nat.zero_le _, by omega, rfl, hidIt (Below.refl _ _), hidIt fun j x y hj => absurd hj (Nat.not_lt_zero _)⟩
    case round =>
      obtain ⟨k, hk, hg, rfl, hb, A⟩ := hrel
      by_cases hlt : k < n
      · obtain ⟨x, hx⟩ : ∃ x, xs[k]? = some x := ⟨_, List.getElem?_eq_getElem (by rw [hn1.out]; exact hlt)⟩
        obtain ⟨y, hy⟩ : ∃ y, ys[k]? = some y := ⟨_, List.getElem?_eq_getElem (by rw [← hn2.out]; exact hlt)⟩
        obtain ⟨b1, o1, rfl, z1, g1⟩ := H1.out.cells (j := k) (r := x.row) (by rw [List.getElem?_map, hx]; rfl)
        obtain ⟨b2, o2, rfl, z2, g2⟩ := H2.out.cells (j := k) (r := y.row) (by rw [List.getElem?_map, hy]; rfl)
        have Hx := hidIt hx
        have Hy := hidIt hy
        have p0 := g1 wr hb.out 0 _ rfl
        have p1 := g1 wr hb.out 1 _ rfl
        have p2 := g1 wr hb.out 2 _ rfl
        rw [Nat.add_zero] at p0
        have q0 := g2 wr hb.out 0 _ rfl
        have q1 := g2 wr hb.out 1 _ rfl
        have q2 := g2 wr hb.out 2 _ rfl
        rw [Nat.add_zero] at q0
        clear g1 g2 hx hy z1 z2
        have hne := neq_arm x y
        have hgd := fun op a b w => grd_arm op a b x y w
        cases hxy : armQ x y with
        | true =>
          rw [hxy] at hne
          have hxy := hidIt hxy
          go_wp2_with fail
          go_quiet (fail)
          go_wp2
          go_roundg (n - (k + 1))
          case measure => omega
          case rel =>
            refine ⟨k + 1, by omega, by omega, by go_num, hidIt (below_next hb.out (below_drewN _ _)), hidIt fun j u v hj hu hv => ?_⟩
            by_cases e : j = k
            · subst e
              obtain rfl : x = u := Option.some.inj (Hx.out.symm.trans hu)
              obtain rfl : y = v := Option.some.inj (Hy.out.symm.trans hv)
              exact hxy.out
            · exact A.out j u v (by omega) hu hv
        | false =>
          rw [hxy] at hne
          obtain rfl : false = R := (lq_at Hx.out Hy.out hxy).symm.trans hR.out
          have hxy := hidIt hxy
          go_wp2_with fail
          go_quiet (fail)
          go_wp2
          go_ret
          exact ⟨rfl, below_next hb.out (below_drewN _ _)⟩
      · have : k = n := by omega
        subst this
        obtain rfl : true = R := by
          refine (lq_all (by rw [hn1.out]; exact hn2.out) fun j x y hj hy => A.out j x y ?_ hj hy).symm.trans hR.out
          have := (List.getElem?_eq_some_iff.1 hj).1
          rw [hn1.out] at this
          exact this
        go_wp2
        go_ret
        exact ⟨rfl, hb.out⟩
  · have e0 : lq armQ xs ys = false := lq_len hnm
    rw [e0]
    clear e0
    have hnm' : ¬ (xs.length : Int) = (ys.length : Int) := by omega
    clear h1 h2 hnm
    generalize xs.length = n at *
    generalize ys.length = m at *
    go_enter Tryz.func178, Tryz.ntmps178
    go_wp2
    go_ret
    exact ⟨rfl, Below.refl _ _⟩

set_option maxHeartbeats 2000000 in
set_option maxRecDepth 100000 in
theorem equal_places (a b : Option Addr) (xs ys : List PlaceX) (c d : Nat) (w : World) (h1 : Pls w a xs) (h2 : Pls w b ys) :
    Calls Tryz.prog 177 #[.slice a xs.length c, .slice b ys.length d, .func (.func 15) #[] #[]] w fun e w' => e = .returned (.bool (lq (fun x y => placeQ x.d y.d) xs ys)) ∧ Below w.heap.size w w' := by
  have n1 := h1.1.big
  have n2 := h2.1.big
  rw [List.length_map] at n1 n2
  by_cases hnm : xs.length = ys.length
  · have H1 := hidIt h1
    have H2 := hidIt h2
    obtain ⟨n, hn⟩ : ∃ n, xs.length = n := ⟨_, rfl⟩
    rw [hn] at hnm
    rw [← hnm, hn]
    have hn1 := hidIt hn
    have hn2 := hidIt hnm
    rw [hn] at n1
    clear n2 hn hnm h1 h2
    obtain ⟨R, hR0⟩ : ∃ R, lq (fun x y => placeQ x.d y.d) xs ys = R := ⟨_, rfl⟩
    rw [hR0]
    have hR := hidIt hR0
    clear hR0
    go_enter Tryz.func177, Tryz.ntmps177
    go_wp2
    go_loopg [17] n (fun g s17 wr => ∃ k : Nat, k ≤ n ∧ n - k ≤ g ∧ s17 = .int .i64 k ∧ Hid (Below w.heap.size w wr) ∧ Hid (∀ (j : Nat) (x y : PlaceX), j < k → xs[j]? = some x → ys[j]? = some y → placeQ x.d y.d = true))
    case atStart => exact ⟨0, Nat.zero_le _, by omega, rfl, hidIt (Below.refl _ _), hidIt fun j x y hj => absurd hj (Nat.not_lt_zero _)⟩
    case round =>
      obtain ⟨k, hk, hg, rfl, hb, A⟩ := hrel
      by_cases hlt : k < n
      · obtain ⟨x, hx⟩ : ∃ x, xs[k]? = some x := ⟨_, List.getElem?_eq_getElem (by rw [hn1.out]; exact hlt)⟩
        obtain ⟨y, hy⟩ : ∃ y, ys[k]? = some y := ⟨_, List.getElem?_eq_getElem (by rw [← hn2.out]; exact hlt)⟩
        obtain ⟨b1, o1, rfl, z1, g1⟩ := H1.out.1.cells (j := k) (r := x.row) (by rw [List.getElem?_map, hx]; rfl)
        obtain ⟨b2, o2, rfl, z2, g2⟩ := H2.out.1.cells (j := k) (r := y.row) (by rw [List.getElem?_map, hy]; rfl)
        have c1 : Hid (∀ W, Below w.heap.size w W → Calls Tryz.prog 15 #[.agg x.row.toArray, .agg y.row.toArray] W fun e w' => e = .returned (.bool (placeQ x.d y.d)) ∧ Below W.heap.size W w') := hidIt fun W hW =>
          equal_place x y W ((H1.out.2 x (List.mem_of_getElem? hx)).on hW) ((H2.out.2 y (List.mem_of_getElem? hy)).on hW)
        have Hx := hidIt hx
        have Hy := hidIt hy
        have G2 := hidIt g2
        have p0 := g1 wr hb.out 0 _ rfl
        have p1 := g1 wr hb.out 1 _ rfl
        rw [Nat.add_zero] at p0
        clear g1 g2 hx hy z1 z2
        simp only [PlaceX.row] at c1
        go_upto_region 6 with fail
        have hb1 := hidIt (below_next hb.out (below_new wr (.cells #[.string x.loc, .slice x.sa x.steps.length x.sc] 24)))
        have hh1 := heap_alloc_new wr (.cells #[.string x.loc, .slice x.sa x.steps.length x.sc] 24)
        clear p0 p1 hb
        generalize wr.alloc (.cells #[.string x.loc, .slice x.sa x.steps.length x.sc] 24) = w1 at hb1 hh1 ⊢
        generalize wr.heap.size = B1 at hh1 ⊢
        have p0 := G2.out w1 hb1.out 0 _ rfl
        have p1 := G2.out w1 hb1.out 1 _ rfl
        rw [Nat.add_zero] at p0
        have hh1 := hidIt hh1
        go_upto_region 7 with fail
        have hb2 := hidIt (below_next hb1.out (below_new w1 (.cells #[.string y.loc, .slice y.sa y.steps.length y.sc] 24)))
        have hh2 := heap_alloc_new w1 (.cells #[.string y.loc, .slice y.sa y.steps.length y.sc] 24)
        have hh3 := heap_on hh1.out (below_new w1 (.cells #[.string y.loc, .slice y.sa y.steps.length y.sc] 24))
        clear p0 p1 hb1
        generalize w1.alloc (.cells #[.string y.loc, .slice y.sa y.steps.length y.sc] 24) = w2 at hb2 hh2 hh3 ⊢
        generalize w1.heap.size = B2 at hh2 ⊢
        have q0 : w2.cell? ⟨B1, 0, none⟩ = some (.string x.loc) := cell_at hh3 0
        have q1 : w2.cell? ⟨B1, 1, none⟩ = some (.slice x.sa x.steps.length x.sc) := cell_at hh3 1
        have r0 : w2.cell? ⟨B2, 0, none⟩ = some (.string y.loc) := cell_at hh2 0
        have r1 : w2.cell? ⟨B2, 1, none⟩ = some (.slice y.sa y.steps.length y.sc) := cell_at hh2 1
        clear hh1 hh2 hh3
        cases hxy : placeQ x.d y.d with
        | true =>
          rw [hxy] at c1
          have hxy := hidIt hxy
          go_wp2_with (go_at_call 15; refine (c1.out _ hb2.out).mono ?_; rintro e w' ⟨rfl, hq⟩; have hb3 := hidIt (below_next hb2.out hq); clear hq)
          go_roundg (n - (k + 1))
          case measure => omega
          case rel =>
            refine ⟨k + 1, by omega, by omega, by go_num, hb3, hidIt fun j u v hj hu hv => ?_⟩
            by_cases e : j = k
            · subst e
              obtain rfl : x = u := Option.some.inj (Hx.out.symm.trans hu)
              obtain rfl : y = v := Option.some.inj (Hy.out.symm.trans hv)
              exact hxy.out
            · exact A.out j u v (by omega) hu hv
        | false =>
          rw [hxy] at c1
          obtain rfl : false = R := (lq_at (f := fun x y => placeQ x.d y.d) Hx.out Hy.out hxy).symm.trans hR.out
          have hxy := hidIt hxy
          go_wp2_with (go_at_call 15; refine (c1.out _ hb2.out).mono ?_; rintro e w' ⟨rfl, hq⟩; have hb3 := hidIt (below_next hb2.out hq); clear hq)
          go_ret
          exact ⟨rfl, hb3.out⟩
      · have : k = n := by omega
        subst this
        obtain rfl : true = R := by
          refine (lq_all (f := fun x y => placeQ x.d y.d) (by rw [hn1.out]; exact hn2.out) fun j x y hj hy => A.out j x y ?_ hj hy).symm.trans hR.out
          have := (List.getElem?_eq_some_iff.1 hj).1
          rw [hn1.out] at this
          exact this
        go_wp2
        go_ret
        exact ⟨rfl, hb.out⟩
  · have e0 : lq (fun x y => placeQ x.d y.d) xs ys = false := lq_len hnm
    rw [e0]
    clear e0
    have hnm' : ¬ (xs.length : Int) = (ys.length : Int) := by omega
    clear h1 h2 hnm
    generalize xs.length = n at *
    generalize ys.length = m at *
    go_enter Tryz.func177, Tryz.ntmps177
    go_wp2
    go_ret
    exact ⟨rfl, Below.refl _ _⟩

end Go.Proofs.YtlppbgmcoknliaaGreatDoor
