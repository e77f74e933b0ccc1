/-
  The walks of slices.Equal (texts), Equal and Front of places.
  The walk of Front.
  The walks of slices.Equal of names with types and of arms, and of slices.EqualFunc of places.
-/
import Derived.Test.YtlppbgmcoknliaaGreatDoorDat
import Derived.BigQuiet
import Derived.StillTailTactics
import Derived.Shelf.SlicesE.Kit
import Derived.Deep.DeepCutAuto
import Derived.Deep.QuietTactic
namespace Go.Proofs.YtlppbgmcoknliaaGreatDoor
set_option linter.unusedVariables false
open Go.RowKit

theorem below_drewN (w : World) : ∀ q, Below w.heap.size w (w.drewN q)
 | 0 => Below.refl _ _
 | q + 1 => (below_drewN w q).drew

set_option maxHeartbeats 2000000 in
set_option maxRecDepth 100000 in
theorem equal_strs (a b : Option Addr) (xs ys : List ByteArray) (c d : Nat) (w : World) (h1 : St w a xs) (h2 : St w b ys) :
 Calls Tryz.prog 43 #[.slice a xs.length c, .slice b ys.length d] w fun e w' => e = .returned (.bool (sq xs ys)) ∧ ∃ q, w' = w.drewN q := by
 have n1 := h1.big
 have n2 := h2.big
 by_cases hnm : xs.length = ys.length
 · have H1 := hidIt h1
   have H2 := hidIt h2
   have L1 := hidIt (rfl : xs.length = xs.length)
   obtain ⟨n, hn⟩ : ∃ n, xs.length = n := ⟨_, rfl⟩
   rw [hn] at hnm
   rw [← hnm, hn]
   have hn1 := hidIt hn
   have hn2 := hidIt hnm
   rw [hn] at n1
   clear n2 hn hnm h1 h2 L1
   obtain ⟨R, hR0⟩ : ∃ R, sq xs ys = R := ⟨_, rfl⟩
   rw [hR0]
   have hR := hidIt hR0
   clear hR0
   go_enter Tryz.func43, Tryz.ntmps43
   go_wp2
   go_loopg [13] n (fun g s13 wr => ∃ k q : Nat, k ≤ n ∧ n - k ≤ g ∧ s13 = .int .i64 k ∧ wr = w.drewN q ∧ Hid (∀ (j : Nat) (x y : ByteArray), j < k → xs[j]? = some x → ys[j]? = some y → bq x y = true))
   case atStart => exact ⟨0, 0, Nat.zero_le _, by omega, rfl, rfl, hidIt fun j x y hj => absurd hj (Nat.not_lt_zero _)⟩
   case round =>
    obtain ⟨k, q, hk, hg, rfl, rfl, A⟩ := hrel
    by_cases hlt : k < n
    · obtain ⟨x, hx⟩ : ∃ x, xs[k]? = some x := ⟨_, List.getElem?_eq_getElem (by rw [hn1.out]; exact hlt)⟩
      obtain ⟨y, hy⟩ : ∃ y, ys[k]? = some y := ⟨_, List.getElem?_eq_getElem (by rw [← hn2.out]; exact hlt)⟩
      obtain ⟨b1, o1, rfl, g1⟩ := H1.out.cell hx
      obtain ⟨b2, o2, rfl, g2⟩ := H2.out.cell hy
      have g1 := g1 w (Below.refl _ _)
      have g2 := g2 w (Below.refl _ _)
      have hx := hidIt hx
      have hy := hidIt hy
      cases hxy : bq x y with
      | true =>
       have hb : (x.toList == y.toList) = true := hxy
       have hxy := hidIt hxy
       go_wp2_with fail
       go_region
       go_wp2
       go_roundg (n - (k + 1))
       case measure => omega
       case rel =>
        refine ⟨k + 1, q + 1, by omega, by omega, by go_num, rfl, hidIt fun j u v hj hu hv => ?_⟩
        by_cases e : j = k
        · subst e
          obtain rfl : x = u := Option.some.inj (hx.out.symm.trans hu)
          obtain rfl : y = v := Option.some.inj (hy.out.symm.trans hv)
          exact hxy.out
        · exact A.out j u v (by omega) hu hv
      | false =>
       have hb : (x.toList == y.toList) = false := hxy
       obtain rfl : false = R := (lq_at hx.out hy.out hxy).symm.trans hR.out
       have hxy := hidIt hxy
       go_wp2_with fail
       go_region
       go_wp2
       go_ret
       exact ⟨rfl, q + 1, rfl⟩
    · have : k = n := by omega
      subst this
      obtain rfl : true = R := by
       refine (lq_all (by rw [hn1.out]; exact hn2.out) fun j x y hj hy => A.out j x y ?_ hj hy).symm.trans hR.out
       have := (List.getElem?_eq_some_iff.1 hj).1
       rw [hn1.out] at this
       exact this
      go_wp2
      go_ret
      exact ⟨rfl, q, rfl⟩
 · have e0 : sq xs ys = false := lq_len hnm
   rw [e0]
   clear e0
   have hnm' : ¬ (xs.length : Int) = (ys.length : Int) := by omega
   clear h1 h2 hnm
   generalize xs.length = n at *
   generalize ys.length = m at *
   go_enter Tryz.func43, Tryz.ntmps43
   go_wp2
   go_ret
   exact ⟨rfl, 0, rfl⟩

theorem two_at {w : World} {o1 o2 : Obj} {cs ds : Array Value} {t u : TypeId} {w1 : World} (e1 : o1 = .cells cs t (0, 0)) (e2 : o2 = .cells ds u (0, 0)) (h : Below ((w.alloc o1).alloc o2).heap.size ((w.alloc o1).alloc o2) w1) :
 w1.heap[w.heap.size]? = some (.cells cs t (0, 0)) ∧ w1.heap[w.heap.size + 1]? = some (.cells ds u (0, 0)) := by
 subst e1 e2
 have s1 : (w.alloc (.cells cs t (0, 0))).heap.size = w.heap.size + 1 := World.size_alloc _ _
 refine ⟨?_, ?_⟩
 · rw [h.block _ (by rw [World.size_alloc, World.size_alloc]; omega), Below.heap_alloc _ _ _ (by rw [World.size_alloc]; omega)]
   exact heap_alloc_new w _
 · rw [h.block _ (by rw [World.size_alloc, World.size_alloc]; omega), ← s1]
   exact heap_alloc_new _ _

set_option maxHeartbeats 2000000 in
theorem equal_place (p q : PlaceX) (w : World) (hp : p.At w) (hq : q.At w) :
 Calls Tryz.prog 15 #[.agg p.row.toArray, .agg q.row.toArray] w fun e w' => e = .returned (.bool (placeQ p.d q.d)) ∧ Below w.heap.size w w' := by
 have c1 : ∀ W, Below w.heap.size w W → Calls Tryz.prog 43 #[.slice p.sa p.steps.length p.sc, .slice q.sa q.steps.length q.sc] W fun e w' => e = .returned (.bool (sq p.steps q.steps)) ∧ ∃ n, w' = W.drewN n := fun W hW => equal_strs p.sa q.sa p.steps q.steps p.sc q.sc W (St.on hp hW) (St.on hq hW)
 clear hp hq
 obtain ⟨l1, s1, k1, x1⟩ := p
 obtain ⟨l2, s2, k2, x2⟩ := q
 simp only [PlaceX.row, PlaceX.d, placeQ, bq] at c1 ⊢
 generalize x1.length = n1 at c1 ⊢
 generalize x2.length = n2 at c1 ⊢
 generalize sq x1 x2 = b at c1 ⊢
 have hb := hidIt (below_next (below_new w (.cells #[.string l1, .slice s1 n1 k1] 24)) (below_new _ (.cells #[.string l2, .slice s2 n2 k2] 24)))
 generalize hv : (l1.toList == l2.toList) = v
 cases v
 · go_enter Tryz.func15, Tryz.ntmps15
   go_wp2_with fail
   go_ret
   exact ⟨rfl, hb.out⟩
 · go_enter Tryz.func15, Tryz.ntmps15
   go_wp2_with (go_at_call 43; refine (c1 _ hb.out).mono ?_; rintro e w' ⟨rfl, m, rfl⟩)
   go_ret
   exact ⟨rfl, below_next hb.out (below_drewN _ _)⟩
end Go.Proofs.YtlppbgmcoknliaaGreatDoor
namespace Go.Proofs.YtlppbgmcoknliaaGreatDoor
set_option linter.unusedVariables false
open Go.RowKit

theorem Sl.take {w : World} {k : Nat} {a : Option Addr} {rows : List (List Value)} (h : Sl w k a rows) (n : Nat) : Sl w k a (rows.take n) := by
 refine ⟨fun r hr => h.len r (List.mem_of_mem_take hr), ?_, ?_⟩
 · have := h.big; rw [List.length_take]; omega
 · rcases h.at_ with h0 | ⟨b, off, e, hlt, hc⟩
   · exact .inl (by rw [h0]; simp)
   · refine .inr ⟨b, off, e, hlt, fun j r i v hj hv => hc j r i v ?_ hv⟩
     rw [List.getElem?_take] at hj
     split at hj
     · exact hj
     · cases hj
theorem St.take {w : World} {a : Option Addr} {xs : List ByteArray} (h : St w a xs) (n : Nat) : St w a (xs.take n) := by
 have := Sl.take h n
 unfold St
 rw [show strs (xs.take n) = (strs xs).take n by simp [strs, List.map_take]]
 exact this

/-- Is a place another one's beginning? -/
def frontQ (a b : PlaceD) : Bool := decide (a.steps.length ≤ b.steps.length) && placeQ a ⟨b.loc, b.steps.take a.steps.length⟩

set_option maxHeartbeats 400000 in
set_option maxRecDepth 100000 in
theorem front_place (p q : PlaceX) (w : World) (hp : p.At w) (hq : q.At w) (hc : q.steps.length ≤ q.sc) :
 Calls Tryz.prog 16 #[.agg p.row.toArray, .agg q.row.toArray] w fun e w' => e = .returned (.bool (frontQ p.d q.d)) ∧ Below w.heap.size w w' := by
 have b1 := St.big hp
 have b2 := St.big hq
 have hb := hidIt (below_next (below_new w (.cells #[.string p.loc, .slice p.sa p.steps.length p.sc] 24)) (below_new _ (.cells #[.string q.loc, .slice q.sa q.steps.length q.sc] 24)))
 by_cases hl : p.steps.length ≤ q.steps.length
 · have c1 : Hid (∀ W, Below w.heap.size w W → Calls Tryz.prog 15 #[.agg #[.string p.loc, .slice p.sa p.steps.length p.sc], .agg #[.string q.loc, .slice q.sa p.steps.length q.sc]] W fun e w' => e = .returned (.bool (frontQ p.d q.d)) ∧ Below W.heap.size W w') := hidIt fun W hW => by
    have := equal_place p ⟨q.loc, q.sa, q.sc, q.steps.take p.steps.length⟩ W (hp.on hW) (St.take (hq.on hW) _)
    have e : (q.steps.take p.steps.length).length = p.steps.length := by rw [List.length_take]; omega
    have e2 : frontQ p.d q.d = placeQ p.d ⟨q.loc, q.steps.take p.steps.length⟩ := by
     unfold frontQ
     rw [decide_eq_true (show p.d.steps.length ≤ q.d.steps.length from hl), Bool.true_and]
     rfl
    rw [e2]
    simp only [PlaceX.row, e] at this
    exact this
   clear hp hq
   have hl1 : ¬ (q.steps.length : Int) < (p.steps.length : Int) := by omega
   have hl2 : (p.steps.length : Int) ≤ (q.sc : Int) := by omega
   generalize frontQ p.d q.d = R at c1 ⊢
   obtain ⟨l1, s1, k1, x1⟩ := p
   obtain ⟨l2, s2, k2, x2⟩ := q
   simp only [PlaceX.row] at *
   generalize x1.length = n1 at *
   generalize x2.length = n2 at *
   go_enter Tryz.func16, Tryz.ntmps16
   go_wp2_with fail
   obtain ⟨hh1, hh2⟩ := two_at (w := w) (cs := #[.string l1, .slice s1 n1 k1]) (ds := #[.string l2, .slice s2 n2 k2]) (t := 24) (u := 24) rfl rfl (Below.refl _ _)
   have q0 := cell_at hh1 0
   have q1 := cell_at hh1 1
   have q2 := cell_at hh2 0
   have q3 := cell_at hh2 1
   clear hh1 hh2
   simp only [List.getElem?_toArray, List.getElem?_cons_zero, List.getElem?_cons_succ] at q0 q1 q2 q3
   generalize ((w.alloc (Obj.cells #[Value.string l1, Value.slice s1 n1 k1] 24)).alloc (Obj.cells #[Value.string l2, Value.slice s2 n2 k2] 24)) = w2 at q0 q1 q2 q3 hb ⊢
   go_still_tail 10, (by kernel_rfl)
   change wpList _ _ _ _ _ w2.drew
   have hb := hidIt hb.out.drew
   clear q0 q1 q2 q3
   generalize w2.drew = w3 at hb ⊢
   go_wp2_with (go_at_call 15; refine (c1.out _ hb.out).mono ?_; rintro e w' ⟨rfl, hq⟩)
   go_ret
   exact ⟨rfl, below_next hb.out hq⟩
 · have e2 : frontQ p.d q.d = false := by
    unfold frontQ
    rw [decide_eq_false (show ¬ p.d.steps.length ≤ q.d.steps.length from hl), Bool.false_and]
   rw [e2]
   have hl1 : (q.steps.length : Int) < (p.steps.length : Int) := by omega
   clear hp hq e2
   obtain ⟨l1, s1, k1, x1⟩ := p
   obtain ⟨l2, s2, k2, x2⟩ := q
   simp only [PlaceX.row] at *
   generalize x1.length = n1 at *
   generalize x2.length = n2 at *
   go_enter Tryz.func16, Tryz.ntmps16
   go_wp2_with fail
   go_ret
   exact ⟨rfl, hb.out⟩
end Go.Proofs.YtlppbgmcoknliaaGreatDoor
namespace Go.Proofs.YtlppbgmcoknliaaGreatDoor
set_option linter.unusedVariables false
open Go.RowKit

theorem Sl.cells {w : World} {k : Nat} {a : Option Addr} {rows : List (List Value)} (h : Sl w k a rows) {j : Nat} {r : List Value} (hj : rows[j]? = some r) :
 ∃ b off, a = some ⟨b, off, none⟩ ∧ b < w.heap.size ∧ ∀ W, Below w.heap.size w W → ∀ i v, r[i]? = some v → W.cell? ⟨b, off + j * k + i, none⟩ = some v := by
 rcases h.at_ with h0 | ⟨b, off, e, hlt, hc⟩
 · rw [h0] at hj; simp at hj
 · refine ⟨b, off, e, hlt, fun W hW i v hv => ?_⟩
   rw [hW.cell (p := ⟨b, off + j * k + i, none⟩) hlt]
   exact hc j r i v hj hv

theorem neq_var (x y : VarD) (w : World) : Sem.run Tryz.prog (binOp .neq 52 (.agg #[.string x.name, .string x.type]) (.agg #[.string y.name, .string y.type])) w = .ok (.bool (!varQ x y)) w := by
 have u9 := Tryz.underlying9
 have a9 := Tryz.isAgg9
 have z9 := Tryz.sizeOf9
 have hS : Tryz.prog.underlying 52 = some (.struct (Tryz.prog.fieldsOf 52)) := by kernel_rfl
 have hp : Tryz.prog.stoodInHeld 52 = false := by kernel_rfl
 rw [run_neq_struct, show (10000 : Nat) = 9999 + 1 from rfl, run_equalIn_agg w 9999 52 _ _ hS hp]
 simp only [Program.fieldsOf, Tryz.underlying52]
 go_simp
 unfold varQ bq
 by_cases h0 : x.name.toList = y.name.toList <;> by_cases h1 : x.type.toList = y.type.toList <;> simp [h0, h1]
theorem grd_var (op : BinOp) (a b : Operand) (x y : VarD) (w : World) : Sem.run Tryz.prog (eqGuard op 52 a b (.agg #[.string x.name, .string x.type]) (.agg #[.string y.name, .string y.type])) w = .ok () w :=
 run_eqGuard_agg w op 52 a b _ _ (by kernel_rfl)

theorem neq_arm (x y : ArmD) (w : World) : Sem.run Tryz.prog (binOp .neq 103 (.agg #[.string x.variant, .string x.loc, .string x.block]) (.agg #[.string y.variant, .string y.loc, .string y.block])) w = .ok (.bool (!armQ x y)) w := by
 have u9 := Tryz.underlying9
 have a9 := Tryz.isAgg9
 have z9 := Tryz.sizeOf9
 have hS : Tryz.prog.underlying 103 = some (.struct (Tryz.prog.fieldsOf 103)) := by kernel_rfl
 have hp : Tryz.prog.stoodInHeld 103 = false := by kernel_rfl
 rw [run_neq_struct, show (10000 : Nat) = 9999 + 1 from rfl, run_equalIn_agg w 9999 103 _ _ hS hp]
 simp only [Program.fieldsOf, Tryz.underlying103]
 go_simp
 unfold armQ bq
 by_cases h0 : x.variant.toList = y.variant.toList <;> by_cases h1 : x.loc.toList = y.loc.toList <;> by_cases h2 : x.block.toList = y.block.toList <;> simp [h0, h1, h2]
theorem grd_arm (op : BinOp) (a b : Operand) (x y : ArmD) (w : World) : Sem.run Tryz.prog (eqGuard op 103 a b (.agg #[.string x.variant, .string x.loc, .string x.block]) (.agg #[.string y.variant, .string y.loc, .string y.block])) w = .ok () w :=
 run_eqGuard_agg w op 103 a b _ _ (by kernel_rfl)

set_option maxHeartbeats 2000000 in
set_option maxRecDepth 100000 in
theorem equal_vars (a b : Option Addr) (xs ys : List VarD) (c d : Nat) (w : World) (h1 : Vrs w a xs) (h2 : Vrs w b ys) :
 Calls Tryz.prog 107 #[.slice a xs.length c, .slice b ys.length d] w fun e w' => e = .returned (.bool (lq varQ xs ys)) ∧ Below w.heap.size w w' := by
 have n1 := h1.big
 have n2 := h2.big
 rw [List.length_map] at n1 n2
 by_cases hnm : xs.length = ys.length
 · have H1 := hidIt h1
   have H2 := hidIt h2
   obtain ⟨n, hn⟩ : ∃ n, xs.length = n := ⟨_, rfl⟩
   rw [hn] at hnm
   rw [← hnm, hn]
   have hn1 := hidIt hn
   have hn2 := hidIt hnm
   rw [hn] at n1
   clear n2 hn hnm h1 h2
   obtain ⟨R, hR0⟩ : ∃ R, lq varQ xs ys = R := ⟨_, rfl⟩
   rw [hR0]
   have hR := hidIt hR0
   clear hR0
   go_enter Tryz.func107, Tryz.ntmps107
   go_wp2
   go_loopg [13] n (fun g s13 wr => ∃ k : Nat, k ≤ n ∧ n - k ≤ g ∧ s13 = .int .i64 k ∧ Hid (Below w.heap.size w wr) ∧ Hid (∀ (j : Nat) (x y : VarD), j < k → xs[j]? = some x → ys[j]? = some y → varQ x y = true))
   case atStart => exact ⟨0, Nat.zero_le _, by omega, rfl, hidIt (Below.refl _ _), hidIt fun j x y hj => absurd hj (Nat.not_lt_zero _)⟩
   case round =>
    obtain ⟨k, hk, hg, rfl, hb, A⟩ := hrel
    by_cases hlt : k < n
    · obtain ⟨x, hx⟩ : ∃ x, xs[k]? = some x := ⟨_, List.getElem?_eq_getElem (by rw [hn1.out]; exact hlt)⟩
      obtain ⟨y, hy⟩ : ∃ y, ys[k]? = some y := ⟨_, List.getElem?_eq_getElem (by rw [← hn2.out]; exact hlt)⟩
      obtain ⟨b1, o1, rfl, z1, g1⟩ := H1.out.cells (j := k) (r := x.row) (by rw [List.getElem?_map, hx]; rfl)
      obtain ⟨b2, o2, rfl, z2, g2⟩ := H2.out.cells (j := k) (r := y.row) (by rw [List.getElem?_map, hy]; rfl)
      have Hx := hidIt hx
      have Hy := hidIt hy
      have p0 := g1 wr hb.out 0 _ rfl
      have p1 := g1 wr hb.out 1 _ rfl
      rw [Nat.add_zero] at p0
      have q0 := g2 wr hb.out 0 _ rfl
      have q1 := g2 wr hb.out 1 _ rfl
      rw [Nat.add_zero] at q0
      clear g1 g2 hx hy z1 z2
      have hne := neq_var x y
      have hgd := fun op a b w => grd_var op a b x y w
      cases hxy : varQ x y with
      | true =>
       rw [hxy] at hne
       have hxy := hidIt hxy
       go_wp2_with fail
       go_quiet (fail)
       go_wp2
       go_roundg (n - (k + 1))
       case measure => omega
       case rel =>
        refine ⟨k + 1, by omega, by omega, by go_num, hidIt (below_next hb.out (below_drewN _ _)), hidIt fun j u v hj hu hv => ?_⟩
        by_cases e : j = k
        · subst e
          obtain rfl : x = u := Option.some.inj (Hx.out.symm.trans hu)
          obtain rfl : y = v := Option.some.inj (Hy.out.symm.trans hv)
          exact hxy.out
        · exact A.out j u v (by omega) hu hv
      | false =>
       rw [hxy] at hne
       obtain rfl : false = R := (lq_at Hx.out Hy.out hxy).symm.trans hR.out
       have hxy := hidIt hxy
       go_wp2_with fail
       go_quiet (fail)
       go_wp2
       go_ret
       exact ⟨rfl, below_next hb.out (below_drewN _ _)⟩
    · have : k = n := by omega
      subst this
      obtain rfl : true = R := by
       refine (lq_all (by rw [hn1.out]; exact hn2.out) fun j x y hj hy => A.out j x y ?_ hj hy).symm.trans hR.out
       have := (List.getElem?_eq_some_iff.1 hj).1
       rw [hn1.out] at this
       exact this
      go_wp2
      go_ret
      exact ⟨rfl, hb.out⟩
 · have e0 : lq varQ xs ys = false := lq_len hnm
   rw [e0]
   clear e0
   have hnm' : ¬ (xs.length : Int) = (ys.length : Int) := by omega
   clear h1 h2 hnm
   generalize xs.length = n at *
   generalize ys.length = m at *
   go_enter Tryz.func107, Tryz.ntmps107
   go_wp2
   go_ret
   exact ⟨rfl, Below.refl _ _⟩

set_option maxHeartbeats 2000000 in
set_option maxRecDepth 100000 in
theorem equal_arms (a b : Option Addr) (xs ys : List ArmD) (c d : Nat) (w : World) (h1 : Ars w a xs) (h2 : Ars w b ys) :
 Calls Tryz.prog 178 #[.slice a xs.length c, .slice b ys.length d] w fun e w' => e = .returned (.bool (lq armQ xs ys)) ∧ Below w.heap.size w w' := by
 have n1 := h1.big
 have n2 := h2.big
 rw [List.length_map] at n1 n2
 by_cases hnm : xs.length = ys.length
 · have H1 := hidIt h1
   have H2 := hidIt h2
   obtain ⟨n, hn⟩ : ∃ n, xs.length = n := ⟨_, rfl⟩
   rw [hn] at hnm
   rw [← hnm, hn]
   have hn1 := hidIt hn
   have hn2 := hidIt hnm
   rw [hn] at n1
   clear n2 hn hnm h1 h2
   obtain ⟨R, hR0⟩ : ∃ R, lq armQ xs ys = R := ⟨_, rfl⟩
   rw [hR0]
   have hR := hidIt hR0
   clear hR0
   go_enter Tryz.func178, Tryz.ntmps178
   go_wp2
   go_loopg [13] n (fun g s13 wr => ∃ k : Nat, k ≤ n ∧ n - k ≤ g ∧ s13 = .int .i64 k ∧ Hid (Below w.heap.size w wr) ∧ Hid (∀ (j : Nat) (x y : ArmD), j < k → xs[j]? = some x → ys[j]? = some y → armQ x y = true))
   case atStart => exact ⟨0, Nat.zero_le _, by omega, rfl, hidIt (Below.refl _ _), hidIt fun j x y hj => absurd hj (Nat.not_lt_zero _)⟩
   case round =>
    obtain ⟨k, hk, hg, rfl, hb, A⟩ := hrel
    by_cases hlt : k < n
    · obtain ⟨x, hx⟩ : ∃ x, xs[k]? = some x := ⟨_, List.getElem?_eq_getElem (by rw [hn1.out]; exact hlt)⟩
      obtain ⟨y, hy⟩ : ∃ y, ys[k]? = some y := ⟨_, List.getElem?_eq_getElem (by rw [← hn2.out]; exact hlt)⟩
      obtain ⟨b1, o1, rfl, z1, g1⟩ := H1.out.cells (j := k) (r := x.row) (by rw [List.getElem?_map, hx]; rfl)
      obtain ⟨b2, o2, rfl, z2, g2⟩ := H2.out.cells (j := k) (r := y.row) (by rw [List.getElem?_map, hy]; rfl)
      have Hx := hidIt hx
      have Hy := hidIt hy
      have p0 := g1 wr hb.out 0 _ rfl
      have p1 := g1 wr hb.out 1 _ rfl
      have p2 := g1 wr hb.out 2 _ rfl
      rw [Nat.add_zero] at p0
      have q0 := g2 wr hb.out 0 _ rfl
      have q1 := g2 wr hb.out 1 _ rfl
      have q2 := g2 wr hb.out 2 _ rfl
      rw [Nat.add_zero] at q0
      clear g1 g2 hx hy z1 z2
      have hne := neq_arm x y
      have hgd := fun op a b w => grd_arm op a b x y w
      cases hxy : armQ x y with
      | true =>
       rw [hxy] at hne
       have hxy := hidIt hxy
       go_wp2_with fail
       go_quiet (fail)
       go_wp2
       go_roundg (n - (k + 1))
       case measure => omega
       case rel =>
        refine ⟨k + 1, by omega, by omega, by go_num, hidIt (below_next hb.out (below_drewN _ _)), hidIt fun j u v hj hu hv => ?_⟩
        by_cases e : j = k
        · subst e
          obtain rfl : x = u := Option.some.inj (Hx.out.symm.trans hu)
          obtain rfl : y = v := Option.some.inj (Hy.out.symm.trans hv)
          exact hxy.out
        · exact A.out j u v (by omega) hu hv
      | false =>
       rw [hxy] at hne
       obtain rfl : false = R := (lq_at Hx.out Hy.out hxy).symm.trans hR.out
       have hxy := hidIt hxy
       go_wp2_with fail
       go_quiet (fail)
       go_wp2
       go_ret
       exact ⟨rfl, below_next hb.out (below_drewN _ _)⟩
    · have : k = n := by omega
      subst this
      obtain rfl : true = R := by
       refine (lq_all (by rw [hn1.out]; exact hn2.out) fun j x y hj hy => A.out j x y ?_ hj hy).symm.trans hR.out
       have := (List.getElem?_eq_some_iff.1 hj).1
       rw [hn1.out] at this
       exact this
      go_wp2
      go_ret
      exact ⟨rfl, hb.out⟩
 · have e0 : lq armQ xs ys = false := lq_len hnm
   rw [e0]
   clear e0
   have hnm' : ¬ (xs.length : Int) = (ys.length : Int) := by omega
   clear h1 h2 hnm
   generalize xs.length = n at *
   generalize ys.length = m at *
   go_enter Tryz.func178, Tryz.ntmps178
   go_wp2
   go_ret
   exact ⟨rfl, Below.refl _ _⟩

set_option maxHeartbeats 2000000 in
set_option maxRecDepth 100000 in
theorem equal_places (a b : Option Addr) (xs ys : List PlaceX) (c d : Nat) (w : World) (h1 : Pls w a xs) (h2 : Pls w b ys) :
 Calls Tryz.prog 177 #[.slice a xs.length c, .slice b ys.length d, .func (.func 15) #[] #[]] w fun e w' => e = .returned (.bool (lq (fun x y => placeQ x.d y.d) xs ys)) ∧ Below w.heap.size w w' := by
 have n1 := h1.1.big
 have n2 := h2.1.big
 rw [List.length_map] at n1 n2
 by_cases hnm : xs.length = ys.length
 · have H1 := hidIt h1
   have H2 := hidIt h2
   obtain ⟨n, hn⟩ : ∃ n, xs.length = n := ⟨_, rfl⟩
   rw [hn] at hnm
   rw [← hnm, hn]
   have hn1 := hidIt hn
   have hn2 := hidIt hnm
   rw [hn] at n1
   clear n2 hn hnm h1 h2
   obtain ⟨R, hR0⟩ : ∃ R, lq (fun x y => placeQ x.d y.d) xs ys = R := ⟨_, rfl⟩
   rw [hR0]
   have hR := hidIt hR0
   clear hR0
   go_enter Tryz.func177, Tryz.ntmps177
   go_wp2
   go_loopg [17] n (fun g s17 wr => ∃ k : Nat, k ≤ n ∧ n - k ≤ g ∧ s17 = .int .i64 k ∧ Hid (Below w.heap.size w wr) ∧ Hid (∀ (j : Nat) (x y : PlaceX), j < k → xs[j]? = some x → ys[j]? = some y → placeQ x.d y.d = true))
   case atStart => exact ⟨0, Nat.zero_le _, by omega, rfl, hidIt (Below.refl _ _), hidIt fun j x y hj => absurd hj (Nat.not_lt_zero _)⟩
   case round =>
    obtain ⟨k, hk, hg, rfl, hb, A⟩ := hrel
    by_cases hlt : k < n
    · obtain ⟨x, hx⟩ : ∃ x, xs[k]? = some x := ⟨_, List.getElem?_eq_getElem (by rw [hn1.out]; exact hlt)⟩
      obtain ⟨y, hy⟩ : ∃ y, ys[k]? = some y := ⟨_, List.getElem?_eq_getElem (by rw [← hn2.out]; exact hlt)⟩
      obtain ⟨b1, o1, rfl, z1, g1⟩ := H1.out.1.cells (j := k) (r := x.row) (by rw [List.getElem?_map, hx]; rfl)
      obtain ⟨b2, o2, rfl, z2, g2⟩ := H2.out.1.cells (j := k) (r := y.row) (by rw [List.getElem?_map, hy]; rfl)
      have c1 : Hid (∀ W, Below w.heap.size w W → Calls Tryz.prog 15 #[.agg x.row.toArray, .agg y.row.toArray] W fun e w' => e = .returned (.bool (placeQ x.d y.d)) ∧ Below W.heap.size W w') := hidIt fun W hW =>
       equal_place x y W ((H1.out.2 x (List.mem_of_getElem? hx)).on hW) ((H2.out.2 y (List.mem_of_getElem? hy)).on hW)
      have Hx := hidIt hx
      have Hy := hidIt hy
      have G2 := hidIt g2
      have p0 := g1 wr hb.out 0 _ rfl
      have p1 := g1 wr hb.out 1 _ rfl
      rw [Nat.add_zero] at p0
      clear g1 g2 hx hy z1 z2
      simp only [PlaceX.row] at c1
      go_upto_region 6 with fail
      have hb1 := hidIt (below_next hb.out (below_new wr (.cells #[.string x.loc, .slice x.sa x.steps.length x.sc] 24)))
      have hh1 := heap_alloc_new wr (.cells #[.string x.loc, .slice x.sa x.steps.length x.sc] 24)
      clear p0 p1 hb
      generalize wr.alloc (.cells #[.string x.loc, .slice x.sa x.steps.length x.sc] 24) = w1 at hb1 hh1 ⊢
      generalize wr.heap.size = B1 at hh1 ⊢
      have p0 := G2.out w1 hb1.out 0 _ rfl
      have p1 := G2.out w1 hb1.out 1 _ rfl
      rw [Nat.add_zero] at p0
      have hh1 := hidIt hh1
      go_upto_region 7 with fail
      have hb2 := hidIt (below_next hb1.out (below_new w1 (.cells #[.string y.loc, .slice y.sa y.steps.length y.sc] 24)))
      have hh2 := heap_alloc_new w1 (.cells #[.string y.loc, .slice y.sa y.steps.length y.sc] 24)
      have hh3 := heap_on hh1.out (below_new w1 (.cells #[.string y.loc, .slice y.sa y.steps.length y.sc] 24))
      clear p0 p1 hb1
      generalize w1.alloc (.cells #[.string y.loc, .slice y.sa y.steps.length y.sc] 24) = w2 at hb2 hh2 hh3 ⊢
      generalize w1.heap.size = B2 at hh2 ⊢
      obtain ⟨q0, q1⟩ := cells_2 hh3
      obtain ⟨r0, r1⟩ := cells_2 hh2
      clear hh1 hh2 hh3
      cases hxy : placeQ x.d y.d with
      | true =>
       rw [hxy] at c1
       have hxy := hidIt hxy
       go_wp2_with (go_at_call 15; refine (c1.out _ hb2.out).mono ?_; rintro e w' ⟨rfl, hq⟩; have hb3 := hidIt (below_next hb2.out hq); clear hq)
       go_roundg (n - (k + 1))
       case measure => omega
       case rel =>
        refine ⟨k + 1, by omega, by omega, by go_num, hb3, hidIt fun j u v hj hu hv => ?_⟩
        by_cases e : j = k
        · subst e
          obtain rfl : x = u := Option.some.inj (Hx.out.symm.trans hu)
          obtain rfl : y = v := Option.some.inj (Hy.out.symm.trans hv)
          exact hxy.out
        · exact A.out j u v (by omega) hu hv
      | false =>
       rw [hxy] at c1
       obtain rfl : false = R := (lq_at (f := fun x y => placeQ x.d y.d) Hx.out Hy.out hxy).symm.trans hR.out
       have hxy := hidIt hxy
       go_wp2_with (go_at_call 15; refine (c1.out _ hb2.out).mono ?_; rintro e w' ⟨rfl, hq⟩; have hb3 := hidIt (below_next hb2.out hq); clear hq)
       go_ret
       exact ⟨rfl, hb3.out⟩
    · have : k = n := by omega
      subst this
      obtain rfl : true = R := by
       refine (lq_all (f := fun x y => placeQ x.d y.d) (by rw [hn1.out]; exact hn2.out) fun j x y hj hy => A.out j x y ?_ hj hy).symm.trans hR.out
       have := (List.getElem?_eq_some_iff.1 hj).1
       rw [hn1.out] at this
       exact this
      go_wp2
      go_ret
      exact ⟨rfl, hb.out⟩
 · have e0 : lq (fun x y => placeQ x.d y.d) xs ys = false := lq_len hnm
   rw [e0]
   clear e0
   have hnm' : ¬ (xs.length : Int) = (ys.length : Int) := by omega
   clear h1 h2 hnm
   generalize xs.length = n at *
   generalize ys.length = m at *
   go_enter Tryz.func177, Tryz.ntmps177
   go_wp2
   go_ret
   exact ⟨rfl, Below.refl _ _⟩

end Go.Proofs.YtlppbgmcoknliaaGreatDoor
