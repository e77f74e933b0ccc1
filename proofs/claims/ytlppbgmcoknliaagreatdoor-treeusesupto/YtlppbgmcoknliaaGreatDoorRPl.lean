/-
  The document's own answers on places: SameTexts, Equal, Front, Place, Text.
-/
import Derived.Test.YtlppbgmcoknliaaGreatDoorFront
import Derived.Test.YtlppbgmcoknliaaGreatDoorBld
import Derived.Deep.RegionHeld3
namespace Go.Proofs.YtlppbgmcoknliaaGreatDoor
set_option linter.unusedVariables false
open Go.RowKit

set_option maxHeartbeats 2000000 in
set_option maxRecDepth 100000 in
theorem same_texts (a b : Option Addr) (xs ys : List ByteArray) (c d : Nat) (w : World) (h1 : St w a xs) (h2 : St w b ys) :
    Calls Tryz.prog 39 #[.slice a xs.length c, .slice b ys.length d] w fun e w' => e = .returned (.bool (sq xs ys)) ∧ ∃ q, w' = w.drewN q := by
  have n1 := h1.big
  have n2 := h2.big
  by_cases hnm : xs.length = ys.length
  · have H1 := hidIt h1
    have H2 := hidIt h2
    obtain ⟨n, hn⟩ : ∃ n, xs.length = n := ⟨_, rfl⟩
    rw [hn] at hnm
    rw [← hnm, hn]
    have hn1 := hidIt hn
    have hn2 := hidIt hnm
    rw [hn] at n1
    clear n2 hn hnm h1 h2
    obtain ⟨R, hR0⟩ : ∃ R, sq xs ys = R := ⟨_, rfl⟩
    rw [hR0]
    have hR := hidIt hR0
    clear hR0
    go_enter Tryz.func39, Tryz.ntmps39
    go_wp2
    go_loopg [5] n (fun g s3 wr => ∃ k q : Nat, k ≤ n ∧ n - k ≤ g ∧ s3 = .int .i64 k ∧ wr = w.drewN q ∧ Hid (∀ (j : Nat) (x y : ByteArray), j < k → xs[j]? = some x → ys[j]? = some y → bq x y = true))
    case atStart => exact ⟨0, 0, Nat.zero_le _, by omega, rfl, rfl, hidIt fun j x y hj => absurd hj (Nat.not_lt_zero _)⟩
    case round =>
      obtain ⟨k, q, hk, hg, rfl, rfl, A⟩ := hrel
      by_cases hlt : k < n
      · obtain ⟨x, hx⟩ : ∃ x, xs[k]? = some x := ⟨_, List.getElem?_eq_getElem (by rw [hn1.out]; exact hlt)⟩
        obtain ⟨y, hy⟩ : ∃ y, ys[k]? = some y := ⟨_, List.getElem?_eq_getElem (by rw [← hn2.out]; exact hlt)⟩
        obtain ⟨b1, o1, rfl, g1⟩ := H1.out.cell hx
        obtain ⟨b2, o2, rfl, g2⟩ := H2.out.cell hy
        have g1 := g1 w (Below.refl _ _)
        have g2 := g2 w (Below.refl _ _)
        have hx := hidIt hx
        have hy := hidIt hy
        cases hxy : bq x y with
        | true =>
          have hb : (x.toList == y.toList) = true := hxy
          have hxy := hidIt hxy
          go_wp2_with fail
          go_region
          go_wp2
          go_roundg (n - (k + 1))
          case measure => omega
          case rel =>
            refine ⟨k + 1, q + 1, by omega, by omega, by go_num, rfl, hidIt fun j u v hj hu hv => ?_⟩
            by_cases e : j = k
            · subst e
              obtain rfl : x = u := Option.some.inj (hx.out.symm.trans hu)
              obtain rfl : y = v := Option.some.inj (hy.out.symm.trans hv)
              exact hxy.out
            · exact A.out j u v (by omega) hu hv
        | false =>
          have hb : (x.toList == y.toList) = false := hxy
          obtain rfl : false = R := (lq_at hx.out hy.out hxy).symm.trans hR.out
          have hxy := hidIt hxy
          go_wp2_with fail
          go_region
          go_wp2
          go_ret
          exact ⟨rfl, q + 1, rfl⟩
      · have : k = n := by omega
        subst this
        obtain rfl : true = R := by
          refine (lq_all (by rw [hn1.out]; exact hn2.out) fun j x y hj hy => A.out j x y ?_ hj hy).symm.trans hR.out
          have := (List.getElem?_eq_some_iff.1 hj).1
          rw [hn1.out] at this
          exact this
        go_wp2
        go_ret
        exact ⟨rfl, q, rfl⟩
  · have e0 : sq xs ys = false := lq_len hnm
    rw [e0]
    clear e0
    have hnm' : ¬ (xs.length : Int) = (ys.length : Int) := by omega
    clear h1 h2 hnm
    generalize xs.length = n at *
    generalize ys.length = m at *
    go_enter Tryz.func39, Tryz.ntmps39
    go_wp2
    go_ret
    exact ⟨rfl, 0, rfl⟩

set_option maxHeartbeats 2000000 in
theorem requal_place (p q : PlaceX) (w : World) (hp : p.At w) (hq : q.At w) :
    Calls Tryz.prog 12 #[.agg p.row.toArray, .agg q.row.toArray] w fun e w' => e = .returned (.bool (placeQ p.d q.d)) ∧ Below w.heap.size w w' := by
  have c1 : ∀ W, Below w.heap.size w W → Calls Tryz.prog 39 #[.slice p.sa p.steps.length p.sc, .slice q.sa q.steps.length q.sc] W fun e w' => e = .returned (.bool (sq p.steps q.steps)) ∧ ∃ n, w' = W.drewN n := fun W hW => same_texts p.sa q.sa p.steps q.steps p.sc q.sc W (St.on hp hW) (St.on hq hW)
  clear hp hq
  obtain ⟨l1, s1, k1, x1⟩ := p
  obtain ⟨l2, s2, k2, x2⟩ := q
  simp only [PlaceX.row, PlaceX.d, placeQ, bq] at c1 ⊢
  generalize x1.length = n1 at c1 ⊢
  generalize x2.length = n2 at c1 ⊢
  generalize sq x1 x2 = b at c1 ⊢
  have hb := hidIt (below_next (below_new w (.cells #[.string l1, .slice s1 n1 k1] 24)) (below_new _ (.cells #[.string l2, .slice s2 n2 k2] 24)))
  generalize hv : (l1.toList == l2.toList) = v
  cases v
  · go_enter Tryz.func12, Tryz.ntmps12
    go_wp2_with fail
    go_ret
    exact ⟨rfl, hb.out⟩
  · go_enter Tryz.func12, Tryz.ntmps12
    go_wp2_with (go_at_call 39; refine (c1 _ hb.out).mono ?_; rintro e w' ⟨rfl, m, rfl⟩)
    go_ret
    exact ⟨rfl, below_next hb.out (below_drewN _ _)⟩

theorem two_on {w w' : World} {a b : Nat} {x y : Obj} (h : w.heap[a]? = some x ∧ w.heap[b]? = some y) (hb : Below w.heap.size w w') : w'.heap[a]? = some x ∧ w'.heap[b]? = some y := ⟨heap_on h.1 hb, heap_on h.2 hb⟩
theorem cells_two {w : World} {a b : Nat} {x0 x1 y0 y1 : Value} {t u : TypeId} (h : w.heap[a]? = some (.cells #[x0, x1] t (0, 0)) ∧ w.heap[b]? = some (.cells #[y0, y1] u (0, 0))) : w.cell? ⟨a, 0, none⟩ = some x0 ∧ w.cell? ⟨a, 1, none⟩ = some x1 ∧ w.cell? ⟨b, 0, none⟩ = some y0 ∧ w.cell? ⟨b, 1, none⟩ = some y1 :=
  ⟨cell_at h.1 0, cell_at h.1 1, cell_at h.2 0, cell_at h.2 1⟩
set_option maxHeartbeats 2000000 in
set_option maxRecDepth 100000 in
theorem rfront_place (p q : PlaceX) (w : World) (hp : p.At w) (hq : q.At w) (hc : q.steps.length ≤ q.sc) :
    Calls Tryz.prog 17 #[.agg p.row.toArray, .agg q.row.toArray] w fun e w' => e = .returned (.bool (frontQ p.d q.d)) ∧ Below w.heap.size w w' := by
  have b1 := St.big hp
  have b2 := St.big hq
  have hb := hidIt (below_next (below_new w (.cells #[.string p.loc, .slice p.sa p.steps.length p.sc] 24)) (below_new _ (.cells #[.string q.loc, .slice q.sa q.steps.length q.sc] 24)))
  have c1 : Hid (p.steps.length ≤ q.steps.length → ∀ W, Below w.heap.size w W → Calls Tryz.prog 39 #[.slice p.sa p.steps.length p.sc, .slice q.sa p.steps.length q.sc] W fun e w' => e = .returned (.bool (sq p.steps (q.steps.take p.steps.length))) ∧ ∃ n, w' = W.drewN n) := hidIt fun hl W hW => by
    have := same_texts p.sa q.sa p.steps (q.steps.take p.steps.length) p.sc q.sc W (St.on hp hW) (St.take (St.on hq hW) _)
    rwa [show (q.steps.take p.steps.length).length = p.steps.length by rw [List.length_take]; omega] at this
  have eR : frontQ p.d q.d = (bq p.loc q.loc && (decide (p.steps.length ≤ q.steps.length) && sq p.steps (q.steps.take p.steps.length))) := by
    unfold frontQ placeQ PlaceX.d
    simp only
    cases decide (p.steps.length ≤ q.steps.length) <;> cases (bq p.loc q.loc) <;> rfl
  rw [eR]
  clear hp hq eR
  obtain ⟨l1, s1, k1, x1⟩ := p
  obtain ⟨l2, s2, k2, x2⟩ := q
  simp only [PlaceX.row, bq] at *
  generalize sq x1 (x2.take x1.length) = R at c1 ⊢
  generalize x1.length = n1 at *
  generalize x2.length = n2 at *
  have hh := two_at (w := w) (cs := #[.string l1, .slice s1 n1 k1]) (ds := #[.string l2, .slice s2 n2 k2]) (t := 24) (u := 24) rfl rfl (Below.refl _ _)
  have p0 := cell_at hh.1 0
  have p1 := cell_at hh.1 1
  have q0 := cell_at hh.2 0
  have q1 := cell_at hh.2 1
  simp only [List.getElem?_toArray, List.getElem?_cons_zero, List.getElem?_cons_succ] at p0 p1 q0 q1
  have HH := hidIt hh
  clear hh
  cases hv : (l1.toList == l2.toList)
  · go_enter Tryz.func17, Tryz.ntmps17
    go_wp2_with fail
    generalize ((w.alloc (Obj.cells #[Value.string l1, Value.slice s1 n1 k1] 24)).alloc (Obj.cells #[Value.string l2, Value.slice s2 n2 k2] 24)) = W0 at p0 p1 q0 q1 hb HH ⊢
    go_region
    go_wp2
    go_ret
    exact ⟨rfl, hb.out.drew⟩
  · by_cases hl : n1 ≤ n2
    · have hl1 : (n1 : Int) ≤ (n2 : Int) := by omega
      have hl2 : (n1 : Int) ≤ (k2 : Int) := by omega
      have c2 : Hid (∀ W, Below w.heap.size w W → Calls Tryz.prog 39 #[.slice s1 n1 k1, .slice s2 n1 k2] W fun e w' => e = .returned (.bool R) ∧ Below W.heap.size W w') := hidIt fun W hW => (c1.out hl W hW).mono fun e w' ⟨h1, m, h2⟩ => ⟨h1, by rw [h2]; exact below_drewN _ _⟩
      rw [decide_eq_true hl]
      clear c1
      go_enter Tryz.func17, Tryz.ntmps17
      go_wp2_with fail
      generalize ((w.alloc (Obj.cells #[Value.string l1, Value.slice s1 n1 k1] 24)).alloc (Obj.cells #[Value.string l2, Value.slice s2 n2 k2] 24)) = W0 at p0 p1 q0 q1 hb HH ⊢
      have sw : W0.cell? ⟨w.heap.size, 0, none⟩ = some (.string l1) ∧ W0.cell? ⟨w.heap.size, 1, none⟩ = some (.slice s1 n1 k1) ∧ W0.cell? ⟨w.heap.size + 1, 0, none⟩ = some (.string l2) ∧ W0.cell? ⟨w.heap.size + 1, 1, none⟩ = some (.slice s2 n2 k2) := ⟨p0, p1, q0, q1⟩
      clear p0 p1 q0 q1
      have HB := hidIt hb.out.drew
      have HH := hidIt (two_on HH.out (Below.refl _ _).drew)
      clear hb
      go_region_held3 (fun W => W.cell? ⟨w.heap.size, 0, none⟩ = some (.string l1) ∧ W.cell? ⟨w.heap.size, 1, none⟩ = some (.slice s1 n1 k1) ∧ W.cell? ⟨w.heap.size + 1, 0, none⟩ = some (.string l2) ∧ W.cell? ⟨w.heap.size + 1, 1, none⟩ = some (.slice s2 n2 k2)) (go_keep)
        (first | (go_at_call 39; refine (c2.out _ HB.out).mono ?_; rintro e y ⟨rfl, hq⟩; have HB := hidIt (below_next HB.out hq); have HH := hidIt (two_on HH.out hq); have sS := cells_two HH.out; clear hq))
      go_wp2
      go_ret
      exact ⟨rfl, HB.out⟩
    · have hl1 : ¬ (n1 : Int) ≤ (n2 : Int) := by omega
      rw [decide_eq_false hl]
      clear c1
      go_enter Tryz.func17, Tryz.ntmps17
      go_wp2_with fail
      generalize ((w.alloc (Obj.cells #[Value.string l1, Value.slice s1 n1 k1] 24)).alloc (Obj.cells #[Value.string l2, Value.slice s2 n2 k2] 24)) = W0 at p0 p1 q0 q1 hb HH ⊢
      go_region
      go_wp2
      go_ret
      exact ⟨rfl, hb.out.drew⟩

set_option maxHeartbeats 2000000 in
set_option maxRecDepth 100000 in
theorem docplace_any (p : PlaceX) (w : World) (hp : p.At w) (hf : p.d.Fit) :
    Calls Tryz.prog 18 #[.agg #[.string p.loc, .slice p.sa p.steps.length p.sc]] w fun e w' => e = .returned (.bool (placeR p.d)) ∧ Below w.heap.size w w' := by
  have n1 := St.big hp
  have eR : placeR p.d = (p.steps.all stepS && (nameS p.loc && decide ((p.steps.length : Int) ≤ 8))) := by
    unfold placeR everyL PlaceX.d
    simp only
    rw [decide_eq_true (show (0 : Int) ≤ p.steps.length by omega)]
    cases nameS p.loc <;> cases p.steps.all stepS <;> simp
  rw [eR]
  clear eR
  obtain ⟨l, sa, sc, xs⟩ := p
  obtain ⟨hf1, hf2⟩ := hf
  simp only [PlaceX.d] at hf1 hf2
  have cL : Hid (∀ W, Calls Tryz.prog 44 #[.string l] W fun e w' => e = .returned (.bool (nameS l)) ∧ Below W.heap.size W w') := hidIt fun W => rname_any l (fit_le hf1) W
  have cS : Hid (∀ x ∈ xs, ∀ W, Calls Tryz.prog 44 #[.string x] W fun e w' => e = .returned (.bool (nameS x)) ∧ Below W.heap.size W w') := hidIt fun x hx W => rname_any x (fit_le (hf2 x hx)) W
  have HP := hidIt hp
  clear hf1 hf2 hp
  simp only at n1 ⊢
  obtain ⟨A, hA⟩ : ∃ A, xs.all stepS = A := ⟨_, rfl⟩
  rw [hA]
  have HA := hidIt hA
  clear hA
  obtain ⟨N, hN⟩ : ∃ N, nameS l = N := ⟨_, rfl⟩
  rw [hN] at cL ⊢
  clear hN
  obtain ⟨n, hn⟩ : ∃ n, xs.length = n := ⟨_, rfl⟩
  rw [hn] at n1 ⊢
  have hn := hidIt hn
  have hb := hidIt (below_new w (.cells #[.string l, .slice sa n sc] 24))
  have H1 := hidIt (heap_alloc_new w (.cells #[.string l, .slice sa n sc] 24))
  go_enter Tryz.func18, Tryz.ntmps18
  go_wp2_with fail
  generalize (w.alloc (.cells #[.string l, .slice sa n sc] 24)) = W2 at hb H1 ⊢
  go_loopg [3] n (fun g s2 wr => ∃ k : Nat, k ≤ n ∧ n - k ≤ g ∧ s2 = .int .i64 k ∧ Hid (Below w.heap.size w wr ∧ wr.heap[w.heap.size]? = some (.cells #[.string l, .slice sa n sc] 24 (0, 0)) ∧ ∀ (j : Nat) (x : ByteArray), j < k → xs[j]? = some x → stepS x = true))
  case atStart => exact ⟨0, Nat.zero_le _, by omega, rfl, hidIt ⟨hb.out, H1.out, fun j x hj => absurd hj (Nat.not_lt_zero _)⟩⟩
  case round =>
    clear hb H1
    obtain ⟨k, hk, hg, rfl, R⟩ := hrel
    have p0 : wr.cell? ⟨w.heap.size, 0, none⟩ = some (.string l) := cell_at R.out.2.1 0
    have p1 : wr.cell? ⟨w.heap.size, 1, none⟩ = some (.slice sa n sc) := cell_at R.out.2.1 1
    by_cases hlt : k < n
    · obtain ⟨x, hx⟩ : ∃ x, xs[k]? = some x := ⟨_, List.getElem?_eq_getElem (by rw [hn.out]; exact hlt)⟩
      obtain ⟨b1, o1, rfl, g1⟩ := St.cell HP.out hx
      have g1 := g1 wr R.out.1
      have cX := hidIt (cS.out x (List.mem_of_getElem? hx))
      have hx := hidIt hx
      have eS : Hid (stepS x = ((x.toList == [42]) || nameS x)) := hidIt rfl
      cases h42 : (x.toList == [42]) with
      | true =>
        rw [h42] at eS
        clear cX cL
        go_wp2_with fail
        go_roundg (n - (k + 1))
        case measure => omega
        case rel =>
          refine ⟨k + 1, by omega, by omega, by go_num, hidIt ⟨R.out.1, R.out.2.1, fun j u hj hu => ?_⟩⟩
          by_cases e : j = k
          · subst e
            obtain rfl : x = u := Option.some.inj (hx.out.symm.trans hu)
            rw [eS.out]; rfl
          · exact R.out.2.2 j u (by omega) hu
      | false =>
        rw [h42] at eS
        obtain ⟨M, hM⟩ : ∃ M, nameS x = M := ⟨_, rfl⟩
        rw [hM] at cX eS
        clear hM cL
        cases M with
        | true =>
          go_wp2_with (go_at_call 44; refine (cX.out _).mono ?_; rintro e w3 ⟨rfl, hq⟩; have hq := hidIt hq)
          go_roundg (n - (k + 1))
          case measure => omega
          case rel =>
            refine ⟨k + 1, by omega, by omega, by go_num, hidIt ⟨below_next R.out.1 hq.out, heap_on R.out.2.1 hq.out, fun j u hj hu => ?_⟩⟩
            by_cases e : j = k
            · subst e
              obtain rfl : x = u := Option.some.inj (hx.out.symm.trans hu)
              rw [eS.out]; rfl
            · exact R.out.2.2 j u (by omega) hu
        | false =>
          obtain rfl : false = A := by
            rw [← HA.out, eq_comm, List.all_eq_false]
            exact ⟨x, List.mem_of_getElem? hx.out, by rw [eS.out]; simp⟩
          go_wp2_with (go_at_call 44; refine (cX.out _).mono ?_; rintro e w3 ⟨rfl, hq⟩; have hq := hidIt hq)
          go_ret
          exact ⟨rfl, below_next R.out.1 hq.out⟩
    · have : k = n := by omega
      subst this
      obtain rfl : true = A := by
        rw [← HA.out, eq_comm, List.all_eq_true]
        intro x hx
        obtain ⟨j, hj⟩ := List.mem_iff_getElem?.1 hx
        have := (List.getElem?_eq_some_iff.1 hj).1
        rw [hn.out] at this
        exact R.out.2.2 j x this hj
      go_wp2_with (go_at_call 44; refine (cL.out _).mono ?_; rintro e w3 ⟨rfl, hq⟩; have hq := hidIt hq; have p1 : w3.cell? ⟨w.heap.size, 1, none⟩ = some (.slice sa k sc) := cell_at (heap_on R.out.2.1 hq.out) 1)
      all_goals go_ret
      all_goals exact ⟨by cases N <;> simp_all, below_next R.out.1 hq.out⟩

theorem app_list (a b : ByteArray) : (a ++ b).data.toList = a.data.toList ++ b.data.toList := by
  rw [ByteArray.data_append, Array.toList_append]

set_option maxHeartbeats 2000000 in
set_option maxRecDepth 100000 in
theorem rtext_any (p : PlaceX) (w : World) (hp : p.At w) (hl : (textL p.d).length ≤ 100000000) :
    Calls Tryz.prog 14 #[.agg #[.string p.loc, .slice p.sa p.steps.length p.sc]] w fun e w' => e = .returned (.string ⟨(textL p.d).toArray⟩) ∧ Below w.heap.size w w' := by
  have n1 := St.big hp
  obtain ⟨l, sa, sc, xs⟩ := p
  have HP := hidIt hp
  clear hp
  simp only [PlaceX.d] at n1 hl ⊢
  have HL := hidIt hl
  clear hl
  obtain ⟨n, hn⟩ : ∃ n, xs.length = n := ⟨_, rfl⟩
  rw [hn] at n1 ⊢
  have hn := hidIt hn
  have hb := hidIt (below_new w (.cells #[.string l, .slice sa n sc] 24))
  have H1 := hidIt (heap_alloc_new w (.cells #[.string l, .slice sa n sc] 24))
  obtain ⟨T, hT⟩ : ∃ T : ByteArray, ⟨(textL ⟨l, xs⟩).toArray⟩ = T := ⟨_, rfl⟩
  rw [hT]
  have hT := hidIt hT
  go_enter Tryz.func14, Tryz.ntmps14
  go_wp2_with fail
  have E0 : Hid (l = ⟨(textL ⟨l, xs.take 0⟩).toArray⟩) := hidIt (by simp [textL])
  go_loopg [3, 4] n (fun g s2 s3 wr => ∃ k : Nat, ∃ t : ByteArray, k ≤ n ∧ n - k ≤ g ∧ s2 = .string t ∧ s3 = .int .i64 k ∧ Hid (t = ⟨(textL ⟨l, xs.take k⟩).toArray⟩ ∧ Below w.heap.size w wr ∧ wr.heap[w.heap.size]? = some (.cells #[.string l, .slice sa n sc] 24 (0, 0))))
  case atStart => exact ⟨0, l, Nat.zero_le _, by omega, rfl, rfl, hidIt ⟨E0.out, hb.out, H1.out⟩⟩
  case round =>
    clear hb H1 E0
    obtain ⟨k, t, hk, hg, rfl, rfl, R⟩ := hrel
    have p0 : wr.cell? ⟨w.heap.size, 0, none⟩ = some (.string l) := cell_at R.out.2.2 0
    have p1 : wr.cell? ⟨w.heap.size, 1, none⟩ = some (.slice sa n sc) := cell_at R.out.2.2 1
    by_cases hlt : k < n
    · obtain ⟨x, hx⟩ : ∃ x, xs[k]? = some x := ⟨_, List.getElem?_eq_getElem (by rw [hn.out]; exact hlt)⟩
      obtain ⟨b1, o1, rfl, g1⟩ := St.cell HP.out hx
      have g1 := g1 wr R.out.2.1
      have E1 : Hid (t ++ (⟨#[46]⟩ ++ x) = ⟨(textL ⟨l, xs.take (k + 1)⟩).toArray⟩) := hidIt (by
        rw [textL_next l xs k x hx, R.out.1]
        refine ByteArray.ext (Array.ext' ?_)
        rw [app_list, app_list]
        simp)
      have hz : t.size + (1 + x.size) ≤ 100000000 := by
        have h1 := textL_take l xs (k + 1)
        rw [textL_next l xs k x hx, List.length_append, List.length_cons] at h1
        have h2 := HL.out
        have h3 : t.size = (textL ⟨l, xs.take k⟩).length := by rw [R.out.1]; rfl
        have h4 : x.size = x.data.toList.length := Lib.size_eq x
        omega
      have hz1 : ¬ 9223372036854775807 < 1 + x.size := by omega
      have hz2 : ¬ 9223372036854775807 < t.size + (1 + x.size) := by omega
      have hx := hidIt hx
      go_wp2_with fail
      go_roundg (n - (k + 1))
      case measure => omega
      case rel => exact ⟨k + 1, _, by omega, by omega, rfl, by go_num, hidIt ⟨E1.out, R.out.2.1, R.out.2.2⟩⟩
    · have : k = n := by omega
      subst this
      have E1 : Hid (t = T) := hidIt (by
        rw [← hT.out, R.out.1, List.take_of_length_le (by rw [hn.out]; exact Nat.le_refl _)])
      go_wp2_with fail
      go_ret
      exact ⟨by rw [E1.out]; rfl, R.out.2.1⟩
end Go.Proofs.YtlppbgmcoknliaaGreatDoor
