/-
  The walks of sameStruct, sameEnum, of the lists of both, and of Same.
-/
import Derived.Test.YtlppbgmcoknliaaGreatDoorSam2
namespace Go.Proofs.YtlppbgmcoknliaaGreatDoor
set_option linter.unusedVariables false
open Go.RowKit

set_option maxHeartbeats 2000000 in
set_option maxRecDepth 100000 in
theorem same_struct (x y : StructX) (w : World) (hx : x.At w) (hy : y.At w) :
 Calls Tryz.prog 61 #[.agg x.row.toArray, .agg y.row.toArray] w fun e w' => e = .returned (.bool (structQ x.d y.d)) ∧ Below w.heap.size w w' := by
 have c3 : Hid (∀ W, Below w.heap.size w W → Calls Tryz.prog 107 #[.slice x.fa x.fields.length x.fc, .slice y.fa y.fields.length y.fc] W fun e w' => e = .returned (.bool (lq varQ x.fields y.fields)) ∧ Below W.heap.size W w') := hidIt fun W hW => equal_vars _ _ _ _ _ _ _ (Vrs.on (hx) hW) (Vrs.on (hy) hW)
 clear hx hy
 simp only [StructX.row]
 obtain ⟨v0, v1, v2, v3, e0, e1, e2, e3, eR⟩ : ∃ v0 v1 v2 v3 : Bool, (x.name.toList == y.name.toList) = v0 ∧ (x.safe == y.safe) = v1 ∧ (x.hook == y.hook) = v2 ∧ (lq varQ x.fields y.fields) = v3 ∧ structQ x.d y.d = (v0 && (v1 && (v2 && (v3)))) := ⟨_, _, _, _, rfl, rfl, rfl, rfl, by simp only [structQ, StructX.d, bq]; try rfl⟩
 rw [eR]
 clear eR
 rw [e3] at c3
 clear e3
 have hb := hidIt (below_next (below_new w (.cells #[.int .i64 x.at_, .string x.name, .bool x.safe, .bool x.hook, .slice x.fa x.fields.length x.fc] 58)) (below_new _ (.cells #[.int .i64 y.at_, .string y.name, .bool y.safe, .bool y.hook, .slice y.fa y.fields.length y.fc] 58)))
 obtain ⟨hh1, hh2⟩ := two_at (w := w) (cs := #[.int .i64 x.at_, .string x.name, .bool x.safe, .bool x.hook, .slice x.fa x.fields.length x.fc]) (ds := #[.int .i64 y.at_, .string y.name, .bool y.safe, .bool y.hook, .slice y.fa y.fields.length y.fc]) (t := 58) (u := 58) rfl rfl (Below.refl _ _)
 have H1 := hidIt hh1
 have H2 := hidIt hh2
 clear hh1 hh2
 cases v0
 · clear c3
   go_enter Tryz.func61, Tryz.ntmps61
   go_upto_region 1 with fail
   generalize ((w.alloc (.cells #[.int .i64 x.at_, .string x.name, .bool x.safe, .bool x.hook, .slice x.fa x.fields.length x.fc] 58)).alloc (.cells #[.int .i64 y.at_, .string y.name, .bool y.safe, .bool y.hook, .slice y.fa y.fields.length y.fc] 58)) = W at hb H1 H2 ⊢
   obtain ⟨p0, p1, p2, p3, p4⟩ := cells_5 H1.out
   obtain ⟨q0, q1, q2, q3, q4⟩ := cells_5 H2.out
   go_wp2
   go_ret
   exact ⟨rfl, hb.out⟩
 cases v1
 · clear c3
   go_enter Tryz.func61, Tryz.ntmps61
   go_upto_region 1 with fail
   generalize ((w.alloc (.cells #[.int .i64 x.at_, .string x.name, .bool x.safe, .bool x.hook, .slice x.fa x.fields.length x.fc] 58)).alloc (.cells #[.int .i64 y.at_, .string y.name, .bool y.safe, .bool y.hook, .slice y.fa y.fields.length y.fc] 58)) = W at hb H1 H2 ⊢
   obtain ⟨p0, p1, p2, p3, p4⟩ := cells_5 H1.out
   obtain ⟨q0, q1, q2, q3, q4⟩ := cells_5 H2.out
   go_wp2
   go_ret
   exact ⟨rfl, hb.out⟩
 cases v2
 · clear c3
   go_enter Tryz.func61, Tryz.ntmps61
   go_upto_region 1 with fail
   generalize ((w.alloc (.cells #[.int .i64 x.at_, .string x.name, .bool x.safe, .bool x.hook, .slice x.fa x.fields.length x.fc] 58)).alloc (.cells #[.int .i64 y.at_, .string y.name, .bool y.safe, .bool y.hook, .slice y.fa y.fields.length y.fc] 58)) = W at hb H1 H2 ⊢
   obtain ⟨p0, p1, p2, p3, p4⟩ := cells_5 H1.out
   obtain ⟨q0, q1, q2, q3, q4⟩ := cells_5 H2.out
   go_wp2
   go_ret
   exact ⟨rfl, hb.out⟩
 cases v3
 · go_enter Tryz.func61, Tryz.ntmps61
   go_upto_region 1 with fail
   generalize ((w.alloc (.cells #[.int .i64 x.at_, .string x.name, .bool x.safe, .bool x.hook, .slice x.fa x.fields.length x.fc] 58)).alloc (.cells #[.int .i64 y.at_, .string y.name, .bool y.safe, .bool y.hook, .slice y.fa y.fields.length y.fc] 58)) = W at hb H1 H2 ⊢
   obtain ⟨p0, p1, p2, p3, p4⟩ := cells_5 H1.out
   obtain ⟨q0, q1, q2, q3, q4⟩ := cells_5 H2.out
   go_wp2_with (go_at_call 107; refine (c3.out _ hb.out).mono ?_)
   rintro e w3 ⟨rfl, hq⟩
   have hb := hidIt (below_next hb.out hq)
   have H1 := hidIt (heap_on H1.out hq)
   have H2 := hidIt (heap_on H2.out hq)
   clear hq c3
   obtain ⟨p0, p1, p2, p3, p4⟩ := cells_5 H1.out
   obtain ⟨q0, q1, q2, q3, q4⟩ := cells_5 H2.out
   go_wp2
   go_ret
   exact ⟨rfl, hb.out⟩
 go_enter Tryz.func61, Tryz.ntmps61
 go_upto_region 1 with fail
 generalize ((w.alloc (.cells #[.int .i64 x.at_, .string x.name, .bool x.safe, .bool x.hook, .slice x.fa x.fields.length x.fc] 58)).alloc (.cells #[.int .i64 y.at_, .string y.name, .bool y.safe, .bool y.hook, .slice y.fa y.fields.length y.fc] 58)) = W at hb H1 H2 ⊢
 obtain ⟨p0, p1, p2, p3, p4⟩ := cells_5 H1.out
 obtain ⟨q0, q1, q2, q3, q4⟩ := cells_5 H2.out
 go_wp2_with (go_at_call 107; refine (c3.out _ hb.out).mono ?_)
 rintro e w3 ⟨rfl, hq⟩
 have hb := hidIt (below_next hb.out hq)
 have H1 := hidIt (heap_on H1.out hq)
 have H2 := hidIt (heap_on H2.out hq)
 clear hq c3
 obtain ⟨p0, p1, p2, p3, p4⟩ := cells_5 H1.out
 obtain ⟨q0, q1, q2, q3, q4⟩ := cells_5 H2.out
 go_wp2
 go_ret
 exact ⟨rfl, hb.out⟩

set_option maxHeartbeats 2000000 in
set_option maxRecDepth 100000 in
theorem equal_structs (a b : Option Addr) (xs ys : List StructX) (c d : Nat) (w : World) (h1 : Strs w a xs) (h2 : Strs w b ys) :
 Calls Tryz.prog 60 #[.slice a xs.length c, .slice b ys.length d, .func (.func 61) #[] #[]] w fun e w' => e = .returned (.bool (lq (fun x y => structQ x.d y.d) xs ys)) ∧ Below w.heap.size w w' := by
 have n1 := h1.1.big
 have n2 := h2.1.big
 rw [List.length_map] at n1 n2
 by_cases hnm : xs.length = ys.length
 · have H1 := hidIt h1
   have H2 := hidIt h2
   obtain ⟨n, hn⟩ : ∃ n, xs.length = n := ⟨_, rfl⟩
   rw [hn] at hnm
   rw [← hnm, hn]
   have hn1 := hidIt hn
   have hn2 := hidIt hnm
   rw [hn] at n1
   clear n2 hn hnm h1 h2
   obtain ⟨R, hR0⟩ : ∃ R, lq (fun x y => structQ x.d y.d) xs ys = R := ⟨_, rfl⟩
   rw [hR0]
   have hR := hidIt hR0
   clear hR0
   go_enter Tryz.func60, Tryz.ntmps60
   go_wp2
   go_loopg [17] n (fun g s17 wr => ∃ k : Nat, k ≤ n ∧ n - k ≤ g ∧ s17 = .int .i64 k ∧ Hid (Below w.heap.size w wr) ∧ Hid (∀ (j : Nat) (x y : StructX), j < k → xs[j]? = some x → ys[j]? = some y → structQ x.d y.d = true))
   case atStart => exact ⟨0, Nat.zero_le _, by omega, rfl, hidIt (Below.refl _ _), hidIt fun j x y hj => absurd hj (Nat.not_lt_zero _)⟩
   case round =>
    obtain ⟨k, hk, hg, rfl, hb, A⟩ := hrel
    by_cases hlt : k < n
    · obtain ⟨x, hx⟩ : ∃ x, xs[k]? = some x := ⟨_, List.getElem?_eq_getElem (by rw [hn1.out]; exact hlt)⟩
      obtain ⟨y, hy⟩ : ∃ y, ys[k]? = some y := ⟨_, List.getElem?_eq_getElem (by rw [← hn2.out]; exact hlt)⟩
      obtain ⟨b1, o1, rfl, z1, g1⟩ := H1.out.1.cells (j := k) (r := x.row) (by rw [List.getElem?_map, hx]; rfl)
      obtain ⟨b2, o2, rfl, z2, g2⟩ := H2.out.1.cells (j := k) (r := y.row) (by rw [List.getElem?_map, hy]; rfl)
      have c1 : Hid (∀ W, Below w.heap.size w W → Calls Tryz.prog 61 #[.agg x.row.toArray, .agg y.row.toArray] W fun e w' => e = .returned (.bool (structQ x.d y.d)) ∧ Below W.heap.size W w') := hidIt fun W hW =>
       same_struct x y W ((H1.out.2 x (List.mem_of_getElem? hx)).on hW) ((H2.out.2 y (List.mem_of_getElem? hy)).on hW)
      have Hx := hidIt hx
      have Hy := hidIt hy
      have G2 := hidIt g2
      have p0 := g1 wr hb.out 0 _ rfl
      have p1 := g1 wr hb.out 1 _ rfl
      have p2 := g1 wr hb.out 2 _ rfl
      have p3 := g1 wr hb.out 3 _ rfl
      have p4 := g1 wr hb.out 4 _ rfl
      rw [Nat.add_zero] at p0
      clear g1 g2 hx hy z1 z2
      simp only [StructX.row] at c1
      go_upto_region 6 with fail
      have hb1 := hidIt (below_next hb.out (below_new wr (.cells #[.int .i64 x.at_, .string x.name, .bool x.safe, .bool x.hook, .slice x.fa x.fields.length x.fc] 58)))
      have hh1 := heap_alloc_new wr (.cells #[.int .i64 x.at_, .string x.name, .bool x.safe, .bool x.hook, .slice x.fa x.fields.length x.fc] 58)
      clear p0 p1 p2 p3 p4 hb
      generalize wr.alloc (.cells #[.int .i64 x.at_, .string x.name, .bool x.safe, .bool x.hook, .slice x.fa x.fields.length x.fc] 58) = w1 at hb1 hh1 ⊢
      generalize wr.heap.size = B1 at hh1 ⊢
      have p0 := G2.out w1 hb1.out 0 _ rfl
      have p1 := G2.out w1 hb1.out 1 _ rfl
      have p2 := G2.out w1 hb1.out 2 _ rfl
      have p3 := G2.out w1 hb1.out 3 _ rfl
      have p4 := G2.out w1 hb1.out 4 _ rfl
      rw [Nat.add_zero] at p0
      have hh1 := hidIt hh1
      go_upto_region 7 with fail
      have hb2 := hidIt (below_next hb1.out (below_new w1 (.cells #[.int .i64 y.at_, .string y.name, .bool y.safe, .bool y.hook, .slice y.fa y.fields.length y.fc] 58)))
      have hh2 := heap_alloc_new w1 (.cells #[.int .i64 y.at_, .string y.name, .bool y.safe, .bool y.hook, .slice y.fa y.fields.length y.fc] 58)
      have hh3 := heap_on hh1.out (below_new w1 (.cells #[.int .i64 y.at_, .string y.name, .bool y.safe, .bool y.hook, .slice y.fa y.fields.length y.fc] 58))
      clear p0 p1 p2 p3 p4 hb1
      generalize w1.alloc (.cells #[.int .i64 y.at_, .string y.name, .bool y.safe, .bool y.hook, .slice y.fa y.fields.length y.fc] 58) = w2 at hb2 hh2 hh3 ⊢
      generalize w1.heap.size = B2 at hh2 ⊢
      obtain ⟨q0, q1, q2, q3, q4⟩ := cells_5 hh3
      obtain ⟨r0, r1, r2, r3, r4⟩ := cells_5 hh2
      clear hh1 hh2 hh3
      cases hxy : structQ x.d y.d with
      | true =>
       rw [hxy] at c1
       have hxy := hidIt hxy
       go_wp2_with (go_at_call 61; refine (c1.out _ hb2.out).mono ?_; rintro e w' ⟨rfl, hq⟩; have hb3 := hidIt (below_next hb2.out hq); clear hq)
       go_roundg (n - (k + 1))
       case measure => omega
       case rel =>
        refine ⟨k + 1, by omega, by omega, by go_num, hb3, hidIt fun j u v hj hu hv => ?_⟩
        by_cases e : j = k
        · subst e
          obtain rfl : x = u := Option.some.inj (Hx.out.symm.trans hu)
          obtain rfl : y = v := Option.some.inj (Hy.out.symm.trans hv)
          exact hxy.out
        · exact A.out j u v (by omega) hu hv
      | false =>
       rw [hxy] at c1
       obtain rfl : false = R := (lq_at (f := fun x y => structQ x.d y.d) Hx.out Hy.out hxy).symm.trans hR.out
       have hxy := hidIt hxy
       go_wp2_with (go_at_call 61; refine (c1.out _ hb2.out).mono ?_; rintro e w' ⟨rfl, hq⟩; have hb3 := hidIt (below_next hb2.out hq); clear hq)
       go_ret
       exact ⟨rfl, hb3.out⟩
    · have : k = n := by omega
      subst this
      obtain rfl : true = R := by
       refine (lq_all (f := fun x y => structQ x.d y.d) (by rw [hn1.out]; exact hn2.out) fun j x y hj hy => A.out j x y ?_ hj hy).symm.trans hR.out
       have := (List.getElem?_eq_some_iff.1 hj).1
       rw [hn1.out] at this
       exact this
      go_wp2
      go_ret
      exact ⟨rfl, hb.out⟩
 · have e0 : lq (fun x y => structQ x.d y.d) xs ys = false := lq_len hnm
   rw [e0]
   clear e0
   have hnm' : ¬ (xs.length : Int) = (ys.length : Int) := by omega
   clear h1 h2 hnm
   generalize xs.length = n at *
   generalize ys.length = m at *
   go_enter Tryz.func60, Tryz.ntmps60
   go_wp2
   go_ret
   exact ⟨rfl, Below.refl _ _⟩

set_option maxHeartbeats 2000000 in
set_option maxRecDepth 100000 in
theorem same_enum (x y : EnumX) (w : World) (hx : x.At w) (hy : y.At w) :
 Calls Tryz.prog 63 #[.agg x.row.toArray, .agg y.row.toArray] w fun e w' => e = .returned (.bool (enumQ x.d y.d)) ∧ Below w.heap.size w w' := by
 have c1 : Hid (∀ W, Below w.heap.size w W → Calls Tryz.prog 107 #[.slice x.va x.variants.length x.vc, .slice y.va y.variants.length y.vc] W fun e w' => e = .returned (.bool (lq varQ x.variants y.variants)) ∧ Below W.heap.size W w') := hidIt fun W hW => equal_vars _ _ _ _ _ _ _ (Vrs.on (hx) hW) (Vrs.on (hy) hW)
 clear hx hy
 simp only [EnumX.row]
 obtain ⟨v0, v1, e0, e1, eR⟩ : ∃ v0 v1 : Bool, (x.name.toList == y.name.toList) = v0 ∧ (lq varQ x.variants y.variants) = v1 ∧ enumQ x.d y.d = (v0 && (v1)) := ⟨_, _, rfl, rfl, by simp only [enumQ, EnumX.d, bq]; try rfl⟩
 rw [eR]
 clear eR
 rw [e1] at c1
 clear e1
 have hb := hidIt (below_next (below_new w (.cells #[.int .i64 x.at_, .string x.name, .slice x.va x.variants.length x.vc] 70)) (below_new _ (.cells #[.int .i64 y.at_, .string y.name, .slice y.va y.variants.length y.vc] 70)))
 obtain ⟨hh1, hh2⟩ := two_at (w := w) (cs := #[.int .i64 x.at_, .string x.name, .slice x.va x.variants.length x.vc]) (ds := #[.int .i64 y.at_, .string y.name, .slice y.va y.variants.length y.vc]) (t := 70) (u := 70) rfl rfl (Below.refl _ _)
 have H1 := hidIt hh1
 have H2 := hidIt hh2
 clear hh1 hh2
 cases v0
 · clear c1
   go_enter Tryz.func63, Tryz.ntmps63
   go_upto_region 1 with fail
   generalize ((w.alloc (.cells #[.int .i64 x.at_, .string x.name, .slice x.va x.variants.length x.vc] 70)).alloc (.cells #[.int .i64 y.at_, .string y.name, .slice y.va y.variants.length y.vc] 70)) = W at hb H1 H2 ⊢
   obtain ⟨p0, p1, p2⟩ := cells_3 H1.out
   obtain ⟨q0, q1, q2⟩ := cells_3 H2.out
   go_wp2
   go_ret
   exact ⟨rfl, hb.out⟩
 cases v1
 · go_enter Tryz.func63, Tryz.ntmps63
   go_upto_region 1 with fail
   generalize ((w.alloc (.cells #[.int .i64 x.at_, .string x.name, .slice x.va x.variants.length x.vc] 70)).alloc (.cells #[.int .i64 y.at_, .string y.name, .slice y.va y.variants.length y.vc] 70)) = W at hb H1 H2 ⊢
   obtain ⟨p0, p1, p2⟩ := cells_3 H1.out
   obtain ⟨q0, q1, q2⟩ := cells_3 H2.out
   go_wp2_with (go_at_call 107; refine (c1.out _ hb.out).mono ?_)
   rintro e w1 ⟨rfl, hq⟩
   have hb := hidIt (below_next hb.out hq)
   have H1 := hidIt (heap_on H1.out hq)
   have H2 := hidIt (heap_on H2.out hq)
   clear hq c1
   obtain ⟨p0, p1, p2⟩ := cells_3 H1.out
   obtain ⟨q0, q1, q2⟩ := cells_3 H2.out
   go_wp2
   go_ret
   exact ⟨rfl, hb.out⟩
 go_enter Tryz.func63, Tryz.ntmps63
 go_upto_region 1 with fail
 generalize ((w.alloc (.cells #[.int .i64 x.at_, .string x.name, .slice x.va x.variants.length x.vc] 70)).alloc (.cells #[.int .i64 y.at_, .string y.name, .slice y.va y.variants.length y.vc] 70)) = W at hb H1 H2 ⊢
 obtain ⟨p0, p1, p2⟩ := cells_3 H1.out
 obtain ⟨q0, q1, q2⟩ := cells_3 H2.out
 go_wp2_with (go_at_call 107; refine (c1.out _ hb.out).mono ?_)
 rintro e w1 ⟨rfl, hq⟩
 have hb := hidIt (below_next hb.out hq)
 have H1 := hidIt (heap_on H1.out hq)
 have H2 := hidIt (heap_on H2.out hq)
 clear hq c1
 obtain ⟨p0, p1, p2⟩ := cells_3 H1.out
 obtain ⟨q0, q1, q2⟩ := cells_3 H2.out
 go_wp2
 go_ret
 exact ⟨rfl, hb.out⟩

set_option maxHeartbeats 2000000 in
set_option maxRecDepth 100000 in
theorem equal_enums (a b : Option Addr) (xs ys : List EnumX) (c d : Nat) (w : World) (h1 : Ens w a xs) (h2 : Ens w b ys) :
 Calls Tryz.prog 62 #[.slice a xs.length c, .slice b ys.length d, .func (.func 63) #[] #[]] w fun e w' => e = .returned (.bool (lq (fun x y => enumQ x.d y.d) xs ys)) ∧ Below w.heap.size w w' := by
 have n1 := h1.1.big
 have n2 := h2.1.big
 rw [List.length_map] at n1 n2
 by_cases hnm : xs.length = ys.length
 · have H1 := hidIt h1
   have H2 := hidIt h2
   obtain ⟨n, hn⟩ : ∃ n, xs.length = n := ⟨_, rfl⟩
   rw [hn] at hnm
   rw [← hnm, hn]
   have hn1 := hidIt hn
   have hn2 := hidIt hnm
   rw [hn] at n1
   clear n2 hn hnm h1 h2
   obtain ⟨R, hR0⟩ : ∃ R, lq (fun x y => enumQ x.d y.d) xs ys = R := ⟨_, rfl⟩
   rw [hR0]
   have hR := hidIt hR0
   clear hR0
   go_enter Tryz.func62, Tryz.ntmps62
   go_wp2
   go_loopg [17] n (fun g s17 wr => ∃ k : Nat, k ≤ n ∧ n - k ≤ g ∧ s17 = .int .i64 k ∧ Hid (Below w.heap.size w wr) ∧ Hid (∀ (j : Nat) (x y : EnumX), j < k → xs[j]? = some x → ys[j]? = some y → enumQ x.d y.d = true))
   case atStart => exact ⟨0, Nat.zero_le _, by omega, rfl, hidIt (Below.refl _ _), hidIt fun j x y hj => absurd hj (Nat.not_lt_zero _)⟩
   case round =>
    obtain ⟨k, hk, hg, rfl, hb, A⟩ := hrel
    by_cases hlt : k < n
    · obtain ⟨x, hx⟩ : ∃ x, xs[k]? = some x := ⟨_, List.getElem?_eq_getElem (by rw [hn1.out]; exact hlt)⟩
      obtain ⟨y, hy⟩ : ∃ y, ys[k]? = some y := ⟨_, List.getElem?_eq_getElem (by rw [← hn2.out]; exact hlt)⟩
      obtain ⟨b1, o1, rfl, z1, g1⟩ := H1.out.1.cells (j := k) (r := x.row) (by rw [List.getElem?_map, hx]; rfl)
      obtain ⟨b2, o2, rfl, z2, g2⟩ := H2.out.1.cells (j := k) (r := y.row) (by rw [List.getElem?_map, hy]; rfl)
      have c1 : Hid (∀ W, Below w.heap.size w W → Calls Tryz.prog 63 #[.agg x.row.toArray, .agg y.row.toArray] W fun e w' => e = .returned (.bool (enumQ x.d y.d)) ∧ Below W.heap.size W w') := hidIt fun W hW =>
       same_enum x y W ((H1.out.2 x (List.mem_of_getElem? hx)).on hW) ((H2.out.2 y (List.mem_of_getElem? hy)).on hW)
      have Hx := hidIt hx
      have Hy := hidIt hy
      have G2 := hidIt g2
      have p0 := g1 wr hb.out 0 _ rfl
      have p1 := g1 wr hb.out 1 _ rfl
      have p2 := g1 wr hb.out 2 _ rfl
      rw [Nat.add_zero] at p0
      clear g1 g2 hx hy z1 z2
      simp only [EnumX.row] at c1
      go_upto_region 6 with fail
      have hb1 := hidIt (below_next hb.out (below_new wr (.cells #[.int .i64 x.at_, .string x.name, .slice x.va x.variants.length x.vc] 70)))
      have hh1 := heap_alloc_new wr (.cells #[.int .i64 x.at_, .string x.name, .slice x.va x.variants.length x.vc] 70)
      clear p0 p1 p2 hb
      generalize wr.alloc (.cells #[.int .i64 x.at_, .string x.name, .slice x.va x.variants.length x.vc] 70) = w1 at hb1 hh1 ⊢
      generalize wr.heap.size = B1 at hh1 ⊢
      have p0 := G2.out w1 hb1.out 0 _ rfl
      have p1 := G2.out w1 hb1.out 1 _ rfl
      have p2 := G2.out w1 hb1.out 2 _ rfl
      rw [Nat.add_zero] at p0
      have hh1 := hidIt hh1
      go_upto_region 7 with fail
      have hb2 := hidIt (below_next hb1.out (below_new w1 (.cells #[.int .i64 y.at_, .string y.name, .slice y.va y.variants.length y.vc] 70)))
      have hh2 := heap_alloc_new w1 (.cells #[.int .i64 y.at_, .string y.name, .slice y.va y.variants.length y.vc] 70)
      have hh3 := heap_on hh1.out (below_new w1 (.cells #[.int .i64 y.at_, .string y.name, .slice y.va y.variants.length y.vc] 70))
      clear p0 p1 p2 hb1
      generalize w1.alloc (.cells #[.int .i64 y.at_, .string y.name, .slice y.va y.variants.length y.vc] 70) = w2 at hb2 hh2 hh3 ⊢
      generalize w1.heap.size = B2 at hh2 ⊢
      obtain ⟨q0, q1, q2⟩ := cells_3 hh3
      obtain ⟨r0, r1, r2⟩ := cells_3 hh2
      clear hh1 hh2 hh3
      cases hxy : enumQ x.d y.d with
      | true =>
       rw [hxy] at c1
       have hxy := hidIt hxy
       go_wp2_with (go_at_call 63; refine (c1.out _ hb2.out).mono ?_; rintro e w' ⟨rfl, hq⟩; have hb3 := hidIt (below_next hb2.out hq); clear hq)
       go_roundg (n - (k + 1))
       case measure => omega
       case rel =>
        refine ⟨k + 1, by omega, by omega, by go_num, hb3, hidIt fun j u v hj hu hv => ?_⟩
        by_cases e : j = k
        · subst e
          obtain rfl : x = u := Option.some.inj (Hx.out.symm.trans hu)
          obtain rfl : y = v := Option.some.inj (Hy.out.symm.trans hv)
          exact hxy.out
        · exact A.out j u v (by omega) hu hv
      | false =>
       rw [hxy] at c1
       obtain rfl : false = R := (lq_at (f := fun x y => enumQ x.d y.d) Hx.out Hy.out hxy).symm.trans hR.out
       have hxy := hidIt hxy
       go_wp2_with (go_at_call 63; refine (c1.out _ hb2.out).mono ?_; rintro e w' ⟨rfl, hq⟩; have hb3 := hidIt (below_next hb2.out hq); clear hq)
       go_ret
       exact ⟨rfl, hb3.out⟩
    · have : k = n := by omega
      subst this
      obtain rfl : true = R := by
       refine (lq_all (f := fun x y => enumQ x.d y.d) (by rw [hn1.out]; exact hn2.out) fun j x y hj hy => A.out j x y ?_ hj hy).symm.trans hR.out
       have := (List.getElem?_eq_some_iff.1 hj).1
       rw [hn1.out] at this
       exact this
      go_wp2
      go_ret
      exact ⟨rfl, hb.out⟩
 · have e0 : lq (fun x y => enumQ x.d y.d) xs ys = false := lq_len hnm
   rw [e0]
   clear e0
   have hnm' : ¬ (xs.length : Int) = (ys.length : Int) := by omega
   clear h1 h2 hnm
   generalize xs.length = n at *
   generalize ys.length = m at *
   go_enter Tryz.func62, Tryz.ntmps62
   go_wp2
   go_ret
   exact ⟨rfl, Below.refl _ _⟩

set_option maxHeartbeats 2000000 in
set_option maxRecDepth 100000 in
theorem same_any (x y : ProgX) (w : World) (hx : x.At w) (hy : y.At w) :
 Calls Tryz.prog 23 #[.agg x.row.toArray, .agg y.row.toArray] w fun e w' => e = .returned (.bool (progQ x.d y.d)) ∧ Below w.heap.size w w' := by
 have c0 : Hid (∀ W, Below w.heap.size w W → Calls Tryz.prog 60 #[.slice x.sa x.structs.length x.sc, .slice y.sa y.structs.length y.sc, .func (.func 61) #[] #[]] W fun e w' => e = .returned (.bool (lq (fun x y => structQ x.d y.d) x.structs y.structs)) ∧ Below W.heap.size W w') := hidIt fun W hW => equal_structs _ _ _ _ _ _ _ (Strs.on hx.1 hW) (Strs.on hy.1 hW)
 have c1 : Hid (∀ W, Below w.heap.size w W → Calls Tryz.prog 62 #[.slice x.ea x.enums.length x.ec, .slice y.ea y.enums.length y.ec, .func (.func 63) #[] #[]] W fun e w' => e = .returned (.bool (lq (fun x y => enumQ x.d y.d) x.enums y.enums)) ∧ Below W.heap.size W w') := hidIt fun W hW => equal_enums _ _ _ _ _ _ _ (Ens.on hx.2.1 hW) (Ens.on hy.2.1 hW)
 have c2 : Hid (∀ W, Below w.heap.size w W → Calls Tryz.prog 64 #[.slice x.fa x.funcs.length x.fc, .slice y.fa y.funcs.length y.fc, .func (.func 65) #[] #[]] W fun e w' => e = .returned (.bool (lq (fun x y => funcQ x.d y.d) x.funcs y.funcs)) ∧ Below W.heap.size W w') := hidIt fun W hW => equal_funcs _ _ _ _ _ _ _ (Fns.on hx.2.2 hW) (Fns.on hy.2.2 hW)
 clear hx hy
 simp only [ProgX.row]
 obtain ⟨v0, v1, v2, e0, e1, e2, eR⟩ : ∃ v0 v1 v2 : Bool, (lq (fun x y => structQ x.d y.d) x.structs y.structs) = v0 ∧ (lq (fun x y => enumQ x.d y.d) x.enums y.enums) = v1 ∧ (lq (fun x y => funcQ x.d y.d) x.funcs y.funcs) = v2 ∧ progQ x.d y.d = (v0 && (v1 && (v2))) := ⟨_, _, _, rfl, rfl, rfl, by simp only [progQ, ProgX.d, lq_map]; try rfl⟩
 rw [eR]
 clear eR
 rw [e0] at c0
 clear e0
 rw [e1] at c1
 clear e1
 rw [e2] at c2
 clear e2
 have hb := hidIt (below_next (below_new w (.cells #[.slice x.sa x.structs.length x.sc, .slice x.ea x.enums.length x.ec, .slice x.fa x.funcs.length x.fc] 36)) (below_new _ (.cells #[.slice y.sa y.structs.length y.sc, .slice y.ea y.enums.length y.ec, .slice y.fa y.funcs.length y.fc] 36)))
 obtain ⟨hh1, hh2⟩ := two_at (w := w) (cs := #[.slice x.sa x.structs.length x.sc, .slice x.ea x.enums.length x.ec, .slice x.fa x.funcs.length x.fc]) (ds := #[.slice y.sa y.structs.length y.sc, .slice y.ea y.enums.length y.ec, .slice y.fa y.funcs.length y.fc]) (t := 36) (u := 36) rfl rfl (Below.refl _ _)
 have H1 := hidIt hh1
 have H2 := hidIt hh2
 clear hh1 hh2
 cases v0
 · clear c1 c2
   go_enter Tryz.func23, Tryz.ntmps23
   go_upto_region 1 with fail
   generalize ((w.alloc (.cells #[.slice x.sa x.structs.length x.sc, .slice x.ea x.enums.length x.ec, .slice x.fa x.funcs.length x.fc] 36)).alloc (.cells #[.slice y.sa y.structs.length y.sc, .slice y.ea y.enums.length y.ec, .slice y.fa y.funcs.length y.fc] 36)) = W at hb H1 H2 ⊢
   obtain ⟨p0, p1, p2⟩ := cells_3 H1.out
   obtain ⟨q0, q1, q2⟩ := cells_3 H2.out
   go_wp2_with (go_at_call 60; refine (c0.out _ hb.out).mono ?_)
   rintro e w0 ⟨rfl, hq⟩
   have hb := hidIt (below_next hb.out hq)
   have H1 := hidIt (heap_on H1.out hq)
   have H2 := hidIt (heap_on H2.out hq)
   clear hq c0
   obtain ⟨p0, p1, p2⟩ := cells_3 H1.out
   obtain ⟨q0, q1, q2⟩ := cells_3 H2.out
   go_wp2
   go_ret
   exact ⟨rfl, hb.out⟩
 cases v1
 · clear c2
   go_enter Tryz.func23, Tryz.ntmps23
   go_upto_region 1 with fail
   generalize ((w.alloc (.cells #[.slice x.sa x.structs.length x.sc, .slice x.ea x.enums.length x.ec, .slice x.fa x.funcs.length x.fc] 36)).alloc (.cells #[.slice y.sa y.structs.length y.sc, .slice y.ea y.enums.length y.ec, .slice y.fa y.funcs.length y.fc] 36)) = W at hb H1 H2 ⊢
   obtain ⟨p0, p1, p2⟩ := cells_3 H1.out
   obtain ⟨q0, q1, q2⟩ := cells_3 H2.out
   go_wp2_with (go_at_call 60; refine (c0.out _ hb.out).mono ?_)
   rintro e w0 ⟨rfl, hq⟩
   have hb := hidIt (below_next hb.out hq)
   have H1 := hidIt (heap_on H1.out hq)
   have H2 := hidIt (heap_on H2.out hq)
   clear hq c0
   obtain ⟨p0, p1, p2⟩ := cells_3 H1.out
   obtain ⟨q0, q1, q2⟩ := cells_3 H2.out
   go_wp2_with (go_at_call 62; refine (c1.out _ hb.out).mono ?_)
   rintro e w1 ⟨rfl, hq⟩
   have hb := hidIt (below_next hb.out hq)
   have H1 := hidIt (heap_on H1.out hq)
   have H2 := hidIt (heap_on H2.out hq)
   clear hq c1
   obtain ⟨p0, p1, p2⟩ := cells_3 H1.out
   obtain ⟨q0, q1, q2⟩ := cells_3 H2.out
   go_wp2
   go_ret
   exact ⟨rfl, hb.out⟩
 cases v2
 · go_enter Tryz.func23, Tryz.ntmps23
   go_upto_region 1 with fail
   generalize ((w.alloc (.cells #[.slice x.sa x.structs.length x.sc, .slice x.ea x.enums.length x.ec, .slice x.fa x.funcs.length x.fc] 36)).alloc (.cells #[.slice y.sa y.structs.length y.sc, .slice y.ea y.enums.length y.ec, .slice y.fa y.funcs.length y.fc] 36)) = W at hb H1 H2 ⊢
   obtain ⟨p0, p1, p2⟩ := cells_3 H1.out
   obtain ⟨q0, q1, q2⟩ := cells_3 H2.out
   go_wp2_with (go_at_call 60; refine (c0.out _ hb.out).mono ?_)
   rintro e w0 ⟨rfl, hq⟩
   have hb := hidIt (below_next hb.out hq)
   have H1 := hidIt (heap_on H1.out hq)
   have H2 := hidIt (heap_on H2.out hq)
   clear hq c0
   obtain ⟨p0, p1, p2⟩ := cells_3 H1.out
   obtain ⟨q0, q1, q2⟩ := cells_3 H2.out
   go_wp2_with (go_at_call 62; refine (c1.out _ hb.out).mono ?_)
   rintro e w1 ⟨rfl, hq⟩
   have hb := hidIt (below_next hb.out hq)
   have H1 := hidIt (heap_on H1.out hq)
   have H2 := hidIt (heap_on H2.out hq)
   clear hq c1
   obtain ⟨p0, p1, p2⟩ := cells_3 H1.out
   obtain ⟨q0, q1, q2⟩ := cells_3 H2.out
   go_wp2_with (go_at_call 64; refine (c2.out _ hb.out).mono ?_)
   rintro e w2 ⟨rfl, hq⟩
   have hb := hidIt (below_next hb.out hq)
   have H1 := hidIt (heap_on H1.out hq)
   have H2 := hidIt (heap_on H2.out hq)
   clear hq c2
   obtain ⟨p0, p1, p2⟩ := cells_3 H1.out
   obtain ⟨q0, q1, q2⟩ := cells_3 H2.out
   go_wp2
   go_ret
   exact ⟨rfl, hb.out⟩
 go_enter Tryz.func23, Tryz.ntmps23
 go_upto_region 1 with fail
 generalize ((w.alloc (.cells #[.slice x.sa x.structs.length x.sc, .slice x.ea x.enums.length x.ec, .slice x.fa x.funcs.length x.fc] 36)).alloc (.cells #[.slice y.sa y.structs.length y.sc, .slice y.ea y.enums.length y.ec, .slice y.fa y.funcs.length y.fc] 36)) = W at hb H1 H2 ⊢
 obtain ⟨p0, p1, p2⟩ := cells_3 H1.out
 obtain ⟨q0, q1, q2⟩ := cells_3 H2.out
 go_wp2_with (go_at_call 60; refine (c0.out _ hb.out).mono ?_)
 rintro e w0 ⟨rfl, hq⟩
 have hb := hidIt (below_next hb.out hq)
 have H1 := hidIt (heap_on H1.out hq)
 have H2 := hidIt (heap_on H2.out hq)
 clear hq c0
 obtain ⟨p0, p1, p2⟩ := cells_3 H1.out
 obtain ⟨q0, q1, q2⟩ := cells_3 H2.out
 go_wp2_with (go_at_call 62; refine (c1.out _ hb.out).mono ?_)
 rintro e w1 ⟨rfl, hq⟩
 have hb := hidIt (below_next hb.out hq)
 have H1 := hidIt (heap_on H1.out hq)
 have H2 := hidIt (heap_on H2.out hq)
 clear hq c1
 obtain ⟨p0, p1, p2⟩ := cells_3 H1.out
 obtain ⟨q0, q1, q2⟩ := cells_3 H2.out
 go_wp2_with (go_at_call 64; refine (c2.out _ hb.out).mono ?_)
 rintro e w2 ⟨rfl, hq⟩
 have hb := hidIt (below_next hb.out hq)
 have H1 := hidIt (heap_on H1.out hq)
 have H2 := hidIt (heap_on H2.out hq)
 clear hq c2
 obtain ⟨p0, p1, p2⟩ := cells_3 H1.out
 obtain ⟨q0, q1, q2⟩ := cells_3 H2.out
 go_wp2
 go_ret
 exact ⟨rfl, hb.out⟩

end Go.Proofs.YtlppbgmcoknliaaGreatDoor
