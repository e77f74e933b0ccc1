/-
  The walk of the document's own Term, a kind at a time.
-/
import Derived.Test.YtlppbgmcoknliaaGreatDoorRSm
import Derived.Deep.RegionHeld3
import Derived.Deep.QuietTactic
import Derived.BigQuiet
namespace Go.Proofs.YtlppbgmcoknliaaGreatDoor
set_option linter.unusedVariables false
open Go.RowKit

set_option maxHeartbeats 8000000 in
set_option maxRecDepth 100000 in
theorem docterm_1 (zat : Int) (zl : ByteArray) (zsa : Option Addr) (zsn zsc : Nat) (znm : ByteArray) (zaa : Option Addr) (zan zac : Nat) (zba : Option Addr) (zbn zbc : Nat) (zra : Option Addr) (zrn zrc : Nat) (w : World) (bl : List ByteArray) (ar : List ArmD) (pB aB tB : Bool)
 (HB : Hid (St w zba bl)) (HA : Hid (Ars w zra ar)) (LB : Hid (bl.length = zbn)) (LA : Hid (ar.length = zrn)) (FB : Hid (∀ s ∈ bl, fitS s)) (FA : Hid (∀ a ∈ ar, a.Fit))
 (C140 : Hid (Ans w 140 #[.slice zaa zan zac, .int .i64 0, .int .i64 0] pB))
 (C142 : Hid (Ans w 142 #[.agg #[.string zl, .slice zsa zsn zsc]] tB))
 (CN : Hid (Ans w 141 #[.string znm, .bool false] aB)) :
 Calls Tryz.prog 105 #[.agg #[.int .i64 zat, .int .i64 1, .string zl, .slice zsa zsn zsc, .string znm, .slice zaa zan zac, .slice zba zbn zbc, .slice zra zrn zrc]] w fun e w' => e = .returned (.bool (decide (zbn = 1) && (pB && (aB && (tB && (bl.all nameS && (ar.all armR && decide (zrn = 0)))))))) ∧ Below w.heap.size w w' := by
 have hbb : zbn ≤ 1048576 := by have := HB.out.big; rwa [LB.out] at this
 have hrb : zrn ≤ 1048576 := by have := Sl.big HA.out; rwa [List.length_map, LA.out] at this
 by_cases hz : zbn = 1
 rotate_left
 · have hd1 : decide ((zbn : Int) = 1) = false := decide_eq_false (by omega)
   rw [decide_eq_false hz]
   clear HB HA LB LA FB FA C140 C142 CN
   have K0 : Hid (Kept w [((w.alloc (.cells #[.int .i64 zat, .int .i64 1, .string zl, .slice zsa zsn zsc, .string znm, .slice zaa zan zac, .slice zba zbn zbc, .slice zra zrn zrc] 61)).heap.size + 1, Obj.cells #[.int .i64 0, .int .i64 1, .int .i64 2, .int .i64 0, .int .i64 1, .int .i64 1, .int .i64 1, .int .i64 0] 171 (0, 0)), ((w.alloc (.cells #[.int .i64 zat, .int .i64 1, .string zl, .slice zsa zsn zsc, .string znm, .slice zaa zan zac, .slice zba zbn zbc, .slice zra zrn zrc] 61)).heap.size, Obj.cells #[.int .i64 0, .int .i64 0, .int .i64 1, .int .i64 1, .int .i64 0, .int .i64 16, .int .i64 16, .int .i64 1] 171 (0, 0)), (w.heap.size, Obj.cells #[.int .i64 zat, .int .i64 1, .string zl, .slice zsa zsn zsc, .string znm, .slice zaa zan zac, .slice zba zbn zbc, .slice zra zrn zrc] 61 (0, 0))] (((w.alloc (.cells #[.int .i64 zat, .int .i64 1, .string zl, .slice zsa zsn zsc, .string znm, .slice zaa zan zac, .slice zba zbn zbc, .slice zra zrn zrc] 61)).alloc (.cells #[.int .i64 0, .int .i64 0, .int .i64 1, .int .i64 1, .int .i64 0, .int .i64 16, .int .i64 16, .int .i64 1] 171)).alloc (.cells #[.int .i64 0, .int .i64 1, .int .i64 2, .int .i64 0, .int .i64 1, .int .i64 1, .int .i64 1, .int .i64 0] 171))) := hidIt (by
    have h := Kept.new (Kept.new (Kept.new (L := []) ⟨Below.refl _ w, fun x hx => by cases hx⟩ #[.int .i64 zat, .int .i64 1, .string zl, .slice zsa zsn zsc, .string znm, .slice zaa zan zac, .slice zba zbn zbc, .slice zra zrn zrc] 61) #[.int .i64 0, .int .i64 0, .int .i64 1, .int .i64 1, .int .i64 0, .int .i64 16, .int .i64 16, .int .i64 1] 171) #[.int .i64 0, .int .i64 1, .int .i64 2, .int .i64 0, .int .i64 1, .int .i64 1, .int .i64 1, .int .i64 0] 171
    rwa [World.size_alloc (w.alloc _)] at h)
   rw [World.size_alloc] at K0
   go_enter Tryz.func105, Tryz.ntmps105
   go_upto_region 3 with fail
   generalize (((w.alloc (.cells #[.int .i64 zat, .int .i64 1, .string zl, .slice zsa zsn zsc, .string znm, .slice zaa zan zac, .slice zba zbn zbc, .slice zra zrn zrc] 61)).alloc (.cells #[.int .i64 0, .int .i64 0, .int .i64 1, .int .i64 1, .int .i64 0, .int .i64 16, .int .i64 16, .int .i64 1] 171)).alloc (.cells #[.int .i64 0, .int .i64 1, .int .i64 2, .int .i64 0, .int .i64 1, .int .i64 1, .int .i64 1, .int .i64 0] 171)) = W0 at K0 ⊢
   obtain ⟨-, c1, -, -, -, -, c6⟩ := cells_7 (K0.out.get 2 rfl)
   have c9 : W0.cell? ⟨w.heap.size + 1 + 1, 1, none⟩ = some (.int .i64 1) := cell_at (K0.out.get 0 rfl) 1
   go_quiet (fail)
   go_wp2
   go_ret
   exact ⟨rfl, below_next K0.out.1 (below_drewN _ _)⟩
 rw [decide_eq_true hz]
 subst hz
 rw [Bool.true_and]
 obtain ⟨R, hR⟩ : ∃ R, (pB && (aB && (tB && (bl.all nameS && (ar.all armR && decide (zrn = 0)))))) = R := ⟨_, rfl⟩
 rw [hR]
 have HR := hidIt hR
 clear hR
 have K0 : Hid (Kept w [((w.alloc (.cells #[.int .i64 zat, .int .i64 1, .string zl, .slice zsa zsn zsc, .string znm, .slice zaa zan zac, .slice zba 1 zbc, .slice zra zrn zrc] 61)).heap.size + 1, Obj.cells #[.int .i64 0, .int .i64 1, .int .i64 2, .int .i64 0, .int .i64 1, .int .i64 1, .int .i64 1, .int .i64 0] 171 (0, 0)), ((w.alloc (.cells #[.int .i64 zat, .int .i64 1, .string zl, .slice zsa zsn zsc, .string znm, .slice zaa zan zac, .slice zba 1 zbc, .slice zra zrn zrc] 61)).heap.size, Obj.cells #[.int .i64 0, .int .i64 0, .int .i64 1, .int .i64 1, .int .i64 0, .int .i64 16, .int .i64 16, .int .i64 1] 171 (0, 0)), (w.heap.size, Obj.cells #[.int .i64 zat, .int .i64 1, .string zl, .slice zsa zsn zsc, .string znm, .slice zaa zan zac, .slice zba 1 zbc, .slice zra zrn zrc] 61 (0, 0))] (((w.alloc (.cells #[.int .i64 zat, .int .i64 1, .string zl, .slice zsa zsn zsc, .string znm, .slice zaa zan zac, .slice zba 1 zbc, .slice zra zrn zrc] 61)).alloc (.cells #[.int .i64 0, .int .i64 0, .int .i64 1, .int .i64 1, .int .i64 0, .int .i64 16, .int .i64 16, .int .i64 1] 171)).alloc (.cells #[.int .i64 0, .int .i64 1, .int .i64 2, .int .i64 0, .int .i64 1, .int .i64 1, .int .i64 1, .int .i64 0] 171))) := hidIt (by
  have h := Kept.new (Kept.new (Kept.new (L := []) ⟨Below.refl _ w, fun x hx => by cases hx⟩ #[.int .i64 zat, .int .i64 1, .string zl, .slice zsa zsn zsc, .string znm, .slice zaa zan zac, .slice zba 1 zbc, .slice zra zrn zrc] 61) #[.int .i64 0, .int .i64 0, .int .i64 1, .int .i64 1, .int .i64 0, .int .i64 16, .int .i64 16, .int .i64 1] 171) #[.int .i64 0, .int .i64 1, .int .i64 2, .int .i64 0, .int .i64 1, .int .i64 1, .int .i64 1, .int .i64 0] 171
  rwa [World.size_alloc (w.alloc _)] at h)
 rw [World.size_alloc] at K0
 go_enter Tryz.func105, Tryz.ntmps105
 go_upto_region 3 with fail
 generalize (((w.alloc (.cells #[.int .i64 zat, .int .i64 1, .string zl, .slice zsa zsn zsc, .string znm, .slice zaa zan zac, .slice zba 1 zbc, .slice zra zrn zrc] 61)).alloc (.cells #[.int .i64 0, .int .i64 0, .int .i64 1, .int .i64 1, .int .i64 0, .int .i64 16, .int .i64 16, .int .i64 1] 171)).alloc (.cells #[.int .i64 0, .int .i64 1, .int .i64 2, .int .i64 0, .int .i64 1, .int .i64 1, .int .i64 1, .int .i64 0] 171)) = W0 at K0 ⊢
 obtain ⟨-, c1, -, -, -, -, c6⟩ := cells_7 (K0.out.get 2 rfl)
 have c9 : W0.cell? ⟨w.heap.size + 1 + 1, 1, none⟩ = some (.int .i64 1) := cell_at (K0.out.get 0 rfl) 1
 go_quiet (fail)
 have K0 := hidIt (keptN K0.out nq)
 clear c1 c6 c9
 generalize W0.drewN nq = W1 at K0 ⊢
 have sw : W1.cell? ⟨w.heap.size, 1, none⟩ = some (.int .i64 1) ∧ W1.cell? ⟨w.heap.size, 4, none⟩ = some (.string znm) ∧ W1.cell? ⟨w.heap.size, 5, none⟩ = some (.slice zaa zan zac) ∧ W1.cell? ⟨w.heap.size + 1, 1, none⟩ = some (.int .i64 0) := ⟨cell_at (K0.out.get 2 rfl) 1, cell_at (K0.out.get 2 rfl) 4, cell_at (K0.out.get 2 rfl) 5, cell_at (K0.out.get 1 rfl) 1⟩
 obtain ⟨c1, c4, c5, c9⟩ := sw
 go_upto_region 9 with fail
 have sw : W1.cell? ⟨w.heap.size, 1, none⟩ = some (.int .i64 1) ∧ W1.cell? ⟨w.heap.size, 4, none⟩ = some (.string znm) ∧ W1.cell? ⟨w.heap.size, 5, none⟩ = some (.slice zaa zan zac) ∧ W1.cell? ⟨w.heap.size + 1, 1, none⟩ = some (.int .i64 0) := ⟨c1, c4, c5, c9⟩
 have HK := hidIt K0.out.drew
 clear K0 c1 c4 c5 c9
 cases pB with
 | false =>
  as_aux_lemma =>
  obtain rfl : false = R := by rw [← HR.out]; rfl
  refine wp_region_held_drew (S := (fun W => W.cell? ⟨w.heap.size, 1, none⟩ = some (.int .i64 1) ∧ W.cell? ⟨w.heap.size, 4, none⟩ = some (.string znm) ∧ W.cell? ⟨w.heap.size, 5, none⟩ = some (.slice zaa zan zac) ∧ W.cell? ⟨w.heap.size + 1, 1, none⟩ = some (.int .i64 0))) (by kernel_rfl) sw (fun hHeld => ?_)
  clear sw
  refine wpAnyH_take (i := 0) (v := ?vv0) rfl (by kernel_rfl) (by kernel_rfl) (by kernel_rfl) (fun _ _ _ h => h) (Or.inl ⟨by rfl, ?yy0⟩) (by assumption) ?rr0
  case yy0 => intro w hSw; (try dsimp only at hSw); go_simp; first | done | with_reducible rfl
  (try simp only [Act.put, List.getElem_toArray, List.getElem_cons_zero, List.setIfInBounds_toArray, List.set_cons_zero, List.set_cons_succ])
  refine wpAnyH_take (i := 1) (v := ?vv1) rfl (by kernel_rfl) (by kernel_rfl) (by kernel_rfl) (fun _ _ _ h => h) (Or.inl ⟨by rfl, ?yy1⟩) (by assumption) ?rr1
  case yy1 => intro w hSw; (try dsimp only at hSw); go_simp; first | done | with_reducible rfl
  (try simp only [Act.put, List.getElem_toArray, List.getElem_cons_succ, List.getElem_cons_zero, List.setIfInBounds_toArray, List.set_cons_zero, List.set_cons_succ])
  refine wpAnyH_take (i := 2) (v := ?vv2) rfl (by kernel_rfl) (by kernel_rfl) (by kernel_rfl) (fun _ _ _ h => h) (Or.inl ⟨by rfl, ?yy2⟩) (by assumption) ?rr2
  case yy2 => intro w hSw; (try dsimp only at hSw); go_simp; first | done | with_reducible rfl
  (try simp only [Act.put, List.getElem_toArray, List.getElem_cons_succ, List.getElem_cons_zero, List.setIfInBounds_toArray, List.set_cons_zero, List.set_cons_succ])
  refine wpAnyH_take (i := 3) (v := ?vv3) rfl (by kernel_rfl) (by kernel_rfl) (by kernel_rfl) (fun _ _ _ h => h) (Or.inl ⟨by rfl, ?yy3⟩) (by assumption) ?rr3
  case yy3 => intro w hSw; (try dsimp only at hSw); go_simp; first | done | with_reducible rfl
  (try simp only [Act.put, List.getElem_toArray, List.getElem_cons_succ, List.getElem_cons_zero, List.setIfInBounds_toArray, List.set_cons_zero, List.set_cons_succ])
  refine wpAnyH_take (i := 4) (v := ?vv4) rfl (by kernel_rfl) (by kernel_rfl) (by kernel_rfl) (fun _ _ _ h => h) (Or.inl ⟨by rfl, ?yy4⟩) (by assumption) ?rr4
  case yy4 => intro w hSw; (try dsimp only at hSw); go_simp; first | done | with_reducible rfl
  (try simp only [Act.put, List.getElem_toArray, List.getElem_cons_succ, List.getElem_cons_zero, List.setIfInBounds_toArray, List.set_cons_zero, List.set_cons_succ])
  refine wpAnyH_take (i := 5) (v := ?vv5) rfl (by kernel_rfl) (by kernel_rfl) (by kernel_rfl) (fun _ _ _ h => h) (Or.inl ⟨by rfl, ?yy5⟩) (by assumption) ?rr5
  case yy5 => intro w hSw; (try dsimp only at hSw); go_simp; first | done | with_reducible rfl
  (try simp only [Act.put, List.getElem_toArray, List.getElem_cons_succ, List.getElem_cons_zero, List.setIfInBounds_toArray, List.set_cons_zero, List.set_cons_succ])
  refine wpAnyH_take (i := 6) (v := ?vv6) rfl (by kernel_rfl) (by kernel_rfl) (by kernel_rfl) (fun _ _ _ h => h) (Or.inl ⟨by rfl, ?yy6⟩) (by assumption) ?rr6
  case yy6 => intro w hSw; (try dsimp only at hSw); go_simp; first | done | with_reducible rfl
  (try simp only [Act.put, List.getElem_toArray, List.getElem_cons_succ, List.getElem_cons_zero, List.setIfInBounds_toArray, List.set_cons_zero, List.set_cons_succ])
  refine wpAnyH_ready (rs := [7]) (by kernel_rfl) (by simp) ?_
  refine AllReadyH.cons rfl (fun K hK => ?_) AllReadyH.nil
  go_simp
  go_at_call 140
  refine (C140.out _ HK.out.1).mono ?_
  rintro e y ⟨rfl, hq⟩
  have HK := hidIt (HK.out.on hq)
  have sS : y.cell? ⟨w.heap.size, 1, none⟩ = some (.int .i64 1) ∧ y.cell? ⟨w.heap.size, 4, none⟩ = some (.string znm) ∧ y.cell? ⟨w.heap.size, 5, none⟩ = some (.slice zaa zan zac) ∧ y.cell? ⟨w.heap.size + 1, 1, none⟩ = some (.int .i64 0) := ⟨cell_at (HK.out.get 2 rfl) 1, cell_at (HK.out.get 2 rfl) 4, cell_at (HK.out.get 2 rfl) 5, cell_at (HK.out.get 1 rfl) 1⟩
  clear hq
  refine hK.out _ _ sS (fun hHeld => ?_)
  clear hK K
  (try simp only [Act.put, List.getElem_toArray, List.getElem_cons_succ, List.getElem_cons_zero, List.setIfInBounds_toArray, List.set_cons_zero, List.set_cons_succ])
  refine wpAnyH_take (i := 8) (v := ?vv8) rfl (by kernel_rfl) (by kernel_rfl) (by kernel_rfl) (fun _ _ _ h => h) (Or.inl ⟨by rfl, ?yy8⟩) (by assumption) ?rr8
  case yy8 => intro w hSw; (try dsimp only at hSw); go_simp; first | done | with_reducible rfl
  (try simp only [Act.put, List.getElem_toArray, List.getElem_cons_succ, List.getElem_cons_zero, List.setIfInBounds_toArray, List.set_cons_zero, List.set_cons_succ])
  refine wpAnyH_take (i := 9) (v := ?vv9) rfl (by kernel_rfl) (by kernel_rfl) (by kernel_rfl) (fun _ _ _ h => h) (Or.inl ⟨by rfl, ?yy9⟩) (by assumption) ?rr9
  case yy9 => intro w hSw; (try dsimp only at hSw); go_simp; first | done | with_reducible rfl
  (try simp only [Act.put, List.getElem_toArray, List.getElem_cons_succ, List.getElem_cons_zero, List.setIfInBounds_toArray, List.set_cons_zero, List.set_cons_succ])
  refine wpAnyH_take (i := 10) (v := undef) rfl (by kernel_rfl) (by kernel_rfl) (by kernel_rfl) (fun _ _ _ h => h) (Or.inr ⟨by rfl, rfl⟩) (by assumption) ?_
  (try simp only [Act.put, List.getElem_toArray, List.getElem_cons_succ, List.getElem_cons_zero, List.setIfInBounds_toArray, List.set_cons_zero, List.set_cons_succ])
  refine wpAnyH_take (i := 11) (v := undef) rfl (by kernel_rfl) (by kernel_rfl) (by kernel_rfl) (fun _ _ _ h => h) (Or.inr ⟨by rfl, rfl⟩) (by assumption) ?_
  (try simp only [Act.put, List.getElem_toArray, List.getElem_cons_succ, List.getElem_cons_zero, List.setIfInBounds_toArray, List.set_cons_zero, List.set_cons_succ])
  refine wpAnyH_take (i := 12) (v := undef) rfl (by kernel_rfl) (by kernel_rfl) (by kernel_rfl) (fun _ _ _ h => h) (Or.inr ⟨by rfl, rfl⟩) (by assumption) ?_
  (try simp only [Act.put, List.getElem_toArray, List.getElem_cons_succ, List.getElem_cons_zero, List.setIfInBounds_toArray, List.set_cons_zero, List.set_cons_succ])
  refine wpAnyH_ready (rs := [13]) (by kernel_rfl) (by simp) ?_
  refine AllReadyH.cons rfl (fun K hK => ?_) AllReadyH.nil
  go_simp
  refine hK.out _ _ (by assumption) (fun hHeld => ?_)
  clear hK K
  (try simp only [Act.put, List.getElem_toArray, List.getElem_cons_succ, List.getElem_cons_zero, List.setIfInBounds_toArray, List.set_cons_zero, List.set_cons_succ])
  refine wpAnyH_take (i := 14) (v := undef) rfl (by kernel_rfl) (by kernel_rfl) (by kernel_rfl) (fun _ _ _ h => h) (Or.inr ⟨by rfl, rfl⟩) (by assumption) ?_
  (try simp only [Act.put, List.getElem_toArray, List.getElem_cons_succ, List.getElem_cons_zero, List.setIfInBounds_toArray, List.set_cons_zero, List.set_cons_succ])
  refine wpAnyH_take (i := 15) (v := ?vv15) rfl (by kernel_rfl) (by kernel_rfl) (by kernel_rfl) (fun _ _ _ h => h) (Or.inl ⟨by rfl, ?yy15⟩) (by assumption) ?rr15
  case yy15 => intro w hSw; (try dsimp only at hSw); go_simp; first | done | with_reducible rfl
  (try simp only [Act.put, List.getElem_toArray, List.getElem_cons_succ, List.getElem_cons_zero, List.setIfInBounds_toArray, List.set_cons_zero, List.set_cons_succ])
  refine wpAnyH_done (by kernel_rfl) ?_ _
  (try simp only [Act.put, List.getElem_toArray, List.getElem_cons_succ, List.getElem_cons_zero, List.setIfInBounds_toArray])
  go_wp2
  go_ret
  exact ⟨rfl, HK.out.1⟩
 | true =>
  cases aB with
  | false =>
   as_aux_lemma =>
   obtain rfl : false = R := by rw [← HR.out]; rfl
   go_region_held3 (fun W => W.cell? ⟨w.heap.size, 1, none⟩ = some (.int .i64 1) ∧ W.cell? ⟨w.heap.size, 4, none⟩ = some (.string znm) ∧ W.cell? ⟨w.heap.size, 5, none⟩ = some (.slice zaa zan zac) ∧ W.cell? ⟨w.heap.size + 1, 1, none⟩ = some (.int .i64 0)) (go_keep)
    (first
    | (go_at_call 140; refine (C140.out _ HK.out.1).mono ?_; rintro e y ⟨rfl, hq⟩; have HK := hidIt (HK.out.on hq); have sS : y.cell? ⟨w.heap.size, 1, none⟩ = some (.int .i64 1) ∧ y.cell? ⟨w.heap.size, 4, none⟩ = some (.string znm) ∧ y.cell? ⟨w.heap.size, 5, none⟩ = some (.slice zaa zan zac) ∧ y.cell? ⟨w.heap.size + 1, 1, none⟩ = some (.int .i64 0) := ⟨cell_at (HK.out.get 2 rfl) 1, cell_at (HK.out.get 2 rfl) 4, cell_at (HK.out.get 2 rfl) 5, cell_at (HK.out.get 1 rfl) 1⟩; clear hq)
    | (go_at_call 141; refine (CN.out _ HK.out.1).mono ?_; rintro e y ⟨rfl, hq⟩; have HK := hidIt (HK.out.on hq); have sS : y.cell? ⟨w.heap.size, 1, none⟩ = some (.int .i64 1) ∧ y.cell? ⟨w.heap.size, 4, none⟩ = some (.string znm) ∧ y.cell? ⟨w.heap.size, 5, none⟩ = some (.slice zaa zan zac) ∧ y.cell? ⟨w.heap.size + 1, 1, none⟩ = some (.int .i64 0) := ⟨cell_at (HK.out.get 2 rfl) 1, cell_at (HK.out.get 2 rfl) 4, cell_at (HK.out.get 2 rfl) 5, cell_at (HK.out.get 1 rfl) 1⟩; clear hq))
   go_wp2
   go_ret
   exact ⟨rfl, HK.out.1⟩
  | true =>
   go_region_held3 (fun W => W.cell? ⟨w.heap.size, 1, none⟩ = some (.int .i64 1) ∧ W.cell? ⟨w.heap.size, 4, none⟩ = some (.string znm) ∧ W.cell? ⟨w.heap.size, 5, none⟩ = some (.slice zaa zan zac) ∧ W.cell? ⟨w.heap.size + 1, 1, none⟩ = some (.int .i64 0)) (go_keep)
    (first
    | (go_at_call 140; refine (C140.out _ HK.out.1).mono ?_; rintro e y ⟨rfl, hq⟩; have HK := hidIt (HK.out.on hq); have sS : y.cell? ⟨w.heap.size, 1, none⟩ = some (.int .i64 1) ∧ y.cell? ⟨w.heap.size, 4, none⟩ = some (.string znm) ∧ y.cell? ⟨w.heap.size, 5, none⟩ = some (.slice zaa zan zac) ∧ y.cell? ⟨w.heap.size + 1, 1, none⟩ = some (.int .i64 0) := ⟨cell_at (HK.out.get 2 rfl) 1, cell_at (HK.out.get 2 rfl) 4, cell_at (HK.out.get 2 rfl) 5, cell_at (HK.out.get 1 rfl) 1⟩; clear hq)
    | (go_at_call 141; refine (CN.out _ HK.out.1).mono ?_; rintro e y ⟨rfl, hq⟩; have HK := hidIt (HK.out.on hq); have sS : y.cell? ⟨w.heap.size, 1, none⟩ = some (.int .i64 1) ∧ y.cell? ⟨w.heap.size, 4, none⟩ = some (.string znm) ∧ y.cell? ⟨w.heap.size, 5, none⟩ = some (.slice zaa zan zac) ∧ y.cell? ⟨w.heap.size + 1, 1, none⟩ = some (.int .i64 0) := ⟨cell_at (HK.out.get 2 rfl) 1, cell_at (HK.out.get 2 rfl) 4, cell_at (HK.out.get 2 rfl) 5, cell_at (HK.out.get 1 rfl) 1⟩; clear hq))
   have M : Hid (TM w (.int .i64 zat) (.int .i64 1) (.string zl) (.slice zsa zsn zsc) (.string znm) (.slice zaa zan zac) (.slice zba 1 zbc) (.slice zra zrn zrc) y) := hidIt ⟨HK.out.1, HK.out.get 2 rfl⟩
   clear HK C140 CN
   obtain ⟨c1, c2, c3, c4, c5, c6, c7⟩ := M.out.cells
   cases tB with
   | false =>
    as_aux_lemma =>
    obtain rfl : false = R := by rw [← HR.out]; rfl
    go_wp2_with (first | (go_at_call 142; refine (C142.out _ M.out.bel).mono ?_; rintro e y ⟨rfl, hq⟩; have M := hidIt (M.out.on hq); clear hq c1 c2 c3 c4 c5 c6 c7; obtain ⟨c1, c2, c3, c4, c5, c6, c7⟩ := M.out.cells))
    go_ret
    exact ⟨rfl, M.out.bel⟩
   | true =>
    as_aux_lemma =>
    have HR : Hid ((bl.all nameS && (ar.all armR && decide (zrn = 0))) = R) := HR
    go_wp2_with (first | (go_at_call 142; refine (C142.out _ M.out.bel).mono ?_; rintro e y ⟨rfl, hq⟩; have M := hidIt (M.out.on hq); clear hq c1 c2 c3 c4 c5 c6 c7; obtain ⟨c1, c2, c3, c4, c5, c6, c7⟩ := M.out.cells))
    clear C142
    go_loopg [7] 1 (fun g s8 wr => ∃ k : Nat, k ≤ 1 ∧ 1 - k ≤ g ∧ s8 = .int .i64 k ∧ Hid (TM w (.int .i64 zat) (.int .i64 1) (.string zl) (.slice zsa zsn zsc) (.string znm) (.slice zaa zan zac) (.slice zba 1 zbc) (.slice zra zrn zrc) wr) ∧ Hid (∀ (j : Nat) (x : ByteArray), j < k → bl[j]? = some x → nameS x = true))
    case atStart => exact ⟨0, Nat.zero_le _, by omega, rfl, M, hidIt fun j x hj => absurd hj (Nat.not_lt_zero _)⟩
    case round =>
     clear M c1 c2 c3 c4 c5 c6 c7
     obtain ⟨k, hk, hg, rfl, M, A⟩ := hrel
     by_cases hlt : k < 1
     · obtain ⟨x, hx⟩ : ∃ x, bl[k]? = some x := ⟨_, List.getElem?_eq_getElem (by rw [LB.out]; exact hlt)⟩
       obtain ⟨b1, o1, rfl, g1⟩ := St.cell HB.out hx
       obtain ⟨c1, c2, c3, c4, c5, c6, c7⟩ := M.out.cells
       have hm := List.mem_of_getElem? hx
       have c44 : Hid (Ans w 44 #[.string x] (nameS x)) := hidIt fun W hW => rname_any x (fit_le (FB.out x hm)) W
       have Hx := hidIt hx
       have p0 := g1 wr M.out.bel
       clear g1 hx hm
       cases hq : nameS x with
       | false =>
        as_aux_lemma =>
        obtain rfl : false = R := by rw [← HR.out, all_hit (r := nameS) Hx.out hq]; rfl
        rw [hq] at c44
        go_wp2_with (first | (go_at_call 44; refine (c44.out _ M.out.bel).mono ?_; rintro e y ⟨rfl, hq⟩; have M := hidIt (M.out.on hq); clear hq c1 c2 c3 c4 c5 c6 c7; obtain ⟨c1, c2, c3, c4, c5, c6, c7⟩ := M.out.cells))
        go_ret
        exact ⟨rfl, M.out.bel⟩
       | true =>
        as_aux_lemma =>
        rw [hq] at c44
        have HQ := hidIt hq
        clear hq
        go_wp2_with (first | (go_at_call 44; refine (c44.out _ M.out.bel).mono ?_; rintro e y ⟨rfl, hq⟩; have M := hidIt (M.out.on hq); clear hq c1 c2 c3 c4 c5 c6 c7; obtain ⟨c1, c2, c3, c4, c5, c6, c7⟩ := M.out.cells))
        go_roundg (1 - (k + 1))
        case measure => omega
        case rel =>
         refine ⟨k + 1, by omega, by omega, by go_num, M, hidIt fun j u hj hu => ?_⟩
         by_cases e : j = k
         · subst e
           obtain rfl : x = u := Option.some.inj (Hx.out.symm.trans hu)
           exact HQ.out
         · exact A.out j u (by omega) hu
     · as_aux_lemma =>
       have : k = 1 := by omega
       subst this
       have e0 := all_none (r := nameS) (xs := bl) fun j x hj => A.out j x (by have := (List.getElem?_eq_some_iff.1 hj).1; rw [LB.out] at this; exact this) hj
       have HR : Hid ((ar.all armR && decide (zrn = 0)) = R) := hidIt (by have := HR.out; rwa [e0, Bool.true_and] at this)
       clear e0 A hk hg hlt
       obtain ⟨c1, c2, c3, c4, c5, c6, c7⟩ := M.out.cells
       go_wp2
       go_loopg [8, 9] zrn (fun g s9 _ wr => ∃ k : Nat, k ≤ zrn ∧ zrn - k ≤ g ∧ s9 = .int .i64 k ∧ Hid (TM w (.int .i64 zat) (.int .i64 1) (.string zl) (.slice zsa zsn zsc) (.string znm) (.slice zaa zan zac) (.slice zba 1 zbc) (.slice zra zrn zrc) wr) ∧ Hid (∀ (j : Nat) (x : ArmD), j < k → ar[j]? = some x → armR x = true))
       case atStart => exact ⟨0, Nat.zero_le _, by omega, rfl, M, hidIt fun j x hj => absurd hj (Nat.not_lt_zero _)⟩
       case round =>
        clear M c1 c2 c3 c4 c5 c6 c7
        obtain ⟨k, hk, hg, rfl, M, A⟩ := hrel
        by_cases hlt : k < zrn
        · obtain ⟨x, hx⟩ : ∃ x, ar[k]? = some x := ⟨_, List.getElem?_eq_getElem (by rw [LA.out]; exact hlt)⟩
          obtain ⟨b1, o1, rfl, g1⟩ := Sl.cell HA.out (j := k) (r := x.row) (by rw [List.getElem?_map, hx]; rfl)
          obtain ⟨c1, c2, c3, c4, c5, c6, c7⟩ := M.out.cells
          have hm := List.mem_of_getElem? hx
          have cv : Hid (Ans w 44 #[.string x.variant] (nameS x.variant)) := hidIt fun W hW => rname_any x.variant (fit_le (FA.out x hm).1) W
          have cl : Hid (Ans w 44 #[.string x.loc] (nameS x.loc)) := hidIt fun W hW => rname_any x.loc (fit_le (FA.out x hm).2.1) W
          have cb : Hid (Ans w 44 #[.string x.block] (nameS x.block)) := hidIt fun W hW => rname_any x.block (fit_le (FA.out x hm).2.2) W
          have Hx := hidIt hx
          have p0 := g1 wr M.out.bel 0 _ rfl
          have p1 := g1 wr M.out.bel 1 _ rfl
          have p2 := g1 wr M.out.bel 2 _ rfl
          rw [Nat.add_zero] at p0
          clear g1 hx hm
          go_upto_region 22 with fail
          have K1 : Hid (Kept wr [(wr.heap.size, Obj.cells #[.string x.variant, .string x.loc, .string x.block] 103 (0, 0))] (wr.alloc (.cells #[.string x.variant, .string x.loc, .string x.block] 103))) := hidIt (Kept.new (L := []) ⟨Below.refl _ wr, fun x hx => by cases hx⟩ _ 103)
          have M := hidIt (M.out.on (below_new wr (.cells #[.string x.variant, .string x.loc, .string x.block] 103)))
          clear p0 p1 p2 c1 c2 c3 c4 c5 c6 c7
          generalize wr.alloc (.cells #[.string x.variant, .string x.loc, .string x.block] 103) = W2 at K1 M ⊢
          obtain ⟨v0, v1, v2⟩ := arm_cells K1.out
          have T1 : Hid True := hidIt trivial
          have T2 : Hid True := hidIt trivial
          cases hv : nameS x.variant <;> cases hb : nameS x.block <;> cases he : (x.loc.toList == []) <;> cases hl : nameS x.loc
          all_goals
           as_aux_lemma =>
           rw [hv] at cv
           rw [hb] at cb
           rw [hl] at cl
           first
           | have HY : Hid (armR x = true) := hidIt (by unfold armR; rw [hv, hb, he, hl]; rfl)
             clear hv hb hl
             go_wp2_with (first | (go_at_call 44; have tk := T1; clear tk T1; refine (cv.out _ M.out.bel).mono ?_; rintro e y ⟨rfl, hq⟩; have K1 := hidIt (K1.out.on hq); have M := hidIt (M.out.on hq); clear hq v0 v1 v2; obtain ⟨v0, v1, v2⟩ := arm_cells K1.out) | (go_at_call 44; have tk := T2; clear tk T2; refine (cb.out _ M.out.bel).mono ?_; rintro e y ⟨rfl, hq⟩; have K1 := hidIt (K1.out.on hq); have M := hidIt (M.out.on hq); clear hq v0 v1 v2; obtain ⟨v0, v1, v2⟩ := arm_cells K1.out) | (go_at_call 44; refine (cl.out _ M.out.bel).mono ?_; rintro e y ⟨rfl, hq⟩; have K1 := hidIt (K1.out.on hq); have M := hidIt (M.out.on hq); clear hq v0 v1 v2; obtain ⟨v0, v1, v2⟩ := arm_cells K1.out))
             go_roundg (zrn - (k + 1))
             case measure => omega
             case rel =>
              refine ⟨k + 1, by omega, by omega, by go_num, M, hidIt fun j u hj hu => ?_⟩
              by_cases e : j = k
              · subst e
                obtain rfl : x = u := Option.some.inj (Hx.out.symm.trans hu)
                exact HY.out
              · exact A.out j u (by omega) hu
           | have hf : armR x = false := by unfold armR; rw [hv, hb, he, hl]; rfl
             obtain rfl : false = R := by rw [← HR.out, all_hit (r := armR) Hx.out hf]; rfl
             go_wp2_with (first | (go_at_call 44; have tk := T1; clear tk T1; refine (cv.out _ M.out.bel).mono ?_; rintro e y ⟨rfl, hq⟩; have K1 := hidIt (K1.out.on hq); have M := hidIt (M.out.on hq); clear hq v0 v1 v2; obtain ⟨v0, v1, v2⟩ := arm_cells K1.out) | (go_at_call 44; have tk := T2; clear tk T2; refine (cb.out _ M.out.bel).mono ?_; rintro e y ⟨rfl, hq⟩; have K1 := hidIt (K1.out.on hq); have M := hidIt (M.out.on hq); clear hq v0 v1 v2; obtain ⟨v0, v1, v2⟩ := arm_cells K1.out) | (go_at_call 44; refine (cl.out _ M.out.bel).mono ?_; rintro e y ⟨rfl, hq⟩; have K1 := hidIt (K1.out.on hq); have M := hidIt (M.out.on hq); clear hq v0 v1 v2; obtain ⟨v0, v1, v2⟩ := arm_cells K1.out))
             go_ret
             exact ⟨rfl, M.out.bel⟩
        · as_aux_lemma =>
          have : k = zrn := by omega
          subst this
          have e0 := all_none (r := armR) (xs := ar) fun j x hj => A.out j x (by have := (List.getElem?_eq_some_iff.1 hj).1; rw [LA.out] at this; exact this) hj
          have HR : Hid (decide (k = 0) = R) := hidIt (by have := HR.out; rwa [e0, Bool.true_and] at this)
          clear e0 A hk hg hlt
          obtain ⟨c1, c2, c3, c4, c5, c6, c7⟩ := M.out.cells
          have e9 : ((k : Int) == 0) = R := by
           rw [← HR.out]
           by_cases h : k = 0
           · rw [h]; rfl
           · rw [decide_eq_false h]; exact beq_eq_false_iff_ne.2 (by omega)
          go_wp2
          go_ret
          exact ⟨rfl, M.out.bel⟩
set_option maxHeartbeats 8000000 in
set_option maxRecDepth 100000 in
theorem docterm_2 (zat : Int) (zl : ByteArray) (zsa : Option Addr) (zsn zsc : Nat) (znm : ByteArray) (zaa : Option Addr) (zan zac : Nat) (zba : Option Addr) (zbn zbc : Nat) (zra : Option Addr) (zrn zrc : Nat) (w : World) (bl : List ByteArray) (ar : List ArmD) (pB aB tB : Bool)
 (HB : Hid (St w zba bl)) (HA : Hid (Ars w zra ar)) (LB : Hid (bl.length = zbn)) (LA : Hid (ar.length = zrn)) (FB : Hid (∀ s ∈ bl, fitS s)) (FA : Hid (∀ a ∈ ar, a.Fit))
 (C140 : Hid (Ans w 140 #[.slice zaa zan zac, .int .i64 1, .int .i64 1] pB))
 (C142 : Hid (Ans w 142 #[.agg #[.string zl, .slice zsa zsn zsc]] tB))
 (CN : Hid (Ans w 141 #[.string znm, .bool false] aB)) :
 Calls Tryz.prog 105 #[.agg #[.int .i64 zat, .int .i64 2, .string zl, .slice zsa zsn zsc, .string znm, .slice zaa zan zac, .slice zba zbn zbc, .slice zra zrn zrc]] w fun e w' => e = .returned (.bool (decide (zbn = 2) && (pB && (aB && (tB && (bl.all nameS && (ar.all armR && decide (zrn = 0)))))))) ∧ Below w.heap.size w w' := by
 have hbb : zbn ≤ 1048576 := by have := HB.out.big; rwa [LB.out] at this
 have hrb : zrn ≤ 1048576 := by have := Sl.big HA.out; rwa [List.length_map, LA.out] at this
 by_cases hz : zbn = 2
 rotate_left
 · have hd1 : decide ((zbn : Int) = 2) = false := decide_eq_false (by omega)
   rw [decide_eq_false hz]
   clear HB HA LB LA FB FA C140 C142 CN
   have K0 : Hid (Kept w [((w.alloc (.cells #[.int .i64 zat, .int .i64 2, .string zl, .slice zsa zsn zsc, .string znm, .slice zaa zan zac, .slice zba zbn zbc, .slice zra zrn zrc] 61)).heap.size + 1, Obj.cells #[.int .i64 0, .int .i64 1, .int .i64 2, .int .i64 0, .int .i64 1, .int .i64 1, .int .i64 1, .int .i64 0] 171 (0, 0)), ((w.alloc (.cells #[.int .i64 zat, .int .i64 2, .string zl, .slice zsa zsn zsc, .string znm, .slice zaa zan zac, .slice zba zbn zbc, .slice zra zrn zrc] 61)).heap.size, Obj.cells #[.int .i64 0, .int .i64 0, .int .i64 1, .int .i64 1, .int .i64 0, .int .i64 16, .int .i64 16, .int .i64 1] 171 (0, 0)), (w.heap.size, Obj.cells #[.int .i64 zat, .int .i64 2, .string zl, .slice zsa zsn zsc, .string znm, .slice zaa zan zac, .slice zba zbn zbc, .slice zra zrn zrc] 61 (0, 0))] (((w.alloc (.cells #[.int .i64 zat, .int .i64 2, .string zl, .slice zsa zsn zsc, .string znm, .slice zaa zan zac, .slice zba zbn zbc, .slice zra zrn zrc] 61)).alloc (.cells #[.int .i64 0, .int .i64 0, .int .i64 1, .int .i64 1, .int .i64 0, .int .i64 16, .int .i64 16, .int .i64 1] 171)).alloc (.cells #[.int .i64 0, .int .i64 1, .int .i64 2, .int .i64 0, .int .i64 1, .int .i64 1, .int .i64 1, .int .i64 0] 171))) := hidIt (by
    have h := Kept.new (Kept.new (Kept.new (L := []) ⟨Below.refl _ w, fun x hx => by cases hx⟩ #[.int .i64 zat, .int .i64 2, .string zl, .slice zsa zsn zsc, .string znm, .slice zaa zan zac, .slice zba zbn zbc, .slice zra zrn zrc] 61) #[.int .i64 0, .int .i64 0, .int .i64 1, .int .i64 1, .int .i64 0, .int .i64 16, .int .i64 16, .int .i64 1] 171) #[.int .i64 0, .int .i64 1, .int .i64 2, .int .i64 0, .int .i64 1, .int .i64 1, .int .i64 1, .int .i64 0] 171
    rwa [World.size_alloc (w.alloc _)] at h)
   rw [World.size_alloc] at K0
   go_enter Tryz.func105, Tryz.ntmps105
   go_upto_region 3 with fail
   generalize (((w.alloc (.cells #[.int .i64 zat, .int .i64 2, .string zl, .slice zsa zsn zsc, .string znm, .slice zaa zan zac, .slice zba zbn zbc, .slice zra zrn zrc] 61)).alloc (.cells #[.int .i64 0, .int .i64 0, .int .i64 1, .int .i64 1, .int .i64 0, .int .i64 16, .int .i64 16, .int .i64 1] 171)).alloc (.cells #[.int .i64 0, .int .i64 1, .int .i64 2, .int .i64 0, .int .i64 1, .int .i64 1, .int .i64 1, .int .i64 0] 171)) = W0 at K0 ⊢
   obtain ⟨-, c1, -, -, -, -, c6⟩ := cells_7 (K0.out.get 2 rfl)
   have c9 : W0.cell? ⟨w.heap.size + 1 + 1, 2, none⟩ = some (.int .i64 2) := cell_at (K0.out.get 0 rfl) 2
   go_quiet (fail)
   go_wp2
   go_ret
   exact ⟨rfl, below_next K0.out.1 (below_drewN _ _)⟩
 rw [decide_eq_true hz]
 subst hz
 rw [Bool.true_and]
 obtain ⟨R, hR⟩ : ∃ R, (pB && (aB && (tB && (bl.all nameS && (ar.all armR && decide (zrn = 0)))))) = R := ⟨_, rfl⟩
 rw [hR]
 have HR := hidIt hR
 clear hR
 have K0 : Hid (Kept w [((w.alloc (.cells #[.int .i64 zat, .int .i64 2, .string zl, .slice zsa zsn zsc, .string znm, .slice zaa zan zac, .slice zba 2 zbc, .slice zra zrn zrc] 61)).heap.size + 1, Obj.cells #[.int .i64 0, .int .i64 1, .int .i64 2, .int .i64 0, .int .i64 1, .int .i64 1, .int .i64 1, .int .i64 0] 171 (0, 0)), ((w.alloc (.cells #[.int .i64 zat, .int .i64 2, .string zl, .slice zsa zsn zsc, .string znm, .slice zaa zan zac, .slice zba 2 zbc, .slice zra zrn zrc] 61)).heap.size, Obj.cells #[.int .i64 0, .int .i64 0, .int .i64 1, .int .i64 1, .int .i64 0, .int .i64 16, .int .i64 16, .int .i64 1] 171 (0, 0)), (w.heap.size, Obj.cells #[.int .i64 zat, .int .i64 2, .string zl, .slice zsa zsn zsc, .string znm, .slice zaa zan zac, .slice zba 2 zbc, .slice zra zrn zrc] 61 (0, 0))] (((w.alloc (.cells #[.int .i64 zat, .int .i64 2, .string zl, .slice zsa zsn zsc, .string znm, .slice zaa zan zac, .slice zba 2 zbc, .slice zra zrn zrc] 61)).alloc (.cells #[.int .i64 0, .int .i64 0, .int .i64 1, .int .i64 1, .int .i64 0, .int .i64 16, .int .i64 16, .int .i64 1] 171)).alloc (.cells #[.int .i64 0, .int .i64 1, .int .i64 2, .int .i64 0, .int .i64 1, .int .i64 1, .int .i64 1, .int .i64 0] 171))) := hidIt (by
  have h := Kept.new (Kept.new (Kept.new (L := []) ⟨Below.refl _ w, fun x hx => by cases hx⟩ #[.int .i64 zat, .int .i64 2, .string zl, .slice zsa zsn zsc, .string znm, .slice zaa zan zac, .slice zba 2 zbc, .slice zra zrn zrc] 61) #[.int .i64 0, .int .i64 0, .int .i64 1, .int .i64 1, .int .i64 0, .int .i64 16, .int .i64 16, .int .i64 1] 171) #[.int .i64 0, .int .i64 1, .int .i64 2, .int .i64 0, .int .i64 1, .int .i64 1, .int .i64 1, .int .i64 0] 171
  rwa [World.size_alloc (w.alloc _)] at h)
 rw [World.size_alloc] at K0
 go_enter Tryz.func105, Tryz.ntmps105
 go_upto_region 3 with fail
 generalize (((w.alloc (.cells #[.int .i64 zat, .int .i64 2, .string zl, .slice zsa zsn zsc, .string znm, .slice zaa zan zac, .slice zba 2 zbc, .slice zra zrn zrc] 61)).alloc (.cells #[.int .i64 0, .int .i64 0, .int .i64 1, .int .i64 1, .int .i64 0, .int .i64 16, .int .i64 16, .int .i64 1] 171)).alloc (.cells #[.int .i64 0, .int .i64 1, .int .i64 2, .int .i64 0, .int .i64 1, .int .i64 1, .int .i64 1, .int .i64 0] 171)) = W0 at K0 ⊢
 obtain ⟨-, c1, -, -, -, -, c6⟩ := cells_7 (K0.out.get 2 rfl)
 have c9 : W0.cell? ⟨w.heap.size + 1 + 1, 2, none⟩ = some (.int .i64 2) := cell_at (K0.out.get 0 rfl) 2
 go_quiet (fail)
 have K0 := hidIt (keptN K0.out nq)
 clear c1 c6 c9
 generalize W0.drewN nq = W1 at K0 ⊢
 have sw : W1.cell? ⟨w.heap.size, 1, none⟩ = some (.int .i64 2) ∧ W1.cell? ⟨w.heap.size, 4, none⟩ = some (.string znm) ∧ W1.cell? ⟨w.heap.size, 5, none⟩ = some (.slice zaa zan zac) ∧ W1.cell? ⟨w.heap.size + 1, 2, none⟩ = some (.int .i64 1) := ⟨cell_at (K0.out.get 2 rfl) 1, cell_at (K0.out.get 2 rfl) 4, cell_at (K0.out.get 2 rfl) 5, cell_at (K0.out.get 1 rfl) 2⟩
 obtain ⟨c1, c4, c5, c9⟩ := sw
 go_upto_region 9 with fail
 have sw : W1.cell? ⟨w.heap.size, 1, none⟩ = some (.int .i64 2) ∧ W1.cell? ⟨w.heap.size, 4, none⟩ = some (.string znm) ∧ W1.cell? ⟨w.heap.size, 5, none⟩ = some (.slice zaa zan zac) ∧ W1.cell? ⟨w.heap.size + 1, 2, none⟩ = some (.int .i64 1) := ⟨c1, c4, c5, c9⟩
 have HK := hidIt K0.out.drew
 clear K0 c1 c4 c5 c9
 cases pB with
 | false =>
  as_aux_lemma =>
  obtain rfl : false = R := by rw [← HR.out]; rfl
  refine wp_region_held_drew (S := (fun W => W.cell? ⟨w.heap.size, 1, none⟩ = some (.int .i64 2) ∧ W.cell? ⟨w.heap.size, 4, none⟩ = some (.string znm) ∧ W.cell? ⟨w.heap.size, 5, none⟩ = some (.slice zaa zan zac) ∧ W.cell? ⟨w.heap.size + 1, 2, none⟩ = some (.int .i64 1))) (by kernel_rfl) sw (fun hHeld => ?_)
  clear sw
  refine wpAnyH_take (i := 0) (v := ?vv0) rfl (by kernel_rfl) (by kernel_rfl) (by kernel_rfl) (fun _ _ _ h => h) (Or.inl ⟨by rfl, ?yy0⟩) (by assumption) ?rr0
  case yy0 => intro w hSw; (try dsimp only at hSw); go_simp; first | done | with_reducible rfl
  (try simp only [Act.put, List.getElem_toArray, List.getElem_cons_zero, List.setIfInBounds_toArray, List.set_cons_zero, List.set_cons_succ])
  refine wpAnyH_take (i := 1) (v := ?vv1) rfl (by kernel_rfl) (by kernel_rfl) (by kernel_rfl) (fun _ _ _ h => h) (Or.inl ⟨by rfl, ?yy1⟩) (by assumption) ?rr1
  case yy1 => intro w hSw; (try dsimp only at hSw); go_simp; first | done | with_reducible rfl
  (try simp only [Act.put, List.getElem_toArray, List.getElem_cons_succ, List.getElem_cons_zero, List.setIfInBounds_toArray, List.set_cons_zero, List.set_cons_succ])
  refine wpAnyH_take (i := 2) (v := ?vv2) rfl (by kernel_rfl) (by kernel_rfl) (by kernel_rfl) (fun _ _ _ h => h) (Or.inl ⟨by rfl, ?yy2⟩) (by assumption) ?rr2
  case yy2 => intro w hSw; (try dsimp only at hSw); go_simp; first | done | with_reducible rfl
  (try simp only [Act.put, List.getElem_toArray, List.getElem_cons_succ, List.getElem_cons_zero, List.setIfInBounds_toArray, List.set_cons_zero, List.set_cons_succ])
  refine wpAnyH_take (i := 3) (v := ?vv3) rfl (by kernel_rfl) (by kernel_rfl) (by kernel_rfl) (fun _ _ _ h => h) (Or.inl ⟨by rfl, ?yy3⟩) (by assumption) ?rr3
  case yy3 => intro w hSw; (try dsimp only at hSw); go_simp; first | done | with_reducible rfl
  (try simp only [Act.put, List.getElem_toArray, List.getElem_cons_succ, List.getElem_cons_zero, List.setIfInBounds_toArray, List.set_cons_zero, List.set_cons_succ])
  refine wpAnyH_take (i := 4) (v := ?vv4) rfl (by kernel_rfl) (by kernel_rfl) (by kernel_rfl) (fun _ _ _ h => h) (Or.inl ⟨by rfl, ?yy4⟩) (by assumption) ?rr4
  case yy4 => intro w hSw; (try dsimp only at hSw); go_simp; first | done | with_reducible rfl
  (try simp only [Act.put, List.getElem_toArray, List.getElem_cons_succ, List.getElem_cons_zero, List.setIfInBounds_toArray, List.set_cons_zero, List.set_cons_succ])
  refine wpAnyH_take (i := 5) (v := ?vv5) rfl (by kernel_rfl) (by kernel_rfl) (by kernel_rfl) (fun _ _ _ h => h) (Or.inl ⟨by rfl, ?yy5⟩) (by assumption) ?rr5
  case yy5 => intro w hSw; (try dsimp only at hSw); go_simp; first | done | with_reducible rfl
  (try simp only [Act.put, List.getElem_toArray, List.getElem_cons_succ, List.getElem_cons_zero, List.setIfInBounds_toArray, List.set_cons_zero, List.set_cons_succ])
  refine wpAnyH_take (i := 6) (v := ?vv6) rfl (by kernel_rfl) (by kernel_rfl) (by kernel_rfl) (fun _ _ _ h => h) (Or.inl ⟨by rfl, ?yy6⟩) (by assumption) ?rr6
  case yy6 => intro w hSw; (try dsimp only at hSw); go_simp; first | done | with_reducible rfl
  (try simp only [Act.put, List.getElem_toArray, List.getElem_cons_succ, List.getElem_cons_zero, List.setIfInBounds_toArray, List.set_cons_zero, List.set_cons_succ])
  refine wpAnyH_ready (rs := [7]) (by kernel_rfl) (by simp) ?_
  refine AllReadyH.cons rfl (fun K hK => ?_) AllReadyH.nil
  go_simp
  go_at_call 140
  refine (C140.out _ HK.out.1).mono ?_
  rintro e y ⟨rfl, hq⟩
  have HK := hidIt (HK.out.on hq)
  have sS : y.cell? ⟨w.heap.size, 1, none⟩ = some (.int .i64 2) ∧ y.cell? ⟨w.heap.size, 4, none⟩ = some (.string znm) ∧ y.cell? ⟨w.heap.size, 5, none⟩ = some (.slice zaa zan zac) ∧ y.cell? ⟨w.heap.size + 1, 2, none⟩ = some (.int .i64 1) := ⟨cell_at (HK.out.get 2 rfl) 1, cell_at (HK.out.get 2 rfl) 4, cell_at (HK.out.get 2 rfl) 5, cell_at (HK.out.get 1 rfl) 2⟩
  clear hq
  refine hK.out _ _ sS (fun hHeld => ?_)
  clear hK K
  (try simp only [Act.put, List.getElem_toArray, List.getElem_cons_succ, List.getElem_cons_zero, List.setIfInBounds_toArray, List.set_cons_zero, List.set_cons_succ])
  refine wpAnyH_take (i := 8) (v := ?vv8) rfl (by kernel_rfl) (by kernel_rfl) (by kernel_rfl) (fun _ _ _ h => h) (Or.inl ⟨by rfl, ?yy8⟩) (by assumption) ?rr8
  case yy8 => intro w hSw; (try dsimp only at hSw); go_simp; first | done | with_reducible rfl
  (try simp only [Act.put, List.getElem_toArray, List.getElem_cons_succ, List.getElem_cons_zero, List.setIfInBounds_toArray, List.set_cons_zero, List.set_cons_succ])
  refine wpAnyH_take (i := 9) (v := ?vv9) rfl (by kernel_rfl) (by kernel_rfl) (by kernel_rfl) (fun _ _ _ h => h) (Or.inl ⟨by rfl, ?yy9⟩) (by assumption) ?rr9
  case yy9 => intro w hSw; (try dsimp only at hSw); go_simp; first | done | with_reducible rfl
  (try simp only [Act.put, List.getElem_toArray, List.getElem_cons_succ, List.getElem_cons_zero, List.setIfInBounds_toArray, List.set_cons_zero, List.set_cons_succ])
  refine wpAnyH_take (i := 10) (v := undef) rfl (by kernel_rfl) (by kernel_rfl) (by kernel_rfl) (fun _ _ _ h => h) (Or.inr ⟨by rfl, rfl⟩) (by assumption) ?_
  (try simp only [Act.put, List.getElem_toArray, List.getElem_cons_succ, List.getElem_cons_zero, List.setIfInBounds_toArray, List.set_cons_zero, List.set_cons_succ])
  refine wpAnyH_take (i := 11) (v := undef) rfl (by kernel_rfl) (by kernel_rfl) (by kernel_rfl) (fun _ _ _ h => h) (Or.inr ⟨by rfl, rfl⟩) (by assumption) ?_
  (try simp only [Act.put, List.getElem_toArray, List.getElem_cons_succ, List.getElem_cons_zero, List.setIfInBounds_toArray, List.set_cons_zero, List.set_cons_succ])
  refine wpAnyH_take (i := 12) (v := undef) rfl (by kernel_rfl) (by kernel_rfl) (by kernel_rfl) (fun _ _ _ h => h) (Or.inr ⟨by rfl, rfl⟩) (by assumption) ?_
  (try simp only [Act.put, List.getElem_toArray, List.getElem_cons_succ, List.getElem_cons_zero, List.setIfInBounds_toArray, List.set_cons_zero, List.set_cons_succ])
  refine wpAnyH_ready (rs := [13]) (by kernel_rfl) (by simp) ?_
  refine AllReadyH.cons rfl (fun K hK => ?_) AllReadyH.nil
  go_simp
  refine hK.out _ _ (by assumption) (fun hHeld => ?_)
  clear hK K
  (try simp only [Act.put, List.getElem_toArray, List.getElem_cons_succ, List.getElem_cons_zero, List.setIfInBounds_toArray, List.set_cons_zero, List.set_cons_succ])
  refine wpAnyH_take (i := 14) (v := undef) rfl (by kernel_rfl) (by kernel_rfl) (by kernel_rfl) (fun _ _ _ h => h) (Or.inr ⟨by rfl, rfl⟩) (by assumption) ?_
  (try simp only [Act.put, List.getElem_toArray, List.getElem_cons_succ, List.getElem_cons_zero, List.setIfInBounds_toArray, List.set_cons_zero, List.set_cons_succ])
  refine wpAnyH_take (i := 15) (v := ?vv15) rfl (by kernel_rfl) (by kernel_rfl) (by kernel_rfl) (fun _ _ _ h => h) (Or.inl ⟨by rfl, ?yy15⟩) (by assumption) ?rr15
  case yy15 => intro w hSw; (try dsimp only at hSw); go_simp; first | done | with_reducible rfl
  (try simp only [Act.put, List.getElem_toArray, List.getElem_cons_succ, List.getElem_cons_zero, List.setIfInBounds_toArray, List.set_cons_zero, List.set_cons_succ])
  refine wpAnyH_done (by kernel_rfl) ?_ _
  (try simp only [Act.put, List.getElem_toArray, List.getElem_cons_succ, List.getElem_cons_zero, List.setIfInBounds_toArray])
  go_wp2
  go_ret
  exact ⟨rfl, HK.out.1⟩
 | true =>
  cases aB with
  | false =>
   as_aux_lemma =>
   obtain rfl : false = R := by rw [← HR.out]; rfl
   go_region_held3 (fun W => W.cell? ⟨w.heap.size, 1, none⟩ = some (.int .i64 2) ∧ W.cell? ⟨w.heap.size, 4, none⟩ = some (.string znm) ∧ W.cell? ⟨w.heap.size, 5, none⟩ = some (.slice zaa zan zac) ∧ W.cell? ⟨w.heap.size + 1, 2, none⟩ = some (.int .i64 1)) (go_keep)
    (first
    | (go_at_call 140; refine (C140.out _ HK.out.1).mono ?_; rintro e y ⟨rfl, hq⟩; have HK := hidIt (HK.out.on hq); have sS : y.cell? ⟨w.heap.size, 1, none⟩ = some (.int .i64 2) ∧ y.cell? ⟨w.heap.size, 4, none⟩ = some (.string znm) ∧ y.cell? ⟨w.heap.size, 5, none⟩ = some (.slice zaa zan zac) ∧ y.cell? ⟨w.heap.size + 1, 2, none⟩ = some (.int .i64 1) := ⟨cell_at (HK.out.get 2 rfl) 1, cell_at (HK.out.get 2 rfl) 4, cell_at (HK.out.get 2 rfl) 5, cell_at (HK.out.get 1 rfl) 2⟩; clear hq)
    | (go_at_call 141; refine (CN.out _ HK.out.1).mono ?_; rintro e y ⟨rfl, hq⟩; have HK := hidIt (HK.out.on hq); have sS : y.cell? ⟨w.heap.size, 1, none⟩ = some (.int .i64 2) ∧ y.cell? ⟨w.heap.size, 4, none⟩ = some (.string znm) ∧ y.cell? ⟨w.heap.size, 5, none⟩ = some (.slice zaa zan zac) ∧ y.cell? ⟨w.heap.size + 1, 2, none⟩ = some (.int .i64 1) := ⟨cell_at (HK.out.get 2 rfl) 1, cell_at (HK.out.get 2 rfl) 4, cell_at (HK.out.get 2 rfl) 5, cell_at (HK.out.get 1 rfl) 2⟩; clear hq))
   go_wp2
   go_ret
   exact ⟨rfl, HK.out.1⟩
  | true =>
   go_region_held3 (fun W => W.cell? ⟨w.heap.size, 1, none⟩ = some (.int .i64 2) ∧ W.cell? ⟨w.heap.size, 4, none⟩ = some (.string znm) ∧ W.cell? ⟨w.heap.size, 5, none⟩ = some (.slice zaa zan zac) ∧ W.cell? ⟨w.heap.size + 1, 2, none⟩ = some (.int .i64 1)) (go_keep)
    (first
    | (go_at_call 140; refine (C140.out _ HK.out.1).mono ?_; rintro e y ⟨rfl, hq⟩; have HK := hidIt (HK.out.on hq); have sS : y.cell? ⟨w.heap.size, 1, none⟩ = some (.int .i64 2) ∧ y.cell? ⟨w.heap.size, 4, none⟩ = some (.string znm) ∧ y.cell? ⟨w.heap.size, 5, none⟩ = some (.slice zaa zan zac) ∧ y.cell? ⟨w.heap.size + 1, 2, none⟩ = some (.int .i64 1) := ⟨cell_at (HK.out.get 2 rfl) 1, cell_at (HK.out.get 2 rfl) 4, cell_at (HK.out.get 2 rfl) 5, cell_at (HK.out.get 1 rfl) 2⟩; clear hq)
    | (go_at_call 141; refine (CN.out _ HK.out.1).mono ?_; rintro e y ⟨rfl, hq⟩; have HK := hidIt (HK.out.on hq); have sS : y.cell? ⟨w.heap.size, 1, none⟩ = some (.int .i64 2) ∧ y.cell? ⟨w.heap.size, 4, none⟩ = some (.string znm) ∧ y.cell? ⟨w.heap.size, 5, none⟩ = some (.slice zaa zan zac) ∧ y.cell? ⟨w.heap.size + 1, 2, none⟩ = some (.int .i64 1) := ⟨cell_at (HK.out.get 2 rfl) 1, cell_at (HK.out.get 2 rfl) 4, cell_at (HK.out.get 2 rfl) 5, cell_at (HK.out.get 1 rfl) 2⟩; clear hq))
   have M : Hid (TM w (.int .i64 zat) (.int .i64 2) (.string zl) (.slice zsa zsn zsc) (.string znm) (.slice zaa zan zac) (.slice zba 2 zbc) (.slice zra zrn zrc) y) := hidIt ⟨HK.out.1, HK.out.get 2 rfl⟩
   clear HK C140 CN
   obtain ⟨c1, c2, c3, c4, c5, c6, c7⟩ := M.out.cells
   cases tB with
   | false =>
    as_aux_lemma =>
    obtain rfl : false = R := by rw [← HR.out]; rfl
    go_wp2_with (first | (go_at_call 142; refine (C142.out _ M.out.bel).mono ?_; rintro e y ⟨rfl, hq⟩; have M := hidIt (M.out.on hq); clear hq c1 c2 c3 c4 c5 c6 c7; obtain ⟨c1, c2, c3, c4, c5, c6, c7⟩ := M.out.cells))
    go_ret
    exact ⟨rfl, M.out.bel⟩
   | true =>
    as_aux_lemma =>
    have HR : Hid ((bl.all nameS && (ar.all armR && decide (zrn = 0))) = R) := HR
    go_wp2_with (first | (go_at_call 142; refine (C142.out _ M.out.bel).mono ?_; rintro e y ⟨rfl, hq⟩; have M := hidIt (M.out.on hq); clear hq c1 c2 c3 c4 c5 c6 c7; obtain ⟨c1, c2, c3, c4, c5, c6, c7⟩ := M.out.cells))
    clear C142
    go_loopg [7] 2 (fun g s8 wr => ∃ k : Nat, k ≤ 2 ∧ 2 - k ≤ g ∧ s8 = .int .i64 k ∧ Hid (TM w (.int .i64 zat) (.int .i64 2) (.string zl) (.slice zsa zsn zsc) (.string znm) (.slice zaa zan zac) (.slice zba 2 zbc) (.slice zra zrn zrc) wr) ∧ Hid (∀ (j : Nat) (x : ByteArray), j < k → bl[j]? = some x → nameS x = true))
    case atStart => exact ⟨0, Nat.zero_le _, by omega, rfl, M, hidIt fun j x hj => absurd hj (Nat.not_lt_zero _)⟩
    case round =>
     clear M c1 c2 c3 c4 c5 c6 c7
     obtain ⟨k, hk, hg, rfl, M, A⟩ := hrel
     by_cases hlt : k < 2
     · obtain ⟨x, hx⟩ : ∃ x, bl[k]? = some x := ⟨_, List.getElem?_eq_getElem (by rw [LB.out]; exact hlt)⟩
       obtain ⟨b1, o1, rfl, g1⟩ := St.cell HB.out hx
       obtain ⟨c1, c2, c3, c4, c5, c6, c7⟩ := M.out.cells
       have hm := List.mem_of_getElem? hx
       have c44 : Hid (Ans w 44 #[.string x] (nameS x)) := hidIt fun W hW => rname_any x (fit_le (FB.out x hm)) W
       have Hx := hidIt hx
       have p0 := g1 wr M.out.bel
       clear g1 hx hm
       cases hq : nameS x with
       | false =>
        as_aux_lemma =>
        obtain rfl : false = R := by rw [← HR.out, all_hit (r := nameS) Hx.out hq]; rfl
        rw [hq] at c44
        go_wp2_with (first | (go_at_call 44; refine (c44.out _ M.out.bel).mono ?_; rintro e y ⟨rfl, hq⟩; have M := hidIt (M.out.on hq); clear hq c1 c2 c3 c4 c5 c6 c7; obtain ⟨c1, c2, c3, c4, c5, c6, c7⟩ := M.out.cells))
        go_ret
        exact ⟨rfl, M.out.bel⟩
       | true =>
        as_aux_lemma =>
        rw [hq] at c44
        have HQ := hidIt hq
        clear hq
        go_wp2_with (first | (go_at_call 44; refine (c44.out _ M.out.bel).mono ?_; rintro e y ⟨rfl, hq⟩; have M := hidIt (M.out.on hq); clear hq c1 c2 c3 c4 c5 c6 c7; obtain ⟨c1, c2, c3, c4, c5, c6, c7⟩ := M.out.cells))
        go_roundg (2 - (k + 1))
        case measure => omega
        case rel =>
         refine ⟨k + 1, by omega, by omega, by go_num, M, hidIt fun j u hj hu => ?_⟩
         by_cases e : j = k
         · subst e
           obtain rfl : x = u := Option.some.inj (Hx.out.symm.trans hu)
           exact HQ.out
         · exact A.out j u (by omega) hu
     · as_aux_lemma =>
       have : k = 2 := by omega
       subst this
       have e0 := all_none (r := nameS) (xs := bl) fun j x hj => A.out j x (by have := (List.getElem?_eq_some_iff.1 hj).1; rw [LB.out] at this; exact this) hj
       have HR : Hid ((ar.all armR && decide (zrn = 0)) = R) := hidIt (by have := HR.out; rwa [e0, Bool.true_and] at this)
       clear e0 A hk hg hlt
       obtain ⟨c1, c2, c3, c4, c5, c6, c7⟩ := M.out.cells
       go_wp2
       go_loopg [8, 9] zrn (fun g s9 _ wr => ∃ k : Nat, k ≤ zrn ∧ zrn - k ≤ g ∧ s9 = .int .i64 k ∧ Hid (TM w (.int .i64 zat) (.int .i64 2) (.string zl) (.slice zsa zsn zsc) (.string znm) (.slice zaa zan zac) (.slice zba 2 zbc) (.slice zra zrn zrc) wr) ∧ Hid (∀ (j : Nat) (x : ArmD), j < k → ar[j]? = some x → armR x = true))
       case atStart => exact ⟨0, Nat.zero_le _, by omega, rfl, M, hidIt fun j x hj => absurd hj (Nat.not_lt_zero _)⟩
       case round =>
        clear M c1 c2 c3 c4 c5 c6 c7
        obtain ⟨k, hk, hg, rfl, M, A⟩ := hrel
        by_cases hlt : k < zrn
        · obtain ⟨x, hx⟩ : ∃ x, ar[k]? = some x := ⟨_, List.getElem?_eq_getElem (by rw [LA.out]; exact hlt)⟩
          obtain ⟨b1, o1, rfl, g1⟩ := Sl.cell HA.out (j := k) (r := x.row) (by rw [List.getElem?_map, hx]; rfl)
          obtain ⟨c1, c2, c3, c4, c5, c6, c7⟩ := M.out.cells
          have hm := List.mem_of_getElem? hx
          have cv : Hid (Ans w 44 #[.string x.variant] (nameS x.variant)) := hidIt fun W hW => rname_any x.variant (fit_le (FA.out x hm).1) W
          have cl : Hid (Ans w 44 #[.string x.loc] (nameS x.loc)) := hidIt fun W hW => rname_any x.loc (fit_le (FA.out x hm).2.1) W
          have cb : Hid (Ans w 44 #[.string x.block] (nameS x.block)) := hidIt fun W hW => rname_any x.block (fit_le (FA.out x hm).2.2) W
          have Hx := hidIt hx
          have p0 := g1 wr M.out.bel 0 _ rfl
          have p1 := g1 wr M.out.bel 1 _ rfl
          have p2 := g1 wr M.out.bel 2 _ rfl
          rw [Nat.add_zero] at p0
          clear g1 hx hm
          go_upto_region 22 with fail
          have K1 : Hid (Kept wr [(wr.heap.size, Obj.cells #[.string x.variant, .string x.loc, .string x.block] 103 (0, 0))] (wr.alloc (.cells #[.string x.variant, .string x.loc, .string x.block] 103))) := hidIt (Kept.new (L := []) ⟨Below.refl _ wr, fun x hx => by cases hx⟩ _ 103)
          have M := hidIt (M.out.on (below_new wr (.cells #[.string x.variant, .string x.loc, .string x.block] 103)))
          clear p0 p1 p2 c1 c2 c3 c4 c5 c6 c7
          generalize wr.alloc (.cells #[.string x.variant, .string x.loc, .string x.block] 103) = W2 at K1 M ⊢
          obtain ⟨v0, v1, v2⟩ := arm_cells K1.out
          have T1 : Hid True := hidIt trivial
          have T2 : Hid True := hidIt trivial
          cases hv : nameS x.variant <;> cases hb : nameS x.block <;> cases he : (x.loc.toList == []) <;> cases hl : nameS x.loc
          all_goals
           as_aux_lemma =>
           rw [hv] at cv
           rw [hb] at cb
           rw [hl] at cl
           first
           | have HY : Hid (armR x = true) := hidIt (by unfold armR; rw [hv, hb, he, hl]; rfl)
             clear hv hb hl
             go_wp2_with (first | (go_at_call 44; have tk := T1; clear tk T1; refine (cv.out _ M.out.bel).mono ?_; rintro e y ⟨rfl, hq⟩; have K1 := hidIt (K1.out.on hq); have M := hidIt (M.out.on hq); clear hq v0 v1 v2; obtain ⟨v0, v1, v2⟩ := arm_cells K1.out) | (go_at_call 44; have tk := T2; clear tk T2; refine (cb.out _ M.out.bel).mono ?_; rintro e y ⟨rfl, hq⟩; have K1 := hidIt (K1.out.on hq); have M := hidIt (M.out.on hq); clear hq v0 v1 v2; obtain ⟨v0, v1, v2⟩ := arm_cells K1.out) | (go_at_call 44; refine (cl.out _ M.out.bel).mono ?_; rintro e y ⟨rfl, hq⟩; have K1 := hidIt (K1.out.on hq); have M := hidIt (M.out.on hq); clear hq v0 v1 v2; obtain ⟨v0, v1, v2⟩ := arm_cells K1.out))
             go_roundg (zrn - (k + 1))
             case measure => omega
             case rel =>
              refine ⟨k + 1, by omega, by omega, by go_num, M, hidIt fun j u hj hu => ?_⟩
              by_cases e : j = k
              · subst e
                obtain rfl : x = u := Option.some.inj (Hx.out.symm.trans hu)
                exact HY.out
              · exact A.out j u (by omega) hu
           | have hf : armR x = false := by unfold armR; rw [hv, hb, he, hl]; rfl
             obtain rfl : false = R := by rw [← HR.out, all_hit (r := armR) Hx.out hf]; rfl
             go_wp2_with (first | (go_at_call 44; have tk := T1; clear tk T1; refine (cv.out _ M.out.bel).mono ?_; rintro e y ⟨rfl, hq⟩; have K1 := hidIt (K1.out.on hq); have M := hidIt (M.out.on hq); clear hq v0 v1 v2; obtain ⟨v0, v1, v2⟩ := arm_cells K1.out) | (go_at_call 44; have tk := T2; clear tk T2; refine (cb.out _ M.out.bel).mono ?_; rintro e y ⟨rfl, hq⟩; have K1 := hidIt (K1.out.on hq); have M := hidIt (M.out.on hq); clear hq v0 v1 v2; obtain ⟨v0, v1, v2⟩ := arm_cells K1.out) | (go_at_call 44; refine (cl.out _ M.out.bel).mono ?_; rintro e y ⟨rfl, hq⟩; have K1 := hidIt (K1.out.on hq); have M := hidIt (M.out.on hq); clear hq v0 v1 v2; obtain ⟨v0, v1, v2⟩ := arm_cells K1.out))
             go_ret
             exact ⟨rfl, M.out.bel⟩
        · as_aux_lemma =>
          have : k = zrn := by omega
          subst this
          have e0 := all_none (r := armR) (xs := ar) fun j x hj => A.out j x (by have := (List.getElem?_eq_some_iff.1 hj).1; rw [LA.out] at this; exact this) hj
          have HR : Hid (decide (k = 0) = R) := hidIt (by have := HR.out; rwa [e0, Bool.true_and] at this)
          clear e0 A hk hg hlt
          obtain ⟨c1, c2, c3, c4, c5, c6, c7⟩ := M.out.cells
          have e9 : ((k : Int) == 0) = R := by
           rw [← HR.out]
           by_cases h : k = 0
           · rw [h]; rfl
           · rw [decide_eq_false h]; exact beq_eq_false_iff_ne.2 (by omega)
          go_wp2
          go_ret
          exact ⟨rfl, M.out.bel⟩
end Go.Proofs.YtlppbgmcoknliaaGreatDoor
