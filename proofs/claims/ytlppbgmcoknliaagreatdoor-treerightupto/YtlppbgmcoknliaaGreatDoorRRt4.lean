/-
  The walk of the document's own Stmt: is a statement one?
-/
import Derived.Test.YtlppbgmcoknliaaGreatDoorRSm
import Derived.Test.YtlppbgmcoknliaaGreatDoorRgt2
import Derived.Test.YtlppbgmcoknliaaGreatDoorKy4
import Derived.Deep.RegionHeld3
namespace Go.Proofs.YtlppbgmcoknliaaGreatDoor
set_option linter.unusedVariables false
open Go.RowKit

set_option maxHeartbeats 8000000 in
set_option maxRecDepth 100000 in
theorem docstmt_6 (zat : Int) (zl : ByteArray) (zsa : Option Addr) (zsn zsc : Nat) (zn : Int) (znm zv : ByteArray) (zaa : Option Addr) (zan zac : Nat) (w : World) (pB tB nB aB vB : Bool)
 (C140 : Hid (Ans w 140 #[.slice zaa zan zac, .int .i64 1, .int .i64 1] pB))
 (C18 : Hid (Ans w 18 #[.agg #[.string zl, .slice zsa zsn zsc]] tB))
 (C142 : Hid (Ans w 142 #[.agg #[.string zl, .slice zsa zsn zsc]] nB))
 (CN : Hid (Ans w 141 #[.string znm, .bool false] aB))
 (CV : Hid (Ans w 141 #[.string zv, .bool false] vB)) :
 Calls Tryz.prog 106 #[.agg #[.int .i64 zat, .int .i64 6, .string zl, .slice zsa zsn zsc, .int .i64 zn, .string znm, .string zv, .slice zaa zan zac]] w fun e w' => e = .returned (.bool (pB && (tB && (rnumR zn false && (aB && vB))))) ∧ Below w.heap.size w w' := by
 have K0 : Hid (Kept w [((w.alloc (.cells #[.int .i64 zat, .int .i64 6, .string zl, .slice zsa zsn zsc, .int .i64 zn, .string znm, .string zv, .slice zaa zan zac] 68)).heap.size + 1, Obj.cells #[.int .i64 0, .int .i64 0, .int .i64 2, .int .i64 2, .int .i64 2, .int .i64 1, .int .i64 1, .int .i64 16, .int .i64 1, .int .i64 1, .int .i64 1, .int .i64 1] 174 (0, 0)), ((w.alloc (.cells #[.int .i64 zat, .int .i64 6, .string zl, .slice zsa zsn zsc, .int .i64 zn, .string znm, .string zv, .slice zaa zan zac] 68)).heap.size, Obj.cells #[.int .i64 0, .int .i64 0, .int .i64 2, .int .i64 2, .int .i64 2, .int .i64 1, .int .i64 1, .int .i64 0, .int .i64 0, .int .i64 1, .int .i64 1, .int .i64 1] 174 (0, 0)), (w.heap.size, Obj.cells #[.int .i64 zat, .int .i64 6, .string zl, .slice zsa zsn zsc, .int .i64 zn, .string znm, .string zv, .slice zaa zan zac] 68 (0, 0))] (((w.alloc (.cells #[.int .i64 zat, .int .i64 6, .string zl, .slice zsa zsn zsc, .int .i64 zn, .string znm, .string zv, .slice zaa zan zac] 68)).alloc (.cells #[.int .i64 0, .int .i64 0, .int .i64 2, .int .i64 2, .int .i64 2, .int .i64 1, .int .i64 1, .int .i64 0, .int .i64 0, .int .i64 1, .int .i64 1, .int .i64 1] 174)).alloc (.cells #[.int .i64 0, .int .i64 0, .int .i64 2, .int .i64 2, .int .i64 2, .int .i64 1, .int .i64 1, .int .i64 16, .int .i64 1, .int .i64 1, .int .i64 1, .int .i64 1] 174))) := hidIt (by
  have h := Kept.new (Kept.new (Kept.new (L := []) ⟨Below.refl _ w, fun x hx => by cases hx⟩ #[.int .i64 zat, .int .i64 6, .string zl, .slice zsa zsn zsc, .int .i64 zn, .string znm, .string zv, .slice zaa zan zac] 68) #[.int .i64 0, .int .i64 0, .int .i64 2, .int .i64 2, .int .i64 2, .int .i64 1, .int .i64 1, .int .i64 0, .int .i64 0, .int .i64 1, .int .i64 1, .int .i64 1] 174) #[.int .i64 0, .int .i64 0, .int .i64 2, .int .i64 2, .int .i64 2, .int .i64 1, .int .i64 1, .int .i64 16, .int .i64 1, .int .i64 1, .int .i64 1, .int .i64 1] 174
  rwa [World.size_alloc (w.alloc _)] at h)
 rw [World.size_alloc] at K0
 go_enter Tryz.func106, Tryz.ntmps106
 go_upto_region 3 with fail
 generalize (((w.alloc (.cells #[.int .i64 zat, .int .i64 6, .string zl, .slice zsa zsn zsc, .int .i64 zn, .string znm, .string zv, .slice zaa zan zac] 68)).alloc (.cells #[.int .i64 0, .int .i64 0, .int .i64 2, .int .i64 2, .int .i64 2, .int .i64 1, .int .i64 1, .int .i64 0, .int .i64 0, .int .i64 1, .int .i64 1, .int .i64 1] 174)).alloc (.cells #[.int .i64 0, .int .i64 0, .int .i64 2, .int .i64 2, .int .i64 2, .int .i64 1, .int .i64 1, .int .i64 16, .int .i64 1, .int .i64 1, .int .i64 1, .int .i64 1] 174)) = W0 at K0 ⊢
 have sw : W0.cell? ⟨w.heap.size, 1, none⟩ = some (.int .i64 6) ∧ W0.cell? ⟨w.heap.size, 7, none⟩ = some (.slice zaa zan zac) ∧ W0.cell? ⟨w.heap.size + 1, 6, none⟩ = some (.int .i64 1) ∧ W0.cell? ⟨w.heap.size + 1 + 1, 6, none⟩ = some (.int .i64 1) := ⟨cell_at (K0.out.get 2 rfl) 1, cell_at (K0.out.get 2 rfl) 7, cell_at (K0.out.get 1 rfl) 6, cell_at (K0.out.get 0 rfl) 6⟩
 have HK := hidIt K0.out.drew
 clear K0
 go_region_held3 (fun W => W.cell? ⟨w.heap.size, 1, none⟩ = some (.int .i64 6) ∧ W.cell? ⟨w.heap.size, 7, none⟩ = some (.slice zaa zan zac) ∧ W.cell? ⟨w.heap.size + 1, 6, none⟩ = some (.int .i64 1) ∧ W.cell? ⟨w.heap.size + 1 + 1, 6, none⟩ = some (.int .i64 1)) (go_keep)
  (first
  | (go_at_call 140; refine (C140.out _ HK.out.1).mono ?_; rintro e y ⟨rfl, hq⟩; have HK := hidIt (HK.out.on hq); have sS : y.cell? ⟨w.heap.size, 1, none⟩ = some (.int .i64 6) ∧ y.cell? ⟨w.heap.size, 7, none⟩ = some (.slice zaa zan zac) ∧ y.cell? ⟨w.heap.size + 1, 6, none⟩ = some (.int .i64 1) ∧ y.cell? ⟨w.heap.size + 1 + 1, 6, none⟩ = some (.int .i64 1) := ⟨cell_at (HK.out.get 2 rfl) 1, cell_at (HK.out.get 2 rfl) 7, cell_at (HK.out.get 1 rfl) 6, cell_at (HK.out.get 0 rfl) 6⟩; clear hq))
 have M : Hid (SM w (.int .i64 zat) (.int .i64 6) (.string zl) (.slice zsa zsn zsc) (.int .i64 zn) (.string znm) (.string zv) (.slice zaa zan zac) y) := hidIt ⟨HK.out.1, HK.out.get 2 rfl⟩
 clear HK C140
 obtain ⟨c1, c2, c3, c4, c5, c6, c7⟩ := M.out.cells
 cases pB with
 | false =>
  as_aux_lemma =>
  go_wp2
  go_ret
  exact ⟨rfl, M.out.bel⟩
 | true =>
  have K1 : Hid True := hidIt trivial
  cases hz : (zn == 0)
  all_goals
   have hr := hidIt (show rnumR zn false = _ from hz)
   cases tB <;> cases aB
   all_goals
    as_aux_lemma =>
    go_wp2_with (first | (go_at_call 18; refine (C18.out _ M.out.bel).mono ?_; rintro e y ⟨rfl, hq⟩; have M := hidIt (M.out.on hq); clear hq c1 c2 c3 c4 c5 c6 c7; obtain ⟨c1, c2, c3, c4, c5, c6, c7⟩ := M.out.cells) | (go_at_call 141; have tk := K1; clear tk K1; refine (CN.out _ M.out.bel).mono ?_; rintro e y ⟨rfl, hq⟩; have M := hidIt (M.out.on hq); clear hq c1 c2 c3 c4 c5 c6 c7; obtain ⟨c1, c2, c3, c4, c5, c6, c7⟩ := M.out.cells) | (go_at_call 141; refine (CV.out _ M.out.bel).mono ?_; rintro e y ⟨rfl, hq⟩; have M := hidIt (M.out.on hq); clear hq c1 c2 c3 c4 c5 c6 c7; obtain ⟨c1, c2, c3, c4, c5, c6, c7⟩ := M.out.cells))
    go_ret
    first
    | exact ⟨rfl, M.out.bel⟩
    | exact ⟨by rw [hr.out]; rfl, M.out.bel⟩
    | exact ⟨by rw [hr.out]; cases vB <;> rfl, M.out.bel⟩

set_option maxHeartbeats 8000000 in
set_option maxRecDepth 100000 in
theorem docstmt_7 (zat : Int) (zl : ByteArray) (zsa : Option Addr) (zsn zsc : Nat) (zn : Int) (znm zv : ByteArray) (zaa : Option Addr) (zan zac : Nat) (w : World) (pB tB nB aB vB : Bool)
 (C140 : Hid (Ans w 140 #[.slice zaa zan zac, .int .i64 0, .int .i64 16] pB))
 (C18 : Hid (Ans w 18 #[.agg #[.string zl, .slice zsa zsn zsc]] tB))
 (C142 : Hid (Ans w 142 #[.agg #[.string zl, .slice zsa zsn zsc]] nB))
 (CN : Hid (Ans w 141 #[.string znm, .bool true] aB))
 (CV : Hid (Ans w 141 #[.string zv, .bool false] vB)) :
 Calls Tryz.prog 106 #[.agg #[.int .i64 zat, .int .i64 7, .string zl, .slice zsa zsn zsc, .int .i64 zn, .string znm, .string zv, .slice zaa zan zac]] w fun e w' => e = .returned (.bool (pB && (tB && (rnumR zn false && (aB && vB))))) ∧ Below w.heap.size w w' := by
 have K0 : Hid (Kept w [((w.alloc (.cells #[.int .i64 zat, .int .i64 7, .string zl, .slice zsa zsn zsc, .int .i64 zn, .string znm, .string zv, .slice zaa zan zac] 68)).heap.size + 1, Obj.cells #[.int .i64 0, .int .i64 0, .int .i64 2, .int .i64 2, .int .i64 2, .int .i64 1, .int .i64 1, .int .i64 16, .int .i64 1, .int .i64 1, .int .i64 1, .int .i64 1] 174 (0, 0)), ((w.alloc (.cells #[.int .i64 zat, .int .i64 7, .string zl, .slice zsa zsn zsc, .int .i64 zn, .string znm, .string zv, .slice zaa zan zac] 68)).heap.size, Obj.cells #[.int .i64 0, .int .i64 0, .int .i64 2, .int .i64 2, .int .i64 2, .int .i64 1, .int .i64 1, .int .i64 0, .int .i64 0, .int .i64 1, .int .i64 1, .int .i64 1] 174 (0, 0)), (w.heap.size, Obj.cells #[.int .i64 zat, .int .i64 7, .string zl, .slice zsa zsn zsc, .int .i64 zn, .string znm, .string zv, .slice zaa zan zac] 68 (0, 0))] (((w.alloc (.cells #[.int .i64 zat, .int .i64 7, .string zl, .slice zsa zsn zsc, .int .i64 zn, .string znm, .string zv, .slice zaa zan zac] 68)).alloc (.cells #[.int .i64 0, .int .i64 0, .int .i64 2, .int .i64 2, .int .i64 2, .int .i64 1, .int .i64 1, .int .i64 0, .int .i64 0, .int .i64 1, .int .i64 1, .int .i64 1] 174)).alloc (.cells #[.int .i64 0, .int .i64 0, .int .i64 2, .int .i64 2, .int .i64 2, .int .i64 1, .int .i64 1, .int .i64 16, .int .i64 1, .int .i64 1, .int .i64 1, .int .i64 1] 174))) := hidIt (by
  have h := Kept.new (Kept.new (Kept.new (L := []) ⟨Below.refl _ w, fun x hx => by cases hx⟩ #[.int .i64 zat, .int .i64 7, .string zl, .slice zsa zsn zsc, .int .i64 zn, .string znm, .string zv, .slice zaa zan zac] 68) #[.int .i64 0, .int .i64 0, .int .i64 2, .int .i64 2, .int .i64 2, .int .i64 1, .int .i64 1, .int .i64 0, .int .i64 0, .int .i64 1, .int .i64 1, .int .i64 1] 174) #[.int .i64 0, .int .i64 0, .int .i64 2, .int .i64 2, .int .i64 2, .int .i64 1, .int .i64 1, .int .i64 16, .int .i64 1, .int .i64 1, .int .i64 1, .int .i64 1] 174
  rwa [World.size_alloc (w.alloc _)] at h)
 rw [World.size_alloc] at K0
 go_enter Tryz.func106, Tryz.ntmps106
 go_upto_region 3 with fail
 generalize (((w.alloc (.cells #[.int .i64 zat, .int .i64 7, .string zl, .slice zsa zsn zsc, .int .i64 zn, .string znm, .string zv, .slice zaa zan zac] 68)).alloc (.cells #[.int .i64 0, .int .i64 0, .int .i64 2, .int .i64 2, .int .i64 2, .int .i64 1, .int .i64 1, .int .i64 0, .int .i64 0, .int .i64 1, .int .i64 1, .int .i64 1] 174)).alloc (.cells #[.int .i64 0, .int .i64 0, .int .i64 2, .int .i64 2, .int .i64 2, .int .i64 1, .int .i64 1, .int .i64 16, .int .i64 1, .int .i64 1, .int .i64 1, .int .i64 1] 174)) = W0 at K0 ⊢
 have sw : W0.cell? ⟨w.heap.size, 1, none⟩ = some (.int .i64 7) ∧ W0.cell? ⟨w.heap.size, 7, none⟩ = some (.slice zaa zan zac) ∧ W0.cell? ⟨w.heap.size + 1, 7, none⟩ = some (.int .i64 0) ∧ W0.cell? ⟨w.heap.size + 1 + 1, 7, none⟩ = some (.int .i64 16) := ⟨cell_at (K0.out.get 2 rfl) 1, cell_at (K0.out.get 2 rfl) 7, cell_at (K0.out.get 1 rfl) 7, cell_at (K0.out.get 0 rfl) 7⟩
 have HK := hidIt K0.out.drew
 clear K0
 go_region_held3 (fun W => W.cell? ⟨w.heap.size, 1, none⟩ = some (.int .i64 7) ∧ W.cell? ⟨w.heap.size, 7, none⟩ = some (.slice zaa zan zac) ∧ W.cell? ⟨w.heap.size + 1, 7, none⟩ = some (.int .i64 0) ∧ W.cell? ⟨w.heap.size + 1 + 1, 7, none⟩ = some (.int .i64 16)) (go_keep)
  (first
  | (go_at_call 140; refine (C140.out _ HK.out.1).mono ?_; rintro e y ⟨rfl, hq⟩; have HK := hidIt (HK.out.on hq); have sS : y.cell? ⟨w.heap.size, 1, none⟩ = some (.int .i64 7) ∧ y.cell? ⟨w.heap.size, 7, none⟩ = some (.slice zaa zan zac) ∧ y.cell? ⟨w.heap.size + 1, 7, none⟩ = some (.int .i64 0) ∧ y.cell? ⟨w.heap.size + 1 + 1, 7, none⟩ = some (.int .i64 16) := ⟨cell_at (HK.out.get 2 rfl) 1, cell_at (HK.out.get 2 rfl) 7, cell_at (HK.out.get 1 rfl) 7, cell_at (HK.out.get 0 rfl) 7⟩; clear hq))
 have M : Hid (SM w (.int .i64 zat) (.int .i64 7) (.string zl) (.slice zsa zsn zsc) (.int .i64 zn) (.string znm) (.string zv) (.slice zaa zan zac) y) := hidIt ⟨HK.out.1, HK.out.get 2 rfl⟩
 clear HK C140
 obtain ⟨c1, c2, c3, c4, c5, c6, c7⟩ := M.out.cells
 cases pB with
 | false =>
  as_aux_lemma =>
  go_wp2
  go_ret
  exact ⟨rfl, M.out.bel⟩
 | true =>
  have K1 : Hid True := hidIt trivial
  cases hz : (zn == 0)
  all_goals
   have hr := hidIt (show rnumR zn false = _ from hz)
   cases tB <;> cases aB
   all_goals
    as_aux_lemma =>
    go_wp2_with (first | (go_at_call 18; refine (C18.out _ M.out.bel).mono ?_; rintro e y ⟨rfl, hq⟩; have M := hidIt (M.out.on hq); clear hq c1 c2 c3 c4 c5 c6 c7; obtain ⟨c1, c2, c3, c4, c5, c6, c7⟩ := M.out.cells) | (go_at_call 141; have tk := K1; clear tk K1; refine (CN.out _ M.out.bel).mono ?_; rintro e y ⟨rfl, hq⟩; have M := hidIt (M.out.on hq); clear hq c1 c2 c3 c4 c5 c6 c7; obtain ⟨c1, c2, c3, c4, c5, c6, c7⟩ := M.out.cells) | (go_at_call 141; refine (CV.out _ M.out.bel).mono ?_; rintro e y ⟨rfl, hq⟩; have M := hidIt (M.out.on hq); clear hq c1 c2 c3 c4 c5 c6 c7; obtain ⟨c1, c2, c3, c4, c5, c6, c7⟩ := M.out.cells))
    go_ret
    first
    | exact ⟨rfl, M.out.bel⟩
    | exact ⟨by rw [hr.out]; rfl, M.out.bel⟩
    | exact ⟨by rw [hr.out]; cases vB <;> rfl, M.out.bel⟩

set_option maxHeartbeats 8000000 in
set_option maxRecDepth 100000 in
theorem docstmt_8 (zat : Int) (zl : ByteArray) (zsa : Option Addr) (zsn zsc : Nat) (zn : Int) (znm zv : ByteArray) (zaa : Option Addr) (zan zac : Nat) (w : World) (pB tB nB aB vB : Bool)
 (C140 : Hid (Ans w 140 #[.slice zaa zan zac, .int .i64 0, .int .i64 1] pB))
 (C18 : Hid (Ans w 18 #[.agg #[.string zl, .slice zsa zsn zsc]] tB))
 (C142 : Hid (Ans w 142 #[.agg #[.string zl, .slice zsa zsn zsc]] nB))
 (CN : Hid (Ans w 141 #[.string znm, .bool true] aB))
 (CV : Hid (Ans w 141 #[.string zv, .bool true] vB)) :
 Calls Tryz.prog 106 #[.agg #[.int .i64 zat, .int .i64 8, .string zl, .slice zsa zsn zsc, .int .i64 zn, .string znm, .string zv, .slice zaa zan zac]] w fun e w' => e = .returned (.bool (pB && (tB && (rnumR zn false && (aB && vB))))) ∧ Below w.heap.size w w' := by
 have K0 : Hid (Kept w [((w.alloc (.cells #[.int .i64 zat, .int .i64 8, .string zl, .slice zsa zsn zsc, .int .i64 zn, .string znm, .string zv, .slice zaa zan zac] 68)).heap.size + 1, Obj.cells #[.int .i64 0, .int .i64 0, .int .i64 2, .int .i64 2, .int .i64 2, .int .i64 1, .int .i64 1, .int .i64 16, .int .i64 1, .int .i64 1, .int .i64 1, .int .i64 1] 174 (0, 0)), ((w.alloc (.cells #[.int .i64 zat, .int .i64 8, .string zl, .slice zsa zsn zsc, .int .i64 zn, .string znm, .string zv, .slice zaa zan zac] 68)).heap.size, Obj.cells #[.int .i64 0, .int .i64 0, .int .i64 2, .int .i64 2, .int .i64 2, .int .i64 1, .int .i64 1, .int .i64 0, .int .i64 0, .int .i64 1, .int .i64 1, .int .i64 1] 174 (0, 0)), (w.heap.size, Obj.cells #[.int .i64 zat, .int .i64 8, .string zl, .slice zsa zsn zsc, .int .i64 zn, .string znm, .string zv, .slice zaa zan zac] 68 (0, 0))] (((w.alloc (.cells #[.int .i64 zat, .int .i64 8, .string zl, .slice zsa zsn zsc, .int .i64 zn, .string znm, .string zv, .slice zaa zan zac] 68)).alloc (.cells #[.int .i64 0, .int .i64 0, .int .i64 2, .int .i64 2, .int .i64 2, .int .i64 1, .int .i64 1, .int .i64 0, .int .i64 0, .int .i64 1, .int .i64 1, .int .i64 1] 174)).alloc (.cells #[.int .i64 0, .int .i64 0, .int .i64 2, .int .i64 2, .int .i64 2, .int .i64 1, .int .i64 1, .int .i64 16, .int .i64 1, .int .i64 1, .int .i64 1, .int .i64 1] 174))) := hidIt (by
  have h := Kept.new (Kept.new (Kept.new (L := []) ⟨Below.refl _ w, fun x hx => by cases hx⟩ #[.int .i64 zat, .int .i64 8, .string zl, .slice zsa zsn zsc, .int .i64 zn, .string znm, .string zv, .slice zaa zan zac] 68) #[.int .i64 0, .int .i64 0, .int .i64 2, .int .i64 2, .int .i64 2, .int .i64 1, .int .i64 1, .int .i64 0, .int .i64 0, .int .i64 1, .int .i64 1, .int .i64 1] 174) #[.int .i64 0, .int .i64 0, .int .i64 2, .int .i64 2, .int .i64 2, .int .i64 1, .int .i64 1, .int .i64 16, .int .i64 1, .int .i64 1, .int .i64 1, .int .i64 1] 174
  rwa [World.size_alloc (w.alloc _)] at h)
 rw [World.size_alloc] at K0
 go_enter Tryz.func106, Tryz.ntmps106
 go_upto_region 3 with fail
 generalize (((w.alloc (.cells #[.int .i64 zat, .int .i64 8, .string zl, .slice zsa zsn zsc, .int .i64 zn, .string znm, .string zv, .slice zaa zan zac] 68)).alloc (.cells #[.int .i64 0, .int .i64 0, .int .i64 2, .int .i64 2, .int .i64 2, .int .i64 1, .int .i64 1, .int .i64 0, .int .i64 0, .int .i64 1, .int .i64 1, .int .i64 1] 174)).alloc (.cells #[.int .i64 0, .int .i64 0, .int .i64 2, .int .i64 2, .int .i64 2, .int .i64 1, .int .i64 1, .int .i64 16, .int .i64 1, .int .i64 1, .int .i64 1, .int .i64 1] 174)) = W0 at K0 ⊢
 have sw : W0.cell? ⟨w.heap.size, 1, none⟩ = some (.int .i64 8) ∧ W0.cell? ⟨w.heap.size, 7, none⟩ = some (.slice zaa zan zac) ∧ W0.cell? ⟨w.heap.size + 1, 8, none⟩ = some (.int .i64 0) ∧ W0.cell? ⟨w.heap.size + 1 + 1, 8, none⟩ = some (.int .i64 1) := ⟨cell_at (K0.out.get 2 rfl) 1, cell_at (K0.out.get 2 rfl) 7, cell_at (K0.out.get 1 rfl) 8, cell_at (K0.out.get 0 rfl) 8⟩
 have HK := hidIt K0.out.drew
 clear K0
 go_region_held3 (fun W => W.cell? ⟨w.heap.size, 1, none⟩ = some (.int .i64 8) ∧ W.cell? ⟨w.heap.size, 7, none⟩ = some (.slice zaa zan zac) ∧ W.cell? ⟨w.heap.size + 1, 8, none⟩ = some (.int .i64 0) ∧ W.cell? ⟨w.heap.size + 1 + 1, 8, none⟩ = some (.int .i64 1)) (go_keep)
  (first
  | (go_at_call 140; refine (C140.out _ HK.out.1).mono ?_; rintro e y ⟨rfl, hq⟩; have HK := hidIt (HK.out.on hq); have sS : y.cell? ⟨w.heap.size, 1, none⟩ = some (.int .i64 8) ∧ y.cell? ⟨w.heap.size, 7, none⟩ = some (.slice zaa zan zac) ∧ y.cell? ⟨w.heap.size + 1, 8, none⟩ = some (.int .i64 0) ∧ y.cell? ⟨w.heap.size + 1 + 1, 8, none⟩ = some (.int .i64 1) := ⟨cell_at (HK.out.get 2 rfl) 1, cell_at (HK.out.get 2 rfl) 7, cell_at (HK.out.get 1 rfl) 8, cell_at (HK.out.get 0 rfl) 8⟩; clear hq))
 have M : Hid (SM w (.int .i64 zat) (.int .i64 8) (.string zl) (.slice zsa zsn zsc) (.int .i64 zn) (.string znm) (.string zv) (.slice zaa zan zac) y) := hidIt ⟨HK.out.1, HK.out.get 2 rfl⟩
 clear HK C140
 obtain ⟨c1, c2, c3, c4, c5, c6, c7⟩ := M.out.cells
 cases pB with
 | false =>
  as_aux_lemma =>
  go_wp2
  go_ret
  exact ⟨rfl, M.out.bel⟩
 | true =>
  have K1 : Hid True := hidIt trivial
  cases hz : (zn == 0)
  all_goals
   have hr := hidIt (show rnumR zn false = _ from hz)
   cases tB <;> cases aB
   all_goals
    as_aux_lemma =>
    go_wp2_with (first | (go_at_call 18; refine (C18.out _ M.out.bel).mono ?_; rintro e y ⟨rfl, hq⟩; have M := hidIt (M.out.on hq); clear hq c1 c2 c3 c4 c5 c6 c7; obtain ⟨c1, c2, c3, c4, c5, c6, c7⟩ := M.out.cells) | (go_at_call 141; have tk := K1; clear tk K1; refine (CN.out _ M.out.bel).mono ?_; rintro e y ⟨rfl, hq⟩; have M := hidIt (M.out.on hq); clear hq c1 c2 c3 c4 c5 c6 c7; obtain ⟨c1, c2, c3, c4, c5, c6, c7⟩ := M.out.cells) | (go_at_call 141; refine (CV.out _ M.out.bel).mono ?_; rintro e y ⟨rfl, hq⟩; have M := hidIt (M.out.on hq); clear hq c1 c2 c3 c4 c5 c6 c7; obtain ⟨c1, c2, c3, c4, c5, c6, c7⟩ := M.out.cells))
    go_ret
    first
    | exact ⟨rfl, M.out.bel⟩
    | exact ⟨by rw [hr.out]; rfl, M.out.bel⟩
    | exact ⟨by rw [hr.out]; cases vB <;> rfl, M.out.bel⟩

set_option maxHeartbeats 8000000 in
set_option maxRecDepth 100000 in
theorem docstmt_9 (zat : Int) (zl : ByteArray) (zsa : Option Addr) (zsn zsc : Nat) (zn : Int) (znm zv : ByteArray) (zaa : Option Addr) (zan zac : Nat) (w : World) (pB tB nB aB vB : Bool)
 (C140 : Hid (Ans w 140 #[.slice zaa zan zac, .int .i64 1, .int .i64 1] pB))
 (C18 : Hid (Ans w 18 #[.agg #[.string zl, .slice zsa zsn zsc]] tB))
 (C142 : Hid (Ans w 142 #[.agg #[.string zl, .slice zsa zsn zsc]] nB))
 (CN : Hid (Ans w 141 #[.string znm, .bool false] aB))
 (CV : Hid (Ans w 141 #[.string zv, .bool false] vB)) :
 Calls Tryz.prog 106 #[.agg #[.int .i64 zat, .int .i64 9, .string zl, .slice zsa zsn zsc, .int .i64 zn, .string znm, .string zv, .slice zaa zan zac]] w fun e w' => e = .returned (.bool (pB && (tB && (rnumR zn false && (aB && vB))))) ∧ Below w.heap.size w w' := by
 have K0 : Hid (Kept w [((w.alloc (.cells #[.int .i64 zat, .int .i64 9, .string zl, .slice zsa zsn zsc, .int .i64 zn, .string znm, .string zv, .slice zaa zan zac] 68)).heap.size + 1, Obj.cells #[.int .i64 0, .int .i64 0, .int .i64 2, .int .i64 2, .int .i64 2, .int .i64 1, .int .i64 1, .int .i64 16, .int .i64 1, .int .i64 1, .int .i64 1, .int .i64 1] 174 (0, 0)), ((w.alloc (.cells #[.int .i64 zat, .int .i64 9, .string zl, .slice zsa zsn zsc, .int .i64 zn, .string znm, .string zv, .slice zaa zan zac] 68)).heap.size, Obj.cells #[.int .i64 0, .int .i64 0, .int .i64 2, .int .i64 2, .int .i64 2, .int .i64 1, .int .i64 1, .int .i64 0, .int .i64 0, .int .i64 1, .int .i64 1, .int .i64 1] 174 (0, 0)), (w.heap.size, Obj.cells #[.int .i64 zat, .int .i64 9, .string zl, .slice zsa zsn zsc, .int .i64 zn, .string znm, .string zv, .slice zaa zan zac] 68 (0, 0))] (((w.alloc (.cells #[.int .i64 zat, .int .i64 9, .string zl, .slice zsa zsn zsc, .int .i64 zn, .string znm, .string zv, .slice zaa zan zac] 68)).alloc (.cells #[.int .i64 0, .int .i64 0, .int .i64 2, .int .i64 2, .int .i64 2, .int .i64 1, .int .i64 1, .int .i64 0, .int .i64 0, .int .i64 1, .int .i64 1, .int .i64 1] 174)).alloc (.cells #[.int .i64 0, .int .i64 0, .int .i64 2, .int .i64 2, .int .i64 2, .int .i64 1, .int .i64 1, .int .i64 16, .int .i64 1, .int .i64 1, .int .i64 1, .int .i64 1] 174))) := hidIt (by
  have h := Kept.new (Kept.new (Kept.new (L := []) ⟨Below.refl _ w, fun x hx => by cases hx⟩ #[.int .i64 zat, .int .i64 9, .string zl, .slice zsa zsn zsc, .int .i64 zn, .string znm, .string zv, .slice zaa zan zac] 68) #[.int .i64 0, .int .i64 0, .int .i64 2, .int .i64 2, .int .i64 2, .int .i64 1, .int .i64 1, .int .i64 0, .int .i64 0, .int .i64 1, .int .i64 1, .int .i64 1] 174) #[.int .i64 0, .int .i64 0, .int .i64 2, .int .i64 2, .int .i64 2, .int .i64 1, .int .i64 1, .int .i64 16, .int .i64 1, .int .i64 1, .int .i64 1, .int .i64 1] 174
  rwa [World.size_alloc (w.alloc _)] at h)
 rw [World.size_alloc] at K0
 go_enter Tryz.func106, Tryz.ntmps106
 go_upto_region 3 with fail
 generalize (((w.alloc (.cells #[.int .i64 zat, .int .i64 9, .string zl, .slice zsa zsn zsc, .int .i64 zn, .string znm, .string zv, .slice zaa zan zac] 68)).alloc (.cells #[.int .i64 0, .int .i64 0, .int .i64 2, .int .i64 2, .int .i64 2, .int .i64 1, .int .i64 1, .int .i64 0, .int .i64 0, .int .i64 1, .int .i64 1, .int .i64 1] 174)).alloc (.cells #[.int .i64 0, .int .i64 0, .int .i64 2, .int .i64 2, .int .i64 2, .int .i64 1, .int .i64 1, .int .i64 16, .int .i64 1, .int .i64 1, .int .i64 1, .int .i64 1] 174)) = W0 at K0 ⊢
 have sw : W0.cell? ⟨w.heap.size, 1, none⟩ = some (.int .i64 9) ∧ W0.cell? ⟨w.heap.size, 7, none⟩ = some (.slice zaa zan zac) ∧ W0.cell? ⟨w.heap.size + 1, 9, none⟩ = some (.int .i64 1) ∧ W0.cell? ⟨w.heap.size + 1 + 1, 9, none⟩ = some (.int .i64 1) := ⟨cell_at (K0.out.get 2 rfl) 1, cell_at (K0.out.get 2 rfl) 7, cell_at (K0.out.get 1 rfl) 9, cell_at (K0.out.get 0 rfl) 9⟩
 have HK := hidIt K0.out.drew
 clear K0
 go_region_held3 (fun W => W.cell? ⟨w.heap.size, 1, none⟩ = some (.int .i64 9) ∧ W.cell? ⟨w.heap.size, 7, none⟩ = some (.slice zaa zan zac) ∧ W.cell? ⟨w.heap.size + 1, 9, none⟩ = some (.int .i64 1) ∧ W.cell? ⟨w.heap.size + 1 + 1, 9, none⟩ = some (.int .i64 1)) (go_keep)
  (first
  | (go_at_call 140; refine (C140.out _ HK.out.1).mono ?_; rintro e y ⟨rfl, hq⟩; have HK := hidIt (HK.out.on hq); have sS : y.cell? ⟨w.heap.size, 1, none⟩ = some (.int .i64 9) ∧ y.cell? ⟨w.heap.size, 7, none⟩ = some (.slice zaa zan zac) ∧ y.cell? ⟨w.heap.size + 1, 9, none⟩ = some (.int .i64 1) ∧ y.cell? ⟨w.heap.size + 1 + 1, 9, none⟩ = some (.int .i64 1) := ⟨cell_at (HK.out.get 2 rfl) 1, cell_at (HK.out.get 2 rfl) 7, cell_at (HK.out.get 1 rfl) 9, cell_at (HK.out.get 0 rfl) 9⟩; clear hq))
 have M : Hid (SM w (.int .i64 zat) (.int .i64 9) (.string zl) (.slice zsa zsn zsc) (.int .i64 zn) (.string znm) (.string zv) (.slice zaa zan zac) y) := hidIt ⟨HK.out.1, HK.out.get 2 rfl⟩
 clear HK C140
 obtain ⟨c1, c2, c3, c4, c5, c6, c7⟩ := M.out.cells
 cases pB with
 | false =>
  as_aux_lemma =>
  go_wp2
  go_ret
  exact ⟨rfl, M.out.bel⟩
 | true =>
  have K1 : Hid True := hidIt trivial
  cases hz : (zn == 0)
  all_goals
   have hr := hidIt (show rnumR zn false = _ from hz)
   cases tB <;> cases aB
   all_goals
    as_aux_lemma =>
    go_wp2_with (first | (go_at_call 18; refine (C18.out _ M.out.bel).mono ?_; rintro e y ⟨rfl, hq⟩; have M := hidIt (M.out.on hq); clear hq c1 c2 c3 c4 c5 c6 c7; obtain ⟨c1, c2, c3, c4, c5, c6, c7⟩ := M.out.cells) | (go_at_call 141; have tk := K1; clear tk K1; refine (CN.out _ M.out.bel).mono ?_; rintro e y ⟨rfl, hq⟩; have M := hidIt (M.out.on hq); clear hq c1 c2 c3 c4 c5 c6 c7; obtain ⟨c1, c2, c3, c4, c5, c6, c7⟩ := M.out.cells) | (go_at_call 141; refine (CV.out _ M.out.bel).mono ?_; rintro e y ⟨rfl, hq⟩; have M := hidIt (M.out.on hq); clear hq c1 c2 c3 c4 c5 c6 c7; obtain ⟨c1, c2, c3, c4, c5, c6, c7⟩ := M.out.cells))
    go_ret
    first
    | exact ⟨rfl, M.out.bel⟩
    | exact ⟨by rw [hr.out]; rfl, M.out.bel⟩
    | exact ⟨by rw [hr.out]; cases vB <;> rfl, M.out.bel⟩

set_option maxHeartbeats 8000000 in
set_option maxRecDepth 100000 in
theorem docstmt_10 (zat : Int) (zl : ByteArray) (zsa : Option Addr) (zsn zsc : Nat) (zn : Int) (znm zv : ByteArray) (zaa : Option Addr) (zan zac : Nat) (w : World) (pB tB nB aB vB : Bool)
 (C140 : Hid (Ans w 140 #[.slice zaa zan zac, .int .i64 1, .int .i64 1] pB))
 (C18 : Hid (Ans w 18 #[.agg #[.string zl, .slice zsa zsn zsc]] tB))
 (C142 : Hid (Ans w 142 #[.agg #[.string zl, .slice zsa zsn zsc]] nB))
 (CN : Hid (Ans w 141 #[.string znm, .bool false] aB))
 (CV : Hid (Ans w 141 #[.string zv, .bool false] vB)) :
 Calls Tryz.prog 106 #[.agg #[.int .i64 zat, .int .i64 10, .string zl, .slice zsa zsn zsc, .int .i64 zn, .string znm, .string zv, .slice zaa zan zac]] w fun e w' => e = .returned (.bool (pB && (tB && (rnumR zn false && (aB && vB))))) ∧ Below w.heap.size w w' := by
 have K0 : Hid (Kept w [((w.alloc (.cells #[.int .i64 zat, .int .i64 10, .string zl, .slice zsa zsn zsc, .int .i64 zn, .string znm, .string zv, .slice zaa zan zac] 68)).heap.size + 1, Obj.cells #[.int .i64 0, .int .i64 0, .int .i64 2, .int .i64 2, .int .i64 2, .int .i64 1, .int .i64 1, .int .i64 16, .int .i64 1, .int .i64 1, .int .i64 1, .int .i64 1] 174 (0, 0)), ((w.alloc (.cells #[.int .i64 zat, .int .i64 10, .string zl, .slice zsa zsn zsc, .int .i64 zn, .string znm, .string zv, .slice zaa zan zac] 68)).heap.size, Obj.cells #[.int .i64 0, .int .i64 0, .int .i64 2, .int .i64 2, .int .i64 2, .int .i64 1, .int .i64 1, .int .i64 0, .int .i64 0, .int .i64 1, .int .i64 1, .int .i64 1] 174 (0, 0)), (w.heap.size, Obj.cells #[.int .i64 zat, .int .i64 10, .string zl, .slice zsa zsn zsc, .int .i64 zn, .string znm, .string zv, .slice zaa zan zac] 68 (0, 0))] (((w.alloc (.cells #[.int .i64 zat, .int .i64 10, .string zl, .slice zsa zsn zsc, .int .i64 zn, .string znm, .string zv, .slice zaa zan zac] 68)).alloc (.cells #[.int .i64 0, .int .i64 0, .int .i64 2, .int .i64 2, .int .i64 2, .int .i64 1, .int .i64 1, .int .i64 0, .int .i64 0, .int .i64 1, .int .i64 1, .int .i64 1] 174)).alloc (.cells #[.int .i64 0, .int .i64 0, .int .i64 2, .int .i64 2, .int .i64 2, .int .i64 1, .int .i64 1, .int .i64 16, .int .i64 1, .int .i64 1, .int .i64 1, .int .i64 1] 174))) := hidIt (by
  have h := Kept.new (Kept.new (Kept.new (L := []) ⟨Below.refl _ w, fun x hx => by cases hx⟩ #[.int .i64 zat, .int .i64 10, .string zl, .slice zsa zsn zsc, .int .i64 zn, .string znm, .string zv, .slice zaa zan zac] 68) #[.int .i64 0, .int .i64 0, .int .i64 2, .int .i64 2, .int .i64 2, .int .i64 1, .int .i64 1, .int .i64 0, .int .i64 0, .int .i64 1, .int .i64 1, .int .i64 1] 174) #[.int .i64 0, .int .i64 0, .int .i64 2, .int .i64 2, .int .i64 2, .int .i64 1, .int .i64 1, .int .i64 16, .int .i64 1, .int .i64 1, .int .i64 1, .int .i64 1] 174
  rwa [World.size_alloc (w.alloc _)] at h)
 rw [World.size_alloc] at K0
 go_enter Tryz.func106, Tryz.ntmps106
 go_upto_region 3 with fail
 generalize (((w.alloc (.cells #[.int .i64 zat, .int .i64 10, .string zl, .slice zsa zsn zsc, .int .i64 zn, .string znm, .string zv, .slice zaa zan zac] 68)).alloc (.cells #[.int .i64 0, .int .i64 0, .int .i64 2, .int .i64 2, .int .i64 2, .int .i64 1, .int .i64 1, .int .i64 0, .int .i64 0, .int .i64 1, .int .i64 1, .int .i64 1] 174)).alloc (.cells #[.int .i64 0, .int .i64 0, .int .i64 2, .int .i64 2, .int .i64 2, .int .i64 1, .int .i64 1, .int .i64 16, .int .i64 1, .int .i64 1, .int .i64 1, .int .i64 1] 174)) = W0 at K0 ⊢
 have sw : W0.cell? ⟨w.heap.size, 1, none⟩ = some (.int .i64 10) ∧ W0.cell? ⟨w.heap.size, 7, none⟩ = some (.slice zaa zan zac) ∧ W0.cell? ⟨w.heap.size + 1, 10, none⟩ = some (.int .i64 1) ∧ W0.cell? ⟨w.heap.size + 1 + 1, 10, none⟩ = some (.int .i64 1) := ⟨cell_at (K0.out.get 2 rfl) 1, cell_at (K0.out.get 2 rfl) 7, cell_at (K0.out.get 1 rfl) 10, cell_at (K0.out.get 0 rfl) 10⟩
 have HK := hidIt K0.out.drew
 clear K0
 go_region_held3 (fun W => W.cell? ⟨w.heap.size, 1, none⟩ = some (.int .i64 10) ∧ W.cell? ⟨w.heap.size, 7, none⟩ = some (.slice zaa zan zac) ∧ W.cell? ⟨w.heap.size + 1, 10, none⟩ = some (.int .i64 1) ∧ W.cell? ⟨w.heap.size + 1 + 1, 10, none⟩ = some (.int .i64 1)) (go_keep)
  (first
  | (go_at_call 140; refine (C140.out _ HK.out.1).mono ?_; rintro e y ⟨rfl, hq⟩; have HK := hidIt (HK.out.on hq); have sS : y.cell? ⟨w.heap.size, 1, none⟩ = some (.int .i64 10) ∧ y.cell? ⟨w.heap.size, 7, none⟩ = some (.slice zaa zan zac) ∧ y.cell? ⟨w.heap.size + 1, 10, none⟩ = some (.int .i64 1) ∧ y.cell? ⟨w.heap.size + 1 + 1, 10, none⟩ = some (.int .i64 1) := ⟨cell_at (HK.out.get 2 rfl) 1, cell_at (HK.out.get 2 rfl) 7, cell_at (HK.out.get 1 rfl) 10, cell_at (HK.out.get 0 rfl) 10⟩; clear hq))
 have M : Hid (SM w (.int .i64 zat) (.int .i64 10) (.string zl) (.slice zsa zsn zsc) (.int .i64 zn) (.string znm) (.string zv) (.slice zaa zan zac) y) := hidIt ⟨HK.out.1, HK.out.get 2 rfl⟩
 clear HK C140
 obtain ⟨c1, c2, c3, c4, c5, c6, c7⟩ := M.out.cells
 cases pB with
 | false =>
  as_aux_lemma =>
  go_wp2
  go_ret
  exact ⟨rfl, M.out.bel⟩
 | true =>
  have K1 : Hid True := hidIt trivial
  cases hz : (zn == 0)
  all_goals
   have hr := hidIt (show rnumR zn false = _ from hz)
   cases tB <;> cases aB
   all_goals
    as_aux_lemma =>
    go_wp2_with (first | (go_at_call 18; refine (C18.out _ M.out.bel).mono ?_; rintro e y ⟨rfl, hq⟩; have M := hidIt (M.out.on hq); clear hq c1 c2 c3 c4 c5 c6 c7; obtain ⟨c1, c2, c3, c4, c5, c6, c7⟩ := M.out.cells) | (go_at_call 141; have tk := K1; clear tk K1; refine (CN.out _ M.out.bel).mono ?_; rintro e y ⟨rfl, hq⟩; have M := hidIt (M.out.on hq); clear hq c1 c2 c3 c4 c5 c6 c7; obtain ⟨c1, c2, c3, c4, c5, c6, c7⟩ := M.out.cells) | (go_at_call 141; refine (CV.out _ M.out.bel).mono ?_; rintro e y ⟨rfl, hq⟩; have M := hidIt (M.out.on hq); clear hq c1 c2 c3 c4 c5 c6 c7; obtain ⟨c1, c2, c3, c4, c5, c6, c7⟩ := M.out.cells))
    go_ret
    first
    | exact ⟨rfl, M.out.bel⟩
    | exact ⟨by rw [hr.out]; rfl, M.out.bel⟩
    | exact ⟨by rw [hr.out]; cases vB <;> rfl, M.out.bel⟩

set_option maxHeartbeats 8000000 in
set_option maxRecDepth 100000 in
theorem docstmt_11 (zat : Int) (zl : ByteArray) (zsa : Option Addr) (zsn zsc : Nat) (zn : Int) (znm zv : ByteArray) (zaa : Option Addr) (zan zac : Nat) (w : World) (pB tB nB aB vB : Bool)
 (C140 : Hid (Ans w 140 #[.slice zaa zan zac, .int .i64 1, .int .i64 1] pB))
 (C18 : Hid (Ans w 18 #[.agg #[.string zl, .slice zsa zsn zsc]] tB))
 (C142 : Hid (Ans w 142 #[.agg #[.string zl, .slice zsa zsn zsc]] nB))
 (CN : Hid (Ans w 141 #[.string znm, .bool false] aB))
 (CV : Hid (Ans w 141 #[.string zv, .bool false] vB)) :
 Calls Tryz.prog 106 #[.agg #[.int .i64 zat, .int .i64 11, .string zl, .slice zsa zsn zsc, .int .i64 zn, .string znm, .string zv, .slice zaa zan zac]] w fun e w' => e = .returned (.bool (pB && (nB && (rnumR zn false && (aB && vB))))) ∧ Below w.heap.size w w' := by
 have K0 : Hid (Kept w [((w.alloc (.cells #[.int .i64 zat, .int .i64 11, .string zl, .slice zsa zsn zsc, .int .i64 zn, .string znm, .string zv, .slice zaa zan zac] 68)).heap.size + 1, Obj.cells #[.int .i64 0, .int .i64 0, .int .i64 2, .int .i64 2, .int .i64 2, .int .i64 1, .int .i64 1, .int .i64 16, .int .i64 1, .int .i64 1, .int .i64 1, .int .i64 1] 174 (0, 0)), ((w.alloc (.cells #[.int .i64 zat, .int .i64 11, .string zl, .slice zsa zsn zsc, .int .i64 zn, .string znm, .string zv, .slice zaa zan zac] 68)).heap.size, Obj.cells #[.int .i64 0, .int .i64 0, .int .i64 2, .int .i64 2, .int .i64 2, .int .i64 1, .int .i64 1, .int .i64 0, .int .i64 0, .int .i64 1, .int .i64 1, .int .i64 1] 174 (0, 0)), (w.heap.size, Obj.cells #[.int .i64 zat, .int .i64 11, .string zl, .slice zsa zsn zsc, .int .i64 zn, .string znm, .string zv, .slice zaa zan zac] 68 (0, 0))] (((w.alloc (.cells #[.int .i64 zat, .int .i64 11, .string zl, .slice zsa zsn zsc, .int .i64 zn, .string znm, .string zv, .slice zaa zan zac] 68)).alloc (.cells #[.int .i64 0, .int .i64 0, .int .i64 2, .int .i64 2, .int .i64 2, .int .i64 1, .int .i64 1, .int .i64 0, .int .i64 0, .int .i64 1, .int .i64 1, .int .i64 1] 174)).alloc (.cells #[.int .i64 0, .int .i64 0, .int .i64 2, .int .i64 2, .int .i64 2, .int .i64 1, .int .i64 1, .int .i64 16, .int .i64 1, .int .i64 1, .int .i64 1, .int .i64 1] 174))) := hidIt (by
  have h := Kept.new (Kept.new (Kept.new (L := []) ⟨Below.refl _ w, fun x hx => by cases hx⟩ #[.int .i64 zat, .int .i64 11, .string zl, .slice zsa zsn zsc, .int .i64 zn, .string znm, .string zv, .slice zaa zan zac] 68) #[.int .i64 0, .int .i64 0, .int .i64 2, .int .i64 2, .int .i64 2, .int .i64 1, .int .i64 1, .int .i64 0, .int .i64 0, .int .i64 1, .int .i64 1, .int .i64 1] 174) #[.int .i64 0, .int .i64 0, .int .i64 2, .int .i64 2, .int .i64 2, .int .i64 1, .int .i64 1, .int .i64 16, .int .i64 1, .int .i64 1, .int .i64 1, .int .i64 1] 174
  rwa [World.size_alloc (w.alloc _)] at h)
 rw [World.size_alloc] at K0
 go_enter Tryz.func106, Tryz.ntmps106
 go_upto_region 3 with fail
 generalize (((w.alloc (.cells #[.int .i64 zat, .int .i64 11, .string zl, .slice zsa zsn zsc, .int .i64 zn, .string znm, .string zv, .slice zaa zan zac] 68)).alloc (.cells #[.int .i64 0, .int .i64 0, .int .i64 2, .int .i64 2, .int .i64 2, .int .i64 1, .int .i64 1, .int .i64 0, .int .i64 0, .int .i64 1, .int .i64 1, .int .i64 1] 174)).alloc (.cells #[.int .i64 0, .int .i64 0, .int .i64 2, .int .i64 2, .int .i64 2, .int .i64 1, .int .i64 1, .int .i64 16, .int .i64 1, .int .i64 1, .int .i64 1, .int .i64 1] 174)) = W0 at K0 ⊢
 have sw : W0.cell? ⟨w.heap.size, 1, none⟩ = some (.int .i64 11) ∧ W0.cell? ⟨w.heap.size, 7, none⟩ = some (.slice zaa zan zac) ∧ W0.cell? ⟨w.heap.size + 1, 11, none⟩ = some (.int .i64 1) ∧ W0.cell? ⟨w.heap.size + 1 + 1, 11, none⟩ = some (.int .i64 1) := ⟨cell_at (K0.out.get 2 rfl) 1, cell_at (K0.out.get 2 rfl) 7, cell_at (K0.out.get 1 rfl) 11, cell_at (K0.out.get 0 rfl) 11⟩
 have HK := hidIt K0.out.drew
 clear K0
 go_region_held3 (fun W => W.cell? ⟨w.heap.size, 1, none⟩ = some (.int .i64 11) ∧ W.cell? ⟨w.heap.size, 7, none⟩ = some (.slice zaa zan zac) ∧ W.cell? ⟨w.heap.size + 1, 11, none⟩ = some (.int .i64 1) ∧ W.cell? ⟨w.heap.size + 1 + 1, 11, none⟩ = some (.int .i64 1)) (go_keep)
  (first
  | (go_at_call 140; refine (C140.out _ HK.out.1).mono ?_; rintro e y ⟨rfl, hq⟩; have HK := hidIt (HK.out.on hq); have sS : y.cell? ⟨w.heap.size, 1, none⟩ = some (.int .i64 11) ∧ y.cell? ⟨w.heap.size, 7, none⟩ = some (.slice zaa zan zac) ∧ y.cell? ⟨w.heap.size + 1, 11, none⟩ = some (.int .i64 1) ∧ y.cell? ⟨w.heap.size + 1 + 1, 11, none⟩ = some (.int .i64 1) := ⟨cell_at (HK.out.get 2 rfl) 1, cell_at (HK.out.get 2 rfl) 7, cell_at (HK.out.get 1 rfl) 11, cell_at (HK.out.get 0 rfl) 11⟩; clear hq))
 have M : Hid (SM w (.int .i64 zat) (.int .i64 11) (.string zl) (.slice zsa zsn zsc) (.int .i64 zn) (.string znm) (.string zv) (.slice zaa zan zac) y) := hidIt ⟨HK.out.1, HK.out.get 2 rfl⟩
 clear HK C140
 obtain ⟨c1, c2, c3, c4, c5, c6, c7⟩ := M.out.cells
 cases pB with
 | false =>
  as_aux_lemma =>
  go_wp2
  go_ret
  exact ⟨rfl, M.out.bel⟩
 | true =>
  have K1 : Hid True := hidIt trivial
  cases hz : (zn == 0)
  all_goals
   have hr := hidIt (show rnumR zn false = _ from hz)
   cases nB <;> cases aB
   all_goals
    as_aux_lemma =>
    go_wp2_with (first | (go_at_call 18; refine (C18.out _ M.out.bel).mono ?_; rintro e y ⟨rfl, hq⟩; have M := hidIt (M.out.on hq); clear hq c1 c2 c3 c4 c5 c6 c7; obtain ⟨c1, c2, c3, c4, c5, c6, c7⟩ := M.out.cells) | (go_at_call 142; refine (C142.out _ M.out.bel).mono ?_; rintro e y ⟨rfl, hq⟩; have M := hidIt (M.out.on hq); clear hq c1 c2 c3 c4 c5 c6 c7; obtain ⟨c1, c2, c3, c4, c5, c6, c7⟩ := M.out.cells) | (go_at_call 141; have tk := K1; clear tk K1; refine (CN.out _ M.out.bel).mono ?_; rintro e y ⟨rfl, hq⟩; have M := hidIt (M.out.on hq); clear hq c1 c2 c3 c4 c5 c6 c7; obtain ⟨c1, c2, c3, c4, c5, c6, c7⟩ := M.out.cells) | (go_at_call 141; refine (CV.out _ M.out.bel).mono ?_; rintro e y ⟨rfl, hq⟩; have M := hidIt (M.out.on hq); clear hq c1 c2 c3 c4 c5 c6 c7; obtain ⟨c1, c2, c3, c4, c5, c6, c7⟩ := M.out.cells))
    go_ret
    first
    | exact ⟨rfl, M.out.bel⟩
    | exact ⟨by rw [hr.out]; rfl, M.out.bel⟩
    | exact ⟨by rw [hr.out]; cases vB <;> rfl, M.out.bel⟩
end Go.Proofs.YtlppbgmcoknliaaGreatDoor
