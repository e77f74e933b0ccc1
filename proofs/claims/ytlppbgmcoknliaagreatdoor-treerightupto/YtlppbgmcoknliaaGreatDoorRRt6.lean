/-
  The document's own Stmt answers what the program's does.
  The document's own Stmt, whatever the kind.
-/
import Derived.Test.YtlppbgmcoknliaaGreatDoorRSm
import Derived.Deep.QuietTactic
import Derived.BigQuiet
import Derived.Test.YtlppbgmcoknliaaGreatDoorRRt3
import Derived.Test.YtlppbgmcoknliaaGreatDoorRRt4
namespace Go.Proofs.YtlppbgmcoknliaaGreatDoor
set_option linter.unusedVariables false
open Go.RowKit

set_option maxHeartbeats 4000000 in
set_option maxRecDepth 100000 in
theorem docstmt_out (zat K : Int) (hK : K < 1 ∨ 11 < K) (zl : ByteArray) (zsa : Option Addr) (zsn zsc : Nat) (zn : Int) (znm zv : ByteArray) (zaa : Option Addr) (zan zac : Nat) (w : World) :
 Calls Tryz.prog 106 #[.agg #[.int .i64 zat, .int .i64 K, .string zl, .slice zsa zsn zsc, .int .i64 zn, .string znm, .string zv, .slice zaa zan zac]] w fun e w' => e = .returned (.bool false) ∧ Below w.heap.size w w' := by
 have K0 : Hid (Kept w [((w.alloc (.cells #[.int .i64 zat, .int .i64 K, .string zl, .slice zsa zsn zsc, .int .i64 zn, .string znm, .string zv, .slice zaa zan zac] 68)).heap.size + 1, Obj.cells #[.int .i64 0, .int .i64 0, .int .i64 2, .int .i64 2, .int .i64 2, .int .i64 1, .int .i64 1, .int .i64 16, .int .i64 1, .int .i64 1, .int .i64 1, .int .i64 1] 174 (0, 0)), ((w.alloc (.cells #[.int .i64 zat, .int .i64 K, .string zl, .slice zsa zsn zsc, .int .i64 zn, .string znm, .string zv, .slice zaa zan zac] 68)).heap.size, Obj.cells #[.int .i64 0, .int .i64 0, .int .i64 2, .int .i64 2, .int .i64 2, .int .i64 1, .int .i64 1, .int .i64 0, .int .i64 0, .int .i64 1, .int .i64 1, .int .i64 1] 174 (0, 0)), (w.heap.size, Obj.cells #[.int .i64 zat, .int .i64 K, .string zl, .slice zsa zsn zsc, .int .i64 zn, .string znm, .string zv, .slice zaa zan zac] 68 (0, 0))] (((w.alloc (.cells #[.int .i64 zat, .int .i64 K, .string zl, .slice zsa zsn zsc, .int .i64 zn, .string znm, .string zv, .slice zaa zan zac] 68)).alloc (.cells #[.int .i64 0, .int .i64 0, .int .i64 2, .int .i64 2, .int .i64 2, .int .i64 1, .int .i64 1, .int .i64 0, .int .i64 0, .int .i64 1, .int .i64 1, .int .i64 1] 174)).alloc (.cells #[.int .i64 0, .int .i64 0, .int .i64 2, .int .i64 2, .int .i64 2, .int .i64 1, .int .i64 1, .int .i64 16, .int .i64 1, .int .i64 1, .int .i64 1, .int .i64 1] 174))) := hidIt (by
  have h := Kept.new (Kept.new (Kept.new (L := []) ⟨Below.refl _ w, fun x hx => by cases hx⟩ #[.int .i64 zat, .int .i64 K, .string zl, .slice zsa zsn zsc, .int .i64 zn, .string znm, .string zv, .slice zaa zan zac] 68) #[.int .i64 0, .int .i64 0, .int .i64 2, .int .i64 2, .int .i64 2, .int .i64 1, .int .i64 1, .int .i64 0, .int .i64 0, .int .i64 1, .int .i64 1, .int .i64 1] 174) #[.int .i64 0, .int .i64 0, .int .i64 2, .int .i64 2, .int .i64 2, .int .i64 1, .int .i64 1, .int .i64 16, .int .i64 1, .int .i64 1, .int .i64 1, .int .i64 1] 174
  rwa [World.size_alloc (w.alloc _)] at h)
 rw [World.size_alloc] at K0
 rcases hK with hK | hK
 · have hd1 : decide (K < 1) = true := decide_eq_true hK
   go_enter Tryz.func106, Tryz.ntmps106
   go_upto_region 3 with fail
   generalize (((w.alloc (.cells #[.int .i64 zat, .int .i64 K, .string zl, .slice zsa zsn zsc, .int .i64 zn, .string znm, .string zv, .slice zaa zan zac] 68)).alloc (.cells #[.int .i64 0, .int .i64 0, .int .i64 2, .int .i64 2, .int .i64 2, .int .i64 1, .int .i64 1, .int .i64 0, .int .i64 0, .int .i64 1, .int .i64 1, .int .i64 1] 174)).alloc (.cells #[.int .i64 0, .int .i64 0, .int .i64 2, .int .i64 2, .int .i64 2, .int .i64 1, .int .i64 1, .int .i64 16, .int .i64 1, .int .i64 1, .int .i64 1, .int .i64 1] 174)) = W0 at K0 ⊢
   have c1 : W0.cell? ⟨w.heap.size, 1, none⟩ = some (.int .i64 K) := cell_at (K0.out.get 2 rfl) 1
   go_quiet (fail)
   go_wp2
   go_ret
   exact ⟨rfl, below_next K0.out.1 (below_drewN _ _)⟩
 · have hd1 : decide (K < 1) = false := decide_eq_false (by omega)
   have hd2 : decide (11 < K) = true := decide_eq_true hK
   go_enter Tryz.func106, Tryz.ntmps106
   go_upto_region 3 with fail
   generalize (((w.alloc (.cells #[.int .i64 zat, .int .i64 K, .string zl, .slice zsa zsn zsc, .int .i64 zn, .string znm, .string zv, .slice zaa zan zac] 68)).alloc (.cells #[.int .i64 0, .int .i64 0, .int .i64 2, .int .i64 2, .int .i64 2, .int .i64 1, .int .i64 1, .int .i64 0, .int .i64 0, .int .i64 1, .int .i64 1, .int .i64 1] 174)).alloc (.cells #[.int .i64 0, .int .i64 0, .int .i64 2, .int .i64 2, .int .i64 2, .int .i64 1, .int .i64 1, .int .i64 16, .int .i64 1, .int .i64 1, .int .i64 1, .int .i64 1] 174)) = W0 at K0 ⊢
   have c1 : W0.cell? ⟨w.heap.size, 1, none⟩ = some (.int .i64 K) := cell_at (K0.out.get 2 rfl) 1
   go_quiet (fail)
   go_wp2
   go_ret
   exact ⟨rfl, below_next K0.out.1 (below_drewN _ _)⟩
end Go.Proofs.YtlppbgmcoknliaaGreatDoor
namespace Go.Proofs.YtlppbgmcoknliaaGreatDoor
set_option linter.unusedVariables false
open Go.RowKit

theorem and5 (a b c d e : Bool) : (true && (a && (b && (c && (d && e))))) = (e && (a && (b && (c && d)))) := by
 cases a <;> cases b <;> cases c <;> cases d <;> cases e <;> rfl
theorem stmtR_at (s : StmtD) (p : PartsD) (k : Int) (h : s.kind = k) (hp : stmtP k = p) : stmtR s = stmtR' s p := by
 subst h
 subst hp
 rfl

set_option maxRecDepth 100000 in
set_option maxHeartbeats 4000000 in
theorem docstmt_any (x : StmtX) (w : World) (hx : x.At w) (hf : x.d.Fit) :
 Calls Tryz.prog 106 #[.agg #[.int .i64 x.at_, .int .i64 x.kind, .string x.to.loc, .slice x.to.sa x.to.steps.length x.to.sc, .int .i64 x.n, .string x.name, .string x.variant, .slice x.aa x.args.length x.ac]] w fun e w' => e = .returned (.bool (stmtR x.d)) ∧ Below w.heap.size w w' := by
 have C18 : Hid (∀ W, Below w.heap.size w W → Calls Tryz.prog 18 #[.agg #[.string x.to.loc, .slice x.to.sa x.to.steps.length x.to.sc]] W fun e w' => e = .returned (.bool (placeR x.to.d)) ∧ Below W.heap.size W w') := hidIt fun W hW => docplace_any x.to W (PlaceX.At.on hx.1 hW) hf.1
 have C142 : Hid (∀ W, Below w.heap.size w W → Calls Tryz.prog 142 #[.agg #[.string x.to.loc, .slice x.to.sa x.to.steps.length x.to.sc]] W fun e w' => e = .returned (.bool ((x.to.loc.toList == []) && decide (x.to.steps.length = 0))) ∧ Below W.heap.size W w') := hidIt fun W hW => docnone_any _ _ _ _ W
 have C140 : ∀ lo hi : Nat, lo ≤ 100 → hi ≤ 100 → Hid (∀ W, Below w.heap.size w W → Calls Tryz.prog 140 #[.slice x.aa x.args.length x.ac, .int .i64 (lo : Int), .int .i64 (hi : Int)] W fun e w' => e = .returned (.bool (everyL (lo : Int) (hi : Int) placeR (x.args.map PlaceX.d))) ∧ Below W.heap.size W w') := fun lo hi h1 h2 => hidIt fun W hW => docplaces_any _ _ _ lo hi W (Pls.on hx.2 hW) (fun p hp => hf.2.2.2 p.d (List.mem_map_of_mem hp)) h1 h2
 have CN : ∀ h : Bool, Hid (∀ W, Below w.heap.size w W → Calls Tryz.prog 141 #[.string x.name, .bool h] W fun e w' => e = .returned (.bool (rnameR x.name h)) ∧ Below W.heap.size W w') := fun h => hidIt fun W hW => docopt_any _ h hf.2.1 W
 have CV : ∀ h : Bool, Hid (∀ W, Below w.heap.size w W → Calls Tryz.prog 141 #[.string x.variant, .bool h] W fun e w' => e = .returned (.bool (rnameR x.variant h)) ∧ Below W.heap.size W w') := fun h => hidIt fun W hW => docopt_any _ h hf.2.2.1 W
 clear hx hf
 obtain ⟨zat, kind, zto, n, name, variant, aa, ac, args⟩ := x
 simp only [StmtX.d] at C18 C142 C140 CN CV ⊢
 by_cases hk : kind = 1
 · subst hk
   have e : stmtR ⟨zat, 1, zto.d, n, name, variant, args.map PlaceX.d⟩ = (everyL 0 0 placeR (args.map PlaceX.d) && (placeR zto.d && (rnumR n true && (rnameR name false && rnameR variant false)))) := (stmtR_at _ _ 1 rfl rfl).trans (and5 _ _ _ _ _)
   rw [e]
   exact docstmt_1 zat zto.loc zto.sa zto.steps.length zto.sc n name variant aa args.length ac w _ (placeR zto.d) ((zto.loc.toList == []) && decide (zto.steps.length = 0)) _ _ (C140 0 0 (by decide) (by decide)) C18 C142 (CN false) (CV false)
 by_cases hk : kind = 2
 · subst hk
   have e : stmtR ⟨zat, 2, zto.d, n, name, variant, args.map PlaceX.d⟩ = (everyL 2 2 placeR (args.map PlaceX.d) && (placeR zto.d && (rnumR n false && (rnameR name false && rnameR variant false)))) := (stmtR_at _ _ 2 rfl rfl).trans (and5 _ _ _ _ _)
   rw [e]
   exact docstmt_2 zat zto.loc zto.sa zto.steps.length zto.sc n name variant aa args.length ac w _ (placeR zto.d) ((zto.loc.toList == []) && decide (zto.steps.length = 0)) _ _ (C140 2 2 (by decide) (by decide)) C18 C142 (CN false) (CV false)
 by_cases hk : kind = 3
 · subst hk
   have e : stmtR ⟨zat, 3, zto.d, n, name, variant, args.map PlaceX.d⟩ = (everyL 2 2 placeR (args.map PlaceX.d) && (placeR zto.d && (rnumR n false && (rnameR name false && rnameR variant false)))) := (stmtR_at _ _ 3 rfl rfl).trans (and5 _ _ _ _ _)
   rw [e]
   exact docstmt_3 zat zto.loc zto.sa zto.steps.length zto.sc n name variant aa args.length ac w _ (placeR zto.d) ((zto.loc.toList == []) && decide (zto.steps.length = 0)) _ _ (C140 2 2 (by decide) (by decide)) C18 C142 (CN false) (CV false)
 by_cases hk : kind = 4
 · subst hk
   have e : stmtR ⟨zat, 4, zto.d, n, name, variant, args.map PlaceX.d⟩ = (everyL 2 2 placeR (args.map PlaceX.d) && (placeR zto.d && (rnumR n false && (rnameR name false && rnameR variant false)))) := (stmtR_at _ _ 4 rfl rfl).trans (and5 _ _ _ _ _)
   rw [e]
   exact docstmt_4 zat zto.loc zto.sa zto.steps.length zto.sc n name variant aa args.length ac w _ (placeR zto.d) ((zto.loc.toList == []) && decide (zto.steps.length = 0)) _ _ (C140 2 2 (by decide) (by decide)) C18 C142 (CN false) (CV false)
 by_cases hk : kind = 5
 · subst hk
   have e : stmtR ⟨zat, 5, zto.d, n, name, variant, args.map PlaceX.d⟩ = (everyL 1 1 placeR (args.map PlaceX.d) && (placeR zto.d && (rnumR n false && (rnameR name false && rnameR variant false)))) := (stmtR_at _ _ 5 rfl rfl).trans (and5 _ _ _ _ _)
   rw [e]
   exact docstmt_5 zat zto.loc zto.sa zto.steps.length zto.sc n name variant aa args.length ac w _ (placeR zto.d) ((zto.loc.toList == []) && decide (zto.steps.length = 0)) _ _ (C140 1 1 (by decide) (by decide)) C18 C142 (CN false) (CV false)
 by_cases hk : kind = 6
 · subst hk
   have e : stmtR ⟨zat, 6, zto.d, n, name, variant, args.map PlaceX.d⟩ = (everyL 1 1 placeR (args.map PlaceX.d) && (placeR zto.d && (rnumR n false && (rnameR name false && rnameR variant false)))) := (stmtR_at _ _ 6 rfl rfl).trans (and5 _ _ _ _ _)
   rw [e]
   exact docstmt_6 zat zto.loc zto.sa zto.steps.length zto.sc n name variant aa args.length ac w _ (placeR zto.d) ((zto.loc.toList == []) && decide (zto.steps.length = 0)) _ _ (C140 1 1 (by decide) (by decide)) C18 C142 (CN false) (CV false)
 by_cases hk : kind = 7
 · subst hk
   have e : stmtR ⟨zat, 7, zto.d, n, name, variant, args.map PlaceX.d⟩ = (everyL 0 16 placeR (args.map PlaceX.d) && (placeR zto.d && (rnumR n false && (rnameR name true && rnameR variant false)))) := (stmtR_at _ _ 7 rfl rfl).trans (and5 _ _ _ _ _)
   rw [e]
   exact docstmt_7 zat zto.loc zto.sa zto.steps.length zto.sc n name variant aa args.length ac w _ (placeR zto.d) ((zto.loc.toList == []) && decide (zto.steps.length = 0)) _ _ (C140 0 16 (by decide) (by decide)) C18 C142 (CN true) (CV false)
 by_cases hk : kind = 8
 · subst hk
   have e : stmtR ⟨zat, 8, zto.d, n, name, variant, args.map PlaceX.d⟩ = (everyL 0 1 placeR (args.map PlaceX.d) && (placeR zto.d && (rnumR n false && (rnameR name true && rnameR variant true)))) := (stmtR_at _ _ 8 rfl rfl).trans (and5 _ _ _ _ _)
   rw [e]
   exact docstmt_8 zat zto.loc zto.sa zto.steps.length zto.sc n name variant aa args.length ac w _ (placeR zto.d) ((zto.loc.toList == []) && decide (zto.steps.length = 0)) _ _ (C140 0 1 (by decide) (by decide)) C18 C142 (CN true) (CV true)
 by_cases hk : kind = 9
 · subst hk
   have e : stmtR ⟨zat, 9, zto.d, n, name, variant, args.map PlaceX.d⟩ = (everyL 1 1 placeR (args.map PlaceX.d) && (placeR zto.d && (rnumR n false && (rnameR name false && rnameR variant false)))) := (stmtR_at _ _ 9 rfl rfl).trans (and5 _ _ _ _ _)
   rw [e]
   exact docstmt_9 zat zto.loc zto.sa zto.steps.length zto.sc n name variant aa args.length ac w _ (placeR zto.d) ((zto.loc.toList == []) && decide (zto.steps.length = 0)) _ _ (C140 1 1 (by decide) (by decide)) C18 C142 (CN false) (CV false)
 by_cases hk : kind = 10
 · subst hk
   have e : stmtR ⟨zat, 10, zto.d, n, name, variant, args.map PlaceX.d⟩ = (everyL 1 1 placeR (args.map PlaceX.d) && (placeR zto.d && (rnumR n false && (rnameR name false && rnameR variant false)))) := (stmtR_at _ _ 10 rfl rfl).trans (and5 _ _ _ _ _)
   rw [e]
   exact docstmt_10 zat zto.loc zto.sa zto.steps.length zto.sc n name variant aa args.length ac w _ (placeR zto.d) ((zto.loc.toList == []) && decide (zto.steps.length = 0)) _ _ (C140 1 1 (by decide) (by decide)) C18 C142 (CN false) (CV false)
 by_cases hk : kind = 11
 · subst hk
   have e : stmtR ⟨zat, 11, zto.d, n, name, variant, args.map PlaceX.d⟩ = (everyL 1 1 placeR (args.map PlaceX.d) && (((zto.loc.toList == []) && decide (zto.steps.length = 0)) && (rnumR n false && (rnameR name false && rnameR variant false)))) := (stmtR_at _ _ 11 rfl rfl).trans (and5 _ _ _ _ _)
   rw [e]
   exact docstmt_11 zat zto.loc zto.sa zto.steps.length zto.sc n name variant aa args.length ac w _ (placeR zto.d) ((zto.loc.toList == []) && decide (zto.steps.length = 0)) _ _ (C140 1 1 (by decide) (by decide)) C18 C142 (CN false) (CV false)
 have e : stmtR ⟨zat, kind, zto.d, n, name, variant, args.map PlaceX.d⟩ = false := by
  have hp : stmtP kind = ⟨false, false, false, false, false, 0, 0, 0, 0, 0, 0⟩ := by
   unfold stmtP
   rw [if_neg (by assumption : ¬ kind = 1)]
   rw [if_neg (by assumption : ¬ kind = 2)]
   rw [if_neg (by assumption : ¬ kind = 3)]
   rw [if_neg (by assumption : ¬ kind = 4)]
   rw [if_neg (by assumption : ¬ kind = 5)]
   rw [if_neg (by assumption : ¬ kind = 6)]
   rw [if_neg (by assumption : ¬ kind = 7)]
   rw [if_neg (by assumption : ¬ kind = 8)]
   rw [if_neg (by assumption : ¬ kind = 9)]
   rw [if_neg (by assumption : ¬ kind = 10)]
   rw [if_neg (by assumption : ¬ kind = 11)]
  rw [stmtR_at _ _ kind rfl hp]
  rfl
 rw [e]
 exact docstmt_out zat kind (by omega) zto.loc zto.sa zto.steps.length zto.sc n name variant aa args.length ac w
end Go.Proofs.YtlppbgmcoknliaaGreatDoor
