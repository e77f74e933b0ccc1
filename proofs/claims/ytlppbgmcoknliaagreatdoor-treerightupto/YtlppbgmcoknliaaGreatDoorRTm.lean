/-
  The document's own Term, whatever the kind.
-/
import Derived.Test.YtlppbgmcoknliaaGreatDoorRTm1
import Derived.Test.YtlppbgmcoknliaaGreatDoorRTm2
import Derived.Test.YtlppbgmcoknliaaGreatDoorRTm3
namespace Go.Proofs.YtlppbgmcoknliaaGreatDoor
set_option linter.unusedVariables false
open Go.RowKit

theorem and7 (b1 p a t b2 r e : Bool) : (true && (t && (a && (p && ((b1 && b2) && (e && r)))))) = (b1 && (p && (a && (t && (b2 && (r && e)))))) := by
 cases b1 <;> cases p <;> cases a <;> cases t <;> cases b2 <;> cases r <;> cases e <;> rfl
theorem everyL_eq {α : Type} (n : Nat) (r : α → Bool) (xs : List α) : everyL (n : Int) (n : Int) r xs = (decide (xs.length = n) && xs.all r) := by
 unfold everyL
 by_cases h : xs.length = n
 · rw [decide_eq_true h, decide_eq_true (by omega), decide_eq_true (by omega), Bool.true_and]
 · rw [decide_eq_false h, Bool.false_and]
   by_cases h2 : (n : Int) ≤ xs.length
   · rw [decide_eq_false (show ¬ ((xs.length : Int) ≤ n) by omega), Bool.false_and, Bool.and_false]
   · rw [decide_eq_false h2, Bool.false_and]
theorem everyL_16 {α : Type} (r : α → Bool) (xs : List α) : everyL 1 16 r xs = ((decide (1 ≤ xs.length) && decide (xs.length ≤ 16)) && xs.all r) := by
 unfold everyL
 rw [Bool.and_assoc, show decide ((1 : Int) ≤ xs.length) = decide (1 ≤ xs.length) from decide_eq_decide.2 (by omega), show decide ((xs.length : Int) ≤ 16) = decide (xs.length ≤ 16) from decide_eq_decide.2 (by omega)]
theorem termR_at (s : TermD) (p : PartsD) (k : Int) (h : s.kind = k) (hp : termP k = p) : termR s = termR' s p := by
 subst h
 subst hp
 rfl

set_option maxRecDepth 100000 in
set_option maxHeartbeats 4000000 in
theorem docterm_any (x : TermX) (w : World) (hx : x.At w) (hf : x.d.Fit) :
 Calls Tryz.prog 105 #[.agg #[.int .i64 x.at_, .int .i64 x.kind, .string x.to.loc, .slice x.to.sa x.to.steps.length x.to.sc, .string x.name, .slice x.aa x.args.length x.ac, .slice x.ba x.blocks.length x.bc, .slice x.ra x.arms.length x.rc]] w fun e w' => e = .returned (.bool (termR x.d)) ∧ Below w.heap.size w w' := by
 have C18 : Hid (∀ W, Below w.heap.size w W → Calls Tryz.prog 18 #[.agg #[.string x.to.loc, .slice x.to.sa x.to.steps.length x.to.sc]] W fun e w' => e = .returned (.bool (placeR x.to.d)) ∧ Below W.heap.size W w') := hidIt fun W hW => docplace_any x.to W (PlaceX.At.on hx.1 hW) hf.1
 have C142 : Hid (∀ W, Below w.heap.size w W → Calls Tryz.prog 142 #[.agg #[.string x.to.loc, .slice x.to.sa x.to.steps.length x.to.sc]] W fun e w' => e = .returned (.bool ((x.to.loc.toList == []) && decide (x.to.steps.length = 0))) ∧ Below W.heap.size W w') := hidIt fun W hW => docnone_any _ _ _ _ W
 have C140 : ∀ lo hi : Nat, lo ≤ 100 → hi ≤ 100 → Hid (∀ W, Below w.heap.size w W → Calls Tryz.prog 140 #[.slice x.aa x.args.length x.ac, .int .i64 (lo : Int), .int .i64 (hi : Int)] W fun e w' => e = .returned (.bool (everyL (lo : Int) (hi : Int) placeR (x.args.map PlaceX.d))) ∧ Below W.heap.size W w') := fun lo hi h1 h2 => hidIt fun W hW => docplaces_any _ _ _ lo hi W (Pls.on hx.2.1 hW) (fun p hp => hf.2.2.1 p.d (List.mem_map_of_mem hp)) h1 h2
 have CN : ∀ h : Bool, Hid (∀ W, Below w.heap.size w W → Calls Tryz.prog 141 #[.string x.name, .bool h] W fun e w' => e = .returned (.bool (rnameR x.name h)) ∧ Below W.heap.size W w') := fun h => hidIt fun W hW => docopt_any _ h hf.2.1 W
 have HB := hidIt hx.2.2.1
 have HA := hidIt hx.2.2.2
 have FB : Hid (∀ s ∈ x.blocks, fitS s) := hidIt hf.2.2.2.1
 have FA : Hid (∀ a ∈ x.arms, a.Fit) := hidIt hf.2.2.2.2
 clear hx hf
 obtain ⟨zat, kind, zto, name, aa, ac, args, ba, bc, blocks, ra, rc, arms⟩ := x
 simp only [TermX.d] at C18 C142 C140 CN HB HA FB FA ⊢
 by_cases hk : kind = 1
 · subst hk
   have eB : everyL 1 1 nameS blocks = (decide (blocks.length = 1) && blocks.all nameS) := everyL_eq 1 nameS blocks
   have eA : everyL 0 0 armR arms = (decide (arms.length = 0) && arms.all armR) := everyL_eq 0 armR arms
   have e : termR ⟨zat, 1, zto.d, name, args.map PlaceX.d, blocks, arms⟩ = (decide (blocks.length = 1) && (everyL 0 0 placeR (args.map PlaceX.d) && (rnameR name false && (((zto.loc.toList == []) && decide (zto.steps.length = 0)) && (blocks.all nameS && (arms.all armR && decide (arms.length = 0))))))) := by
    rw [termR_at _ _ 1 rfl rfl]
    show (true && (((zto.loc.toList == []) && decide (zto.steps.length = 0)) && (rnameR name false && (everyL 0 0 placeR (args.map PlaceX.d) && (everyL 1 1 nameS blocks && everyL 0 0 armR arms))))) = _
    rw [eB, eA]
    exact and7 _ _ _ _ _ _ _
   rw [e]
   exact docterm_1 zat zto.loc zto.sa zto.steps.length zto.sc name aa args.length ac ba blocks.length bc ra arms.length rc w blocks arms _ _ _ HB HA (hidIt rfl) (hidIt rfl) FB FA (C140 0 0 (by decide) (by decide)) C142 (CN false)
 by_cases hk : kind = 2
 · subst hk
   have eB : everyL 2 2 nameS blocks = (decide (blocks.length = 2) && blocks.all nameS) := everyL_eq 2 nameS blocks
   have eA : everyL 0 0 armR arms = (decide (arms.length = 0) && arms.all armR) := everyL_eq 0 armR arms
   have e : termR ⟨zat, 2, zto.d, name, args.map PlaceX.d, blocks, arms⟩ = (decide (blocks.length = 2) && (everyL 1 1 placeR (args.map PlaceX.d) && (rnameR name false && (((zto.loc.toList == []) && decide (zto.steps.length = 0)) && (blocks.all nameS && (arms.all armR && decide (arms.length = 0))))))) := by
    rw [termR_at _ _ 2 rfl rfl]
    show (true && (((zto.loc.toList == []) && decide (zto.steps.length = 0)) && (rnameR name false && (everyL 1 1 placeR (args.map PlaceX.d) && (everyL 2 2 nameS blocks && everyL 0 0 armR arms))))) = _
    rw [eB, eA]
    exact and7 _ _ _ _ _ _ _
   rw [e]
   exact docterm_2 zat zto.loc zto.sa zto.steps.length zto.sc name aa args.length ac ba blocks.length bc ra arms.length rc w blocks arms _ _ _ HB HA (hidIt rfl) (hidIt rfl) FB FA (C140 1 1 (by decide) (by decide)) C142 (CN false)
 by_cases hk : kind = 3
 · subst hk
   have eB : everyL 0 0 nameS blocks = (decide (blocks.length = 0) && blocks.all nameS) := everyL_eq 0 nameS blocks
   have eA : everyL 1 16 armR arms = ((decide (1 ≤ arms.length) && decide (arms.length ≤ 16)) && arms.all armR) := everyL_16 armR arms
   have e : termR ⟨zat, 3, zto.d, name, args.map PlaceX.d, blocks, arms⟩ = (decide (blocks.length = 0) && (everyL 1 1 placeR (args.map PlaceX.d) && (rnameR name false && (((zto.loc.toList == []) && decide (zto.steps.length = 0)) && (blocks.all nameS && (arms.all armR && (decide (1 ≤ arms.length) && decide (arms.length ≤ 16)))))))) := by
    rw [termR_at _ _ 3 rfl rfl]
    show (true && (((zto.loc.toList == []) && decide (zto.steps.length = 0)) && (rnameR name false && (everyL 1 1 placeR (args.map PlaceX.d) && (everyL 0 0 nameS blocks && everyL 1 16 armR arms))))) = _
    rw [eB, eA]
    exact and7 _ _ _ _ _ _ _
   rw [e]
   exact docterm_3 zat zto.loc zto.sa zto.steps.length zto.sc name aa args.length ac ba blocks.length bc ra arms.length rc w blocks arms _ _ _ HB HA (hidIt rfl) (hidIt rfl) FB FA (C140 1 1 (by decide) (by decide)) C142 (CN false)
 by_cases hk : kind = 4
 · subst hk
   have eB : everyL 1 1 nameS blocks = (decide (blocks.length = 1) && blocks.all nameS) := everyL_eq 1 nameS blocks
   have eA : everyL 0 0 armR arms = (decide (arms.length = 0) && arms.all armR) := everyL_eq 0 armR arms
   have e : termR ⟨zat, 4, zto.d, name, args.map PlaceX.d, blocks, arms⟩ = (decide (blocks.length = 1) && (everyL 0 0 placeR (args.map PlaceX.d) && (rnameR name false && (((zto.loc.toList == []) && decide (zto.steps.length = 0)) && (blocks.all nameS && (arms.all armR && decide (arms.length = 0))))))) := by
    rw [termR_at _ _ 4 rfl rfl]
    show (true && (((zto.loc.toList == []) && decide (zto.steps.length = 0)) && (rnameR name false && (everyL 0 0 placeR (args.map PlaceX.d) && (everyL 1 1 nameS blocks && everyL 0 0 armR arms))))) = _
    rw [eB, eA]
    exact and7 _ _ _ _ _ _ _
   rw [e]
   exact docterm_4 zat zto.loc zto.sa zto.steps.length zto.sc name aa args.length ac ba blocks.length bc ra arms.length rc w blocks arms _ _ _ HB HA (hidIt rfl) (hidIt rfl) FB FA (C140 0 0 (by decide) (by decide)) C142 (CN false)
 by_cases hk : kind = 5
 · subst hk
   have eB : everyL 1 1 nameS blocks = (decide (blocks.length = 1) && blocks.all nameS) := everyL_eq 1 nameS blocks
   have eA : everyL 0 0 armR arms = (decide (arms.length = 0) && arms.all armR) := everyL_eq 0 armR arms
   have e : termR ⟨zat, 5, zto.d, name, args.map PlaceX.d, blocks, arms⟩ = (decide (blocks.length = 1) && (everyL 0 16 placeR (args.map PlaceX.d) && (rnameR name true && (placeR zto.d && (blocks.all nameS && (arms.all armR && decide (arms.length = 0))))))) := by
    rw [termR_at _ _ 5 rfl rfl]
    show (true && (placeR zto.d && (rnameR name true && (everyL 0 16 placeR (args.map PlaceX.d) && (everyL 1 1 nameS blocks && everyL 0 0 armR arms))))) = _
    rw [eB, eA]
    exact and7 _ _ _ _ _ _ _
   rw [e]
   exact docterm_5 zat zto.loc zto.sa zto.steps.length zto.sc name aa args.length ac ba blocks.length bc ra arms.length rc w blocks arms _ _ _ HB HA (hidIt rfl) (hidIt rfl) FB FA (C140 0 16 (by decide) (by decide)) C18 (CN true)
 by_cases hk : kind = 6
 · subst hk
   have eB : everyL 1 1 nameS blocks = (decide (blocks.length = 1) && blocks.all nameS) := everyL_eq 1 nameS blocks
   have eA : everyL 0 0 armR arms = (decide (arms.length = 0) && arms.all armR) := everyL_eq 0 armR arms
   have e : termR ⟨zat, 6, zto.d, name, args.map PlaceX.d, blocks, arms⟩ = (decide (blocks.length = 1) && (everyL 0 16 placeR (args.map PlaceX.d) && (rnameR name true && (placeR zto.d && (blocks.all nameS && (arms.all armR && decide (arms.length = 0))))))) := by
    rw [termR_at _ _ 6 rfl rfl]
    show (true && (placeR zto.d && (rnameR name true && (everyL 0 16 placeR (args.map PlaceX.d) && (everyL 1 1 nameS blocks && everyL 0 0 armR arms))))) = _
    rw [eB, eA]
    exact and7 _ _ _ _ _ _ _
   rw [e]
   exact docterm_6 zat zto.loc zto.sa zto.steps.length zto.sc name aa args.length ac ba blocks.length bc ra arms.length rc w blocks arms _ _ _ HB HA (hidIt rfl) (hidIt rfl) FB FA (C140 0 16 (by decide) (by decide)) C18 (CN true)
 by_cases hk : kind = 7
 · subst hk
   have eB : everyL 0 0 nameS blocks = (decide (blocks.length = 0) && blocks.all nameS) := everyL_eq 0 nameS blocks
   have eA : everyL 0 0 armR arms = (decide (arms.length = 0) && arms.all armR) := everyL_eq 0 armR arms
   have e : termR ⟨zat, 7, zto.d, name, args.map PlaceX.d, blocks, arms⟩ = (decide (blocks.length = 0) && (everyL 1 1 placeR (args.map PlaceX.d) && (rnameR name false && (((zto.loc.toList == []) && decide (zto.steps.length = 0)) && (blocks.all nameS && (arms.all armR && decide (arms.length = 0))))))) := by
    rw [termR_at _ _ 7 rfl rfl]
    show (true && (((zto.loc.toList == []) && decide (zto.steps.length = 0)) && (rnameR name false && (everyL 1 1 placeR (args.map PlaceX.d) && (everyL 0 0 nameS blocks && everyL 0 0 armR arms))))) = _
    rw [eB, eA]
    exact and7 _ _ _ _ _ _ _
   rw [e]
   exact docterm_7 zat zto.loc zto.sa zto.steps.length zto.sc name aa args.length ac ba blocks.length bc ra arms.length rc w blocks arms _ _ _ HB HA (hidIt rfl) (hidIt rfl) FB FA (C140 1 1 (by decide) (by decide)) C142 (CN false)
 have e : termR ⟨zat, kind, zto.d, name, args.map PlaceX.d, blocks, arms⟩ = false := by
  have hp : termP kind = ⟨false, false, false, false, false, 0, 0, 0, 0, 0, 0⟩ := by
   unfold termP
   rw [if_neg (by assumption : ¬ kind = 1)]
   rw [if_neg (by assumption : ¬ kind = 2)]
   rw [if_neg (by assumption : ¬ kind = 3)]
   rw [if_neg (by assumption : ¬ kind = 4)]
   rw [if_neg (by assumption : ¬ kind = 5)]
   rw [if_neg (by assumption : ¬ kind = 6)]
   rw [if_neg (by assumption : ¬ kind = 7)]
  rw [termR_at _ _ kind rfl hp]
  rfl
 rw [e]
 exact docterm_out kind (by omega) zat zto.loc zto.sa zto.steps.length zto.sc name aa args.length ac ba blocks.length bc ra arms.length rc w
end Go.Proofs.YtlppbgmcoknliaaGreatDoor
