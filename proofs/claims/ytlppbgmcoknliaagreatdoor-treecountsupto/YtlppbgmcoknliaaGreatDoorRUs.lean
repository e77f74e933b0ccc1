/-
  The walk of the document's own Uses.
-/
import Derived.Test.YtlppbgmcoknliaaGreatDoorUse4
import Derived.Test.YtlppbgmcoknliaaGreatDoorKyk
namespace Go.Proofs.YtlppbgmcoknliaaGreatDoor
set_option linter.unusedVariables false
open Go.RowKit

/-- The place that is stored into, if there is one, and where it lies. -/
def toX (p : PlaceX) : List PlaceX := if (p.loc.toList == []) = true then [] else [p]
def stUX (s : StmtX) : List PlaceX := s.args ++ toX s.to
def blUX (b : BlockX) : List PlaceX := b.stmts.flatMap stUX ++ (b.term.args ++ toX b.term.to)
def fnUX (f : FuncX) : List PlaceX := f.blocks.flatMap blUX
theorem toX_d (p : PlaceX) : (toX p).map PlaceX.d = toD p.d := by
 unfold toX toD PlaceX.d
 split <;> rfl
theorem stUX_d (s : StmtX) : (stUX s).map PlaceX.d = stU s := by unfold stUX stU; rw [List.map_append, toX_d]
theorem blUX_d (b : BlockX) : (blUX b).map PlaceX.d = blU b := by
 unfold blUX blU
 rw [List.map_append, List.map_append, toX_d, List.map_flatMap]
 congr 1
 exact congrArg (fun g => b.stmts.flatMap g) (funext stUX_d)
theorem fnUX_d (f : FuncX) : (fnUX f).map PlaceX.d = fnU f := by
 unfold fnUX fnU
 rw [List.map_flatMap]
 exact congrArg (fun g => f.blocks.flatMap g) (funext blUX_d)
/-- A list of places that the call owns, of places that lie in the memory that it found. -/
structure RU (w : World) (v : Value) (ps : List PlaceX) (W : World) : Prop where
 own : W.ownsRow w.heap.size 24 2 v ps.length (ps.map PlaceX.row).flatten
 at_ : ∀ p ∈ ps, p.At w
 bel : Below w.heap.size w W
theorem RU.add {w W W' : World} {v v' : Value} {ps ys : List PlaceX} (h : RU w v ps W) (hy : ∀ p ∈ ys, p.At w) (ho : W'.ownsRow w.heap.size 24 2 v' (ps.length + ys.length) ((ps.map PlaceX.row).flatten ++ (ys.map PlaceX.row).flatten)) (hg : W.grownBy W' v.ownBlock) : RU w v' (ps ++ ys) W' :=
 ⟨by rw [List.length_append, List.map_append, List.flatten_append]; exact ho, fun p hp => (List.mem_append.1 hp).elim (h.at_ p) (hy p), grown_below h.bel h.own h.bel.size hg⟩
theorem RU.on {w W W' : World} {v : Value} {ps : List PlaceX} (h : RU w v ps W) (hb : Below W.heap.size W W') : RU w v ps W' := ⟨row_kept h.own hb, h.at_, below_next h.bel hb⟩
def RUPost (w : World) (ps : List PlaceX) (e : Ending) (w' : World) : Prop := ∃ v, e = .returned v ∧ RU w v ps w'
/-- A block that isn't of the list's type stays as it is. -/
theorem RU.box {w W W' : World} {v : Value} {ps : List PlaceX} {B : Nat} {cs : Array Value} {t : TypeId} {fr : Nat × Nat} (h : RU w v ps W) (hB : W.heap[B]? = some (.cells cs t fr)) (ht : t ≠ 24) (hg : W.grownBy W' v.ownBlock) : W'.heap[B]? = some (.cells cs t fr) := by
 rw [hg.block B (Array.getElem?_eq_some_iff.1 hB).1 (own_ne h.own hB ht)]
 exact hB
theorem sl_one {W : World} {B : Nat} {p : PlaceX} {t : TypeId} (h : W.heap[B]? = some (.cells #[.string p.loc, .slice p.sa p.steps.length p.sc] t (0, 0))) : Sl W 2 (some ⟨B, 0, none⟩) ([p].map PlaceX.row) := by
 refine ⟨fun r hr => ?_, by simp, .inr ⟨B, 0, rfl, (Array.getElem?_eq_some_iff.1 h).1, fun j r i v hj hi => ?_⟩⟩
 · cases List.mem_singleton.1 hr; rfl
 · cases j with
   | succ j => simp at hj
   | zero =>
    simp at hj
    subst hj
    rw [cell_at h, show 0 + 0 * 2 + i = i by omega, List.getElem?_toArray]
    exact hi

set_option maxHeartbeats 4000000 in
set_option maxRecDepth 100000 in
theorem ruses_any (f : FuncX) (w : World) (hf : f.At w) (hbig : fnN f ≤ 1048576) :
 Calls Tryz.prog 26 #[.agg #[.int .i64 f.at_, .string f.name, .slice f.pa f.params.length f.pc, .slice f.la f.locals.length f.lc, .string f.result, .slice f.ba f.blocks.length f.bc]] w (RUPost w (fnUX f)) := by
 obtain ⟨at_, nm, pa, pc, params, la, lc, locals, res, ba, bc, blocks⟩ := f
 have hbl : Hid (Bls w ba blocks) := hidIt hf.2.2
 have n1 : blocks.length ≤ 1048576 := by have := hf.2.2.1.big; rwa [List.length_map] at this
 simp only [fnN, fnUX] at hbig ⊢
 have HBIG := hidIt hbig
 clear hf hbig
 obtain ⟨n, hn⟩ : ∃ n, blocks.length = n := ⟨_, rfl⟩
 rw [hn] at n1 ⊢
 have hn := hidIt hn
 obtain ⟨i0, hi, hz0, hz1, hz2⟩ := infoP
 have I0 : Hid (RU w (.slice (some ⟨w.heap.size + 1, 0, none⟩) 0 0) [] ((w.alloc (.cells #[.int .i64 at_, .string nm, .slice pa params.length pc, .slice la locals.length lc, .string res, .slice ba n bc] 45)).alloc (.cells #[] 24)) ∧ ((w.alloc (.cells #[.int .i64 at_, .string nm, .slice pa params.length pc, .slice la locals.length lc, .string res, .slice ba n bc] 45)).alloc (.cells #[] 24)).heap[w.heap.size]? = some (.cells #[.int .i64 at_, .string nm, .slice pa params.length pc, .slice la locals.length lc, .string res, .slice ba n bc] 45 (0, 0))) := hidIt (by
  have hh := two_at (w := w) (cs := #[.int .i64 at_, .string nm, .slice pa params.length pc, .slice la locals.length lc, .string res, .slice ba n bc]) (ds := #[]) (t := 45) (u := 24) rfl rfl (Below.refl _ _)
  exact ⟨⟨⟨rfl, .inr ⟨w.heap.size + 1, 0, #[], rfl, Nat.le_succ _, hh.2, Nat.le_refl _, Nat.zero_le _, rfl, rfl⟩⟩, fun p hp => by simp at hp, below_next (below_new w _) (below_new _ _)⟩, hh.1⟩)
 go_enter Tryz.func26, Tryz.ntmps26
 go_wp2_with fail
 generalize (w.alloc (.cells #[.int .i64 at_, .string nm, .slice pa params.length pc, .slice la locals.length lc, .string res, .slice ba n bc] 45)).alloc (.cells #[] 24) = W0 at I0 ⊢
 go_loopg [3, 4] n (fun g s3 s4 wr => ∃ k : Nat, k ≤ n ∧ n - k ≤ g ∧ s4 = .int .i64 k ∧ Hid (RU w s3 ((blocks.take k).flatMap blUX) wr ∧ wr.heap[w.heap.size]? = some (.cells #[.int .i64 at_, .string nm, .slice pa params.length pc, .slice la locals.length lc, .string res, .slice ba n bc] 45 (0, 0))))
 case atStart => exact ⟨0, Nat.zero_le _, by omega, rfl, I0⟩
 case round =>
  clear I0
  obtain ⟨k, hk, hg, rfl, R⟩ := hrel
  have f5 : wr.cell? ⟨w.heap.size, 5, none⟩ = some (.slice ba n bc) := cell_at R.out.2 5
  by_cases hlt : k < n
  · obtain ⟨x, hx⟩ : ∃ x, blocks[k]? = some x := ⟨_, List.getElem?_eq_getElem (by rw [hn.out]; exact hlt)⟩
    obtain ⟨xa, xn, sa2, sc2, sts, tm⟩ := x
    have hxa : Hid ((⟨xa, xn, sa2, sc2, sts, tm⟩ : BlockX).At w) := hidIt (hbl.out.2 _ (List.mem_of_getElem? hx))
    obtain ⟨b1, o1, rfl, g1⟩ := Sl.cell hbl.out.1 (j := k) (r := (⟨xa, xn, sa2, sc2, sts, tm⟩ : BlockX).row) (by rw [List.getElem?_map, hx]; rfl)
    have g1 := g1 wr R.out.1.bel
    have S2 : ((blocks.take k).flatMap blU).length ≤ ((blocks.take k).map blN).sum := flat_le blU_le (blocks.take k)
    have S4 : ((blocks.take k).flatMap blUX).length = ((blocks.take k).flatMap blU).length := by rw [← List.length_map (f := PlaceX.d), List.map_flatMap]; exact congrArg (fun g => ((blocks.take k).flatMap g).length) (funext blUX_d : (fun a => (blUX a).map PlaceX.d) = blU)
    have SUM : Hid (((blocks.take k).flatMap blUX).length + blN ⟨xa, xn, sa2, sc2, sts, tm⟩ ≤ 1048576) := hidIt (by have S3 := HBIG.out; have S1 := sum_take blN blocks k _ hx; have e : ((blocks.take k).map blN).sum + blN ⟨xa, xn, sa2, sc2, sts, tm⟩ ≤ (blocks.map blN).sum := S1; omega)
    have NXT := hidIt (flatMap_next blUX blocks k _ hx)
    have m1 : sts.length ≤ 1048576 := by have := hxa.out.1.1.big; rwa [List.length_map] at this
    clear S2 S4 hx
    have p0 := g1 0 _ rfl
    have p1 := g1 1 _ rfl
    have p2 := g1 2 _ rfl
    have p3 := g1 3 _ rfl
    have p4 := g1 4 _ rfl
    have p5 := g1 5 _ rfl
    have p6 := g1 6 _ rfl
    have p7 := g1 7 _ rfl
    have p8 := g1 8 _ rfl
    have p9 := g1 9 _ rfl
    have p10 := g1 10 _ rfl
    rw [Nat.add_zero] at p0
    clear g1
    go_upto_region 6 with fail
    clear p0 p1 p2 p3 p4 p5 p6 p7 p8 p9 p10 f5
    obtain ⟨m, hm⟩ : ∃ m, sts.length = m := ⟨_, rfl⟩
    have hm := hidIt hm
    rw [hm.out] at m1 ⊢
    have g2 := below_new wr (.cells #[.int .i64 xa, .string xn, .slice sa2 m sc2, .int .i64 tm.at_, .int .i64 tm.kind, .string tm.to.loc, .slice tm.to.sa tm.to.steps.length tm.to.sc, .string tm.name, .slice tm.aa tm.args.length tm.ac, .slice tm.ba tm.blocks.length tm.bc, .slice tm.ra tm.arms.length tm.rc] 64)
    have I1 := hidIt (R.out.1.on g2)
    have F1 := hidIt (heap_on R.out.2 g2)
    have B1' := hidIt (heap_alloc_new wr (.cells #[.int .i64 xa, .string xn, .slice sa2 m sc2, .int .i64 tm.at_, .int .i64 tm.kind, .string tm.to.loc, .slice tm.to.sa tm.to.steps.length tm.to.sc, .string tm.name, .slice tm.aa tm.args.length tm.ac, .slice tm.ba tm.blocks.length tm.bc, .slice tm.ra tm.arms.length tm.rc] 64))
    clear R g2
    obtain ⟨B1, eB⟩ : ∃ B1, B1 = wr.heap.size := ⟨_, rfl⟩
    rw [← eB] at B1' ⊢
    clear eB
    generalize wr.alloc (.cells #[.int .i64 xa, .string xn, .slice sa2 m sc2, .int .i64 tm.at_, .int .i64 tm.kind, .string tm.to.loc, .slice tm.to.sa tm.to.steps.length tm.to.sc, .string tm.name, .slice tm.aa tm.args.length tm.ac, .slice tm.ba tm.blocks.length tm.bc, .slice tm.ra tm.arms.length tm.rc] 64) = W1 at I1 F1 B1' ⊢
    have J0 : Hid (RU w u3 ((blocks.take k).flatMap blUX ++ (sts.take 0).flatMap stUX) W1 ∧ W1.heap[w.heap.size]? = some (.cells #[.int .i64 at_, .string nm, .slice pa params.length pc, .slice la locals.length lc, .string res, .slice (some ⟨b1, o1, none⟩) n bc] 45 (0, 0)) ∧ W1.heap[B1]? = some (.cells #[.int .i64 xa, .string xn, .slice sa2 m sc2, .int .i64 tm.at_, .int .i64 tm.kind, .string tm.to.loc, .slice tm.to.sa tm.to.steps.length tm.to.sc, .string tm.name, .slice tm.aa tm.args.length tm.ac, .slice tm.ba tm.blocks.length tm.bc, .slice tm.ra tm.arms.length tm.rc] 64 (0, 0))) := hidIt ⟨by rw [List.take_zero, List.flatMap_nil, List.append_nil]; exact I1.out, F1.out, B1'.out⟩
    clear I1 F1 B1'
    have HSUM : Hid (((blocks.take k).flatMap blUX).length + ((sts.map stN).sum + (tm.args.length + 1)) ≤ 1048576) := SUM
    go_wp2_with fail
    go_loopg [3, 6] m (fun g s3 s6 wr => ∃ j : Nat, j ≤ m ∧ m - j ≤ g ∧ s6 = .int .i64 j ∧ Hid (RU w s3 ((blocks.take k).flatMap blUX ++ (sts.take j).flatMap stUX) wr ∧ wr.heap[w.heap.size]? = some (.cells #[.int .i64 at_, .string nm, .slice pa params.length pc, .slice la locals.length lc, .string res, .slice (some ⟨b1, o1, none⟩) n bc] 45 (0, 0)) ∧ wr.heap[B1]? = some (.cells #[.int .i64 xa, .string xn, .slice sa2 m sc2, .int .i64 tm.at_, .int .i64 tm.kind, .string tm.to.loc, .slice tm.to.sa tm.to.steps.length tm.to.sc, .string tm.name, .slice tm.aa tm.args.length tm.ac, .slice tm.ba tm.blocks.length tm.bc, .slice tm.ra tm.arms.length tm.rc] 64 (0, 0))))
    case atStart => exact ⟨0, Nat.zero_le _, by omega, rfl, J0⟩
    case round =>
     clear J0
     obtain ⟨j, hj, hg2, rfl, R⟩ := hrel
     have q2 : wr.cell? ⟨B1, 2, none⟩ = some (.slice sa2 m sc2) := cell_at R.out.2.2 2
     by_cases hlt2 : j < m
     · obtain ⟨y, hy⟩ : ∃ y, sts[j]? = some y := ⟨_, List.getElem?_eq_getElem (by rw [hm.out]; exact hlt2)⟩
       have hya : Hid (y.At w) := hidIt (hxa.out.1.2 _ (List.mem_of_getElem? hy))
       obtain ⟨b2, o2, rfl, g9⟩ := Sl.cell hxa.out.1.1 (j := j) (r := y.row) (by rw [List.getElem?_map]; rw [hy]; rfl)
       have G2 : Hid (∀ W, Below w.heap.size w W → W.cell? ⟨b2, o2 + j * 8 + 2, none⟩ = some (.string y.to.loc) ∧ W.cell? ⟨b2, o2 + j * 8 + 3, none⟩ = some (.slice y.to.sa y.to.steps.length y.to.sc) ∧ W.cell? ⟨b2, o2 + j * 8 + 7, none⟩ = some (.slice y.aa y.args.length y.ac)) := hidIt (fun W hW => by
        have h1 := g9 W hW
        exact ⟨h1 2 _ rfl, h1 3 _ rfl, h1 7 _ rfl⟩)
       have HY := hidIt hy
       obtain ⟨p2, p3, p7⟩ := G2.out _ R.out.1.bel
       have L1 : ((sts.take j).flatMap stUX).length + stN y ≤ (sts.map stN).sum := by
        have h1 := sum_take stN sts j _ hy
        have h2 : ((sts.take j).flatMap stU).length ≤ ((sts.take j).map stN).sum := flat_le stU_le (sts.take j)
        have h3 : ((sts.take j).flatMap stUX).length = ((sts.take j).flatMap stU).length := by rw [← List.length_map (f := PlaceX.d), List.map_flatMap]; exact congrArg (fun g => ((sts.take j).flatMap g).length) (funext stUX_d : (fun a => (stUX a).map PlaceX.d) = stU)
        omega
       have L2 : Hid (((blocks.take k).flatMap blUX ++ (sts.take j).flatMap stUX).length + (y.args.length + 1) ≤ 1048576) := hidIt (by
        have h1 := HSUM.out
        rw [List.length_append]
        have h2 : ((sts.take j).flatMap stUX).length + (y.args.length + 1) ≤ (sts.map stN).sum := L1
        omega)
       have NX2 := hidIt (flatMap_next stUX sts j _ hy)
       clear g9 hy L1
       obtain ⟨ps, hps⟩ : ∃ ps, (blocks.take k).flatMap blUX ++ (sts.take j).flatMap stUX = ps := ⟨_, rfl⟩
       have HPS := hidIt hps
       rw [hps] at R L2
       clear hps
       have hL := L2.out
       have hmaxb : (ps.length + y.args.length) * i0.bytes ≤ 1048576 * 1000 := Nat.mul_le_mul (by omega) hz2
       have hmaxb2 : (ps.length + y.args.length + 1) * i0.bytes ≤ 1048576 * 1000 := Nat.mul_le_mul (by omega) hz2
       go_wp2_with (at_builtin; go_must (refine wpList_append_sl rfl _ _ 46 rfl w.heap.size 24 i0 _ 2 i0.bytes Tryz.underlying46 hi hz0 hz1 rfl rfl (by decide) _ _ _ rfl R.out.1.own y.aa y.args.length y.ac (y.args.map PlaceX.row) (by rw [List.length_map]) rfl (hya.out.2.1.on R.out.1.bel) (honeP _) (by unfold maxLen; omega) (by omega) R.out.1.bel.size ?_))
       intro v2 w2 hown2 hgrow
       have R2 : Hid (RU w v2 (ps ++ y.args) w2 ∧ w2.heap[w.heap.size]? = some (.cells #[.int .i64 at_, .string nm, .slice pa params.length pc, .slice la locals.length lc, .string res, .slice (some ⟨b1, o1, none⟩) n bc] 45 (0, 0)) ∧ w2.heap[B1]? = some (.cells #[.int .i64 xa, .string xn, .slice (some ⟨b2, o2, none⟩) m sc2, .int .i64 tm.at_, .int .i64 tm.kind, .string tm.to.loc, .slice tm.to.sa tm.to.steps.length tm.to.sc, .string tm.name, .slice tm.aa tm.args.length tm.ac, .slice tm.ba tm.blocks.length tm.bc, .slice tm.ra tm.arms.length tm.rc] 64 (0, 0))) := hidIt ⟨R.out.1.add hya.out.2.2 hown2 hgrow, R.out.1.box R.out.2.1 (by decide) hgrow, R.out.1.box R.out.2.2 (by decide) hgrow⟩
       clear hown2 hgrow R p2 p3 p7 q2
       have q2 : w2.cell? ⟨B1, 2, none⟩ = some (.slice (some ⟨b2, o2, none⟩) m sc2) := cell_at R2.out.2.2 2
       obtain ⟨p2, p3, p7⟩ := G2.out _ R2.out.1.bel
       cases hto : (y.to.loc.toList == []) with
       | true =>
        have E3 : Hid (ps ++ y.args = (blocks.take k).flatMap blUX ++ (sts.take (j + 1)).flatMap stUX) := hidIt (by
         rw [NX2.out, ← HPS.out, List.append_assoc]
         unfold stUX toX
         rw [if_pos hto, List.append_nil])
        go_wp2_with fail
        go_roundg (m - (j + 1))
        case measure => omega
        case rel => exact ⟨j + 1, by omega, by omega, by go_num, hidIt ⟨by rw [← E3.out]; exact R2.out.1, R2.out.2⟩⟩
       | false =>
        have E3 : Hid (ps ++ y.args ++ [y.to] = (blocks.take k).flatMap blUX ++ (sts.take (j + 1)).flatMap stUX) := hidIt (by
         rw [NX2.out, ← HPS.out]
         unfold stUX toX
         rw [if_neg (by rw [hto]; decide)]
         simp only [List.append_assoc])
        have EL : (ps ++ y.args).length = ps.length + y.args.length := List.length_append
        go_wp2_with (at_builtin; go_must (refine wpList_append_sl rfl _ _ 46 rfl w.heap.size 24 i0 _ 2 i0.bytes Tryz.underlying46 hi hz0 hz1 rfl rfl (by decide) _ _ _ rfl ((R2.out.1.on (below_new w2 _)).own) (some ⟨w2.heap.size, 0, none⟩) 1 1 ([y.to].map PlaceX.row) rfl rfl (sl_one (heap_alloc_new w2 _)) (honeP _) (by rw [EL]; unfold maxLen; omega) (by rw [EL]; omega) (R2.out.1.on (below_new w2 _)).bel.size ?_))
        intro v3 w3 hown3 hgrow3
        have R3 : Hid (RU w v3 (ps ++ y.args ++ [y.to]) w3 ∧ w3.heap[w.heap.size]? = some (.cells #[.int .i64 at_, .string nm, .slice pa params.length pc, .slice la locals.length lc, .string res, .slice (some ⟨b1, o1, none⟩) n bc] 45 (0, 0)) ∧ w3.heap[B1]? = some (.cells #[.int .i64 xa, .string xn, .slice (some ⟨b2, o2, none⟩) m sc2, .int .i64 tm.at_, .int .i64 tm.kind, .string tm.to.loc, .slice tm.to.sa tm.to.steps.length tm.to.sc, .string tm.name, .slice tm.aa tm.args.length tm.ac, .slice tm.ba tm.blocks.length tm.bc, .slice tm.ra tm.arms.length tm.rc] 64 (0, 0))) := hidIt (by
         have g := R2.out.1.on (below_new w2 (.cells #[.string y.to.loc, .slice y.to.sa y.to.steps.length y.to.sc] 24))
         exact ⟨g.add (fun p hp => by cases List.mem_singleton.1 hp; exact hya.out.1) (by simpa [List.append_assoc] using hown3) hgrow3, g.box (heap_on R2.out.2.1 (below_new w2 _)) (by decide) hgrow3, g.box (heap_on R2.out.2.2 (below_new w2 _)) (by decide) hgrow3⟩)
        clear hown3 hgrow3
        go_wp2_with fail
        go_roundg (m - (j + 1))
        case measure => omega
        case rel => exact ⟨j + 1, by omega, by omega, by go_num, hidIt ⟨by rw [← E3.out]; exact R3.out.1, R3.out.2⟩⟩
     · have : j = m := by omega
       subst this
       have E4 : Hid (RU w u3 ((blocks.take k).flatMap blUX ++ sts.flatMap stUX) wr) := hidIt (by have := R.out.1; rwa [List.take_of_length_le (l := sts) (by rw [hm.out]; exact Nat.le_refl _)] at this)
       have F4 := hidIt R.out.2
       have L1 : (sts.flatMap stUX).length ≤ (sts.map stN).sum := by
        have h2 : (sts.flatMap stU).length ≤ (sts.map stN).sum := flat_le stU_le sts
        have h3 : (sts.flatMap stUX).length = (sts.flatMap stU).length := by rw [← List.length_map (f := PlaceX.d), List.map_flatMap]; exact congrArg (fun g => (sts.flatMap g).length) (funext stUX_d : (fun a => (stUX a).map PlaceX.d) = stU)
        omega
       have L2 : Hid (((blocks.take k).flatMap blUX ++ sts.flatMap stUX).length + (tm.args.length + 1) ≤ 1048576) := hidIt (by
        have h1 := HSUM.out
        rw [List.length_append]
        omega)
       clear R L1
       obtain ⟨ps, hps⟩ : ∃ ps, (blocks.take k).flatMap blUX ++ sts.flatMap stUX = ps := ⟨_, rfl⟩
       have HPS := hidIt hps
       rw [hps] at E4 L2
       clear hps
       have hL := L2.out
       have hta : Hid (tm.At w) := hidIt hxa.out.2
       have hmaxb : (ps.length + tm.args.length) * i0.bytes ≤ 1048576 * 1000 := Nat.mul_le_mul (by omega) hz2
       have hmaxb2 : (ps.length + tm.args.length + 1) * i0.bytes ≤ 1048576 * 1000 := Nat.mul_le_mul (by omega) hz2
       obtain ⟨-, -, -, -, -, q5, q6, -, q8⟩ := cells_9 F4.out.2
       go_wp2_with (at_builtin; go_must (refine wpList_append_sl rfl _ _ 46 rfl w.heap.size 24 i0 _ 2 i0.bytes Tryz.underlying46 hi hz0 hz1 rfl rfl (by decide) _ _ _ rfl E4.out.own tm.aa tm.args.length tm.ac (tm.args.map PlaceX.row) (by rw [List.length_map]) rfl (hta.out.2.1.1.on E4.out.bel) (honeP _) (by unfold maxLen; omega) (by omega) E4.out.bel.size ?_))
       intro v2 w2 hown2 hgrow
       have R2 : Hid (RU w v2 (ps ++ tm.args) w2 ∧ w2.heap[w.heap.size]? = some (.cells #[.int .i64 at_, .string nm, .slice pa params.length pc, .slice la locals.length lc, .string res, .slice (some ⟨b1, o1, none⟩) n bc] 45 (0, 0)) ∧ w2.heap[B1]? = some (.cells #[.int .i64 xa, .string xn, .slice sa2 j sc2, .int .i64 tm.at_, .int .i64 tm.kind, .string tm.to.loc, .slice tm.to.sa tm.to.steps.length tm.to.sc, .string tm.name, .slice tm.aa tm.args.length tm.ac, .slice tm.ba tm.blocks.length tm.bc, .slice tm.ra tm.arms.length tm.rc] 64 (0, 0))) := hidIt ⟨E4.out.add hta.out.2.1.2 hown2 hgrow, E4.out.box F4.out.1 (by decide) hgrow, E4.out.box F4.out.2 (by decide) hgrow⟩
       clear hown2 hgrow E4 F4 q2 q5 q6 q8
       obtain ⟨-, -, -, -, -, q5, q6⟩ := cells_7 R2.out.2.2
       cases hto : (tm.to.loc.toList == []) with
       | true =>
        have E3 : Hid (ps ++ tm.args = (blocks.take (k + 1)).flatMap blUX) := hidIt (by
         rw [NXT.out, ← HPS.out]
         unfold blUX toX
         simp only
         rw [if_pos hto, List.append_nil, List.append_assoc])
        go_wp2_with fail
        go_roundg (n - (k + 1))
        case measure => omega
        case rel => exact ⟨k + 1, by omega, by omega, by go_num, hidIt ⟨by rw [← E3.out]; exact R2.out.1, R2.out.2.1⟩⟩
       | false =>
        have E3 : Hid (ps ++ tm.args ++ [tm.to] = (blocks.take (k + 1)).flatMap blUX) := hidIt (by
         rw [NXT.out, ← HPS.out]
         unfold blUX toX
         simp only
         rw [if_neg (by rw [hto]; decide)]
         simp only [List.append_assoc])
        have EL : (ps ++ tm.args).length = ps.length + tm.args.length := List.length_append
        go_wp2_with (at_builtin; go_must (refine wpList_append_sl rfl _ _ 46 rfl w.heap.size 24 i0 _ 2 i0.bytes Tryz.underlying46 hi hz0 hz1 rfl rfl (by decide) _ _ _ rfl ((R2.out.1.on (below_new w2 _)).own) (some ⟨w2.heap.size, 0, none⟩) 1 1 ([tm.to].map PlaceX.row) rfl rfl (sl_one (heap_alloc_new w2 _)) (honeP _) (by rw [EL]; unfold maxLen; omega) (by rw [EL]; omega) (R2.out.1.on (below_new w2 _)).bel.size ?_))
        intro v3 w3 hown3 hgrow3
        have R3 : Hid (RU w v3 (ps ++ tm.args ++ [tm.to]) w3 ∧ w3.heap[w.heap.size]? = some (.cells #[.int .i64 at_, .string nm, .slice pa params.length pc, .slice la locals.length lc, .string res, .slice (some ⟨b1, o1, none⟩) n bc] 45 (0, 0))) := hidIt (by
         have g := R2.out.1.on (below_new w2 (.cells #[.string tm.to.loc, .slice tm.to.sa tm.to.steps.length tm.to.sc] 24))
         exact ⟨g.add (fun p hp => by cases List.mem_singleton.1 hp; exact hta.out.1) (by simpa [List.append_assoc] using hown3) hgrow3, g.box (heap_on R2.out.2.1 (below_new w2 _)) (by decide) hgrow3⟩)
        clear hown3 hgrow3
        go_wp2_with fail
        go_roundg (n - (k + 1))
        case measure => omega
        case rel => exact ⟨k + 1, by omega, by omega, by go_num, hidIt ⟨by rw [← E3.out]; exact R3.out.1, R3.out.2⟩⟩
  · have : k = n := by omega
    subst this
    have E1 : Hid (RU w u3 (blocks.flatMap blUX) wr) := hidIt (by have := R.out.1; rwa [List.take_of_length_le (by rw [hn.out]; exact Nat.le_refl _)] at this)
    clear hi hz0 hz1 hz2
    go_wp2_with fail
    go_ret
    exact ⟨_, rfl, E1.out⟩
end Go.Proofs.YtlppbgmcoknliaaGreatDoor
