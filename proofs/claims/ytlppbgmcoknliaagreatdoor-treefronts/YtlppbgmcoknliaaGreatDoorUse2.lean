/-
  The walk of places.
-/
import Derived.Test.YtlppbgmcoknliaaGreatDoorUse1
namespace Go.Proofs.YtlppbgmcoknliaaGreatDoor
set_option linter.unusedVariables false
open Go.RowKit

theorem own_ne {w : World} {B : Nat} {e : TypeId} {size : Nat} {v : Value} {n : Nat} {xs : List Value} {k : Nat} {cs : Array Value} {t : TypeId} {fr : Nat × Nat} (h : w.ownsRow B e size v n xs) (hk : w.heap[k]? = some (.cells cs t fr)) (ht : t ≠ e) : some k ≠ v.ownBlock := by
  rcases h.2 with ⟨rfl, _⟩ | ⟨g, cap, cur, rfl, _, hg, _⟩
  · simp [Value.ownBlock]
  · intro e1
    simp only [Value.ownBlock, Option.some.injEq] at e1
    subst e1
    rw [hg] at hk
    simp only [Option.some.injEq, Obj.cells.injEq] at hk
    exact ht hk.2.1.symm
/-- The cells of a row, in whatever world keeps them. -/
theorem Sl.cellsAt {w : World} {k : Nat} {a : Option Addr} {rows : List (List Value)} (h : Sl w k a rows) {j : Nat} {r : List Value} (hj : rows[j]? = some r) :
    ∃ b off, a = some ⟨b, off, none⟩ ∧ ∀ W, Below w.heap.size w W → ∀ (i : Nat) (v : Value), r[i]? = some v → W.cell? ⟨b, off + j * k + i, none⟩ = some v := by
  rcases h.at_ with h0 | ⟨b, off, e, hlt, hc⟩
  · rw [h0] at hj; simp at hj
  · refine ⟨b, off, e, fun W hW i v hv => ?_⟩
    rw [hW.cell (p := ⟨b, off + j * k + i, none⟩) hlt]
    exact hc j r i v hj hv

/-- The places of a statement, a block, a function. -/
def stU (s : StmtX) : List PlaceD := s.args.map PlaceX.d ++ toD s.to.d
def blU (b : BlockX) : List PlaceD := b.stmts.flatMap stU ++ (b.term.args.map PlaceX.d ++ toD b.term.to.d)
def fnU (f : FuncX) : List PlaceD := f.blocks.flatMap blU
/-- At most so many of them. -/
def stN (s : StmtX) : Nat := s.args.length + 1
def blN (b : BlockX) : Nat := (b.stmts.map stN).sum + (b.term.args.length + 1)
def fnN (f : FuncX) : Nat := (f.blocks.map blN).sum
theorem toD_le (p : PlaceD) : (toD p).length ≤ 1 := by unfold toD; split <;> simp
theorem stU_le (s : StmtX) : (stU s).length ≤ stN s := by
  have := toD_le s.to.d
  simp only [stU, stN, List.length_append, List.length_map]
  omega
theorem flat_le {α : Type} {f : α → List PlaceD} {g : α → Nat} (h : ∀ x, (f x).length ≤ g x) : ∀ l : List α, (l.flatMap f).length ≤ (l.map g).sum
  | [] => Nat.le_refl _
  | x :: l => by
    have := h x
    have := flat_le h l
    simp only [List.flatMap_cons, List.length_append, List.map_cons, List.sum_cons]
    omega
theorem blU_le (b : BlockX) : (blU b).length ≤ blN b := by
  have := toD_le b.term.to.d
  have := flat_le stU_le b.stmts
  simp only [blU, blN, List.length_append, List.length_map]
  omega
theorem sum_take {α : Type} (g : α → Nat) : ∀ (l : List α) (k : Nat) (x : α), l[k]? = some x → ((l.take k).map g).sum + g x ≤ (l.map g).sum
  | [], k, x, h => by simp at h
  | a :: l, 0, x, h => by
    simp at h
    subst h
    simp
  | a :: l, k + 1, x, h => by
    have := sum_take g l k x (by simpa using h)
    simp only [List.take_succ_cons, List.map_cons, List.sum_cons]
    omega
theorem flatMap_next {α β : Type} (f : α → List β) (l : List α) (k : Nat) (x : α) (h : l[k]? = some x) : (l.take (k + 1)).flatMap f = (l.take k).flatMap f ++ f x := by
  rw [List.take_add_one, h]
  simp

/-- What places answers. -/
def PlcPost (w : World) (ds : List PlaceD) (e : Ending) (w' : World) : Prop := ∃ v ps, e = .returned v ∧ PLs w.heap.size w' v ps ∧ ps.map PlaceX.d = ds ∧ Below w.heap.size w w'

set_option maxHeartbeats 4000000 in
set_option maxRecDepth 100000 in
theorem places_any (f : FuncX) (w : World) (hf : f.At w) (hbig : fnN f ≤ 1048576) :
    Calls Tryz.prog 73 #[.agg #[.int .i64 f.at_, .string f.name, .slice f.pa f.params.length f.pc, .slice f.la f.locals.length f.lc, .string f.result, .slice f.ba f.blocks.length f.bc]] w (PlcPost w (fnU f)) := by
  obtain ⟨at_, nm, pa, pc, params, la, lc, locals, res, ba, bc, blocks⟩ := f
  have hbl : Hid (Bls w ba blocks) := hidIt hf.2.2
  have n1 : blocks.length ≤ 1048576 := by have := hf.2.2.1.big; rwa [List.length_map] at this
  simp only [fnN, fnU] at hbig ⊢
  have HBIG := hidIt hbig
  clear hf hbig
  have hb0 := hidIt (below_new w (.cells #[.int .i64 at_, .string nm, .slice pa params.length pc, .slice la locals.length lc, .string res, .slice ba blocks.length bc] 45))
  obtain ⟨n, hn⟩ : ∃ n, blocks.length = n := ⟨_, rfl⟩
  rw [hn] at n1 hb0 ⊢
  have hn := hidIt hn
  go_enter Tryz.func73, Tryz.ntmps73
  go_wp2
  have R0 : Hid (PLs w.heap.size (w.alloc (.cells #[.int .i64 at_, .string nm, .slice pa params.length pc, .slice la locals.length lc, .string res, .slice ba n bc] 45)) (.slice none 0 0) []) := hidIt (PLs.nil _ _ hb0.out.size)
  go_loopg [3, 5, 7, 11] n (fun g s3 s5 s7 s11 wr => ∃ k : Nat, k ≤ n ∧ n - k ≤ g ∧ s11 = .int .i64 k ∧ Hid (∃ ps, PLs w.heap.size wr s3 ps ∧ ps.map PlaceX.d = (blocks.take k).flatMap blU ∧ Below w.heap.size w wr))
  case atStart => exact ⟨0, Nat.zero_le _, by omega, rfl, hidIt ⟨[], R0.out, rfl, hb0.out⟩⟩
  case round =>
    clear R0
    obtain ⟨k, hk, hg, rfl, R⟩ := hrel
    obtain ⟨ps, hps, hpd, hbw⟩ := R.out
    clear R
    obtain ⟨a3, c3, rfl⟩ := hps.shape
    by_cases hlt : k < n
    · obtain ⟨x, hx⟩ : ∃ x, blocks[k]? = some x := ⟨_, List.getElem?_eq_getElem (by rw [hn.out]; exact hlt)⟩
      obtain ⟨xa, xn, sa2, sc2, sts, tm⟩ := x
      have hxa : Hid ((⟨xa, xn, sa2, sc2, sts, tm⟩ : BlockX).At w) := hidIt (hbl.out.2 _ (List.mem_of_getElem? hx))
      obtain ⟨b1, o1, rfl, g1⟩ := Sl.cellsAt hbl.out.1 (j := k) (r := (⟨xa, xn, sa2, sc2, sts, tm⟩ : BlockX).row) (by rw [List.getElem?_map, hx]; rfl)
      have g1 := g1 wr hbw
      have HPS := hidIt hps
      have HPD := hidIt hpd
      have HBW := hidIt hbw
      have S1 := sum_take blN blocks k _ hx
      have S2 := flat_le blU_le (blocks.take k)
      have S3 := HBIG.out
      have SUM : Hid (((blocks.take k).flatMap blU).length + blN ⟨xa, xn, sa2, sc2, sts, tm⟩ ≤ 1048576) := hidIt (by omega)
      have NXT := hidIt (flatMap_next blU blocks k _ hx)
      have m1 : sts.length ≤ 1048576 := by have := hxa.out.1.1.big; rwa [List.length_map] at this
      clear hps hpd hbw S1 S2 S3 hx
      have p0 := g1 0 _ rfl
      have p1 := g1 1 _ rfl
      have p2 := g1 2 _ rfl
      have p3 := g1 3 _ rfl
      have p4 := g1 4 _ rfl
      have p5 := g1 5 _ rfl
      have p6 := g1 6 _ rfl
      have p7 := g1 7 _ rfl
      have p8 := g1 8 _ rfl
      have p9 := g1 9 _ rfl
      have p10 := g1 10 _ rfl
      rw [Nat.add_zero] at p0
      clear g1
      go_upto_region 5 with fail
      clear p0 p1 p2 p3 p4 p5 p6 p7 p8 p9 p10
      have hh1 := hidIt (heap_alloc_new wr (.cells #[.int .i64 xa, .string xn, .slice sa2 sts.length sc2, .int .i64 tm.at_, .int .i64 tm.kind, .string tm.to.loc, .slice tm.to.sa tm.to.steps.length tm.to.sc, .string tm.name, .slice tm.aa tm.args.length tm.ac, .slice tm.ba tm.blocks.length tm.bc, .slice tm.ra tm.arms.length tm.rc] 64))
      have HB1 := hidIt (below_next HBW.out ((below_new wr (.cells #[.int .i64 xa, .string xn, .slice sa2 sts.length sc2, .int .i64 tm.at_, .int .i64 tm.kind, .string tm.to.loc, .slice tm.to.sa tm.to.steps.length tm.to.sc, .string tm.name, .slice tm.aa tm.args.length tm.ac, .slice tm.ba tm.blocks.length tm.bc, .slice tm.ra tm.arms.length tm.rc] 64))))
      have HP1 := hidIt (HPS.out.on (below_new wr (.cells #[.int .i64 xa, .string xn, .slice sa2 sts.length sc2, .int .i64 tm.at_, .int .i64 tm.kind, .string tm.to.loc, .slice tm.to.sa tm.to.steps.length tm.to.sc, .string tm.name, .slice tm.aa tm.args.length tm.ac, .slice tm.ba tm.blocks.length tm.bc, .slice tm.ra tm.arms.length tm.rc] 64)))
      obtain ⟨B1, eB⟩ : ∃ B1, B1 = wr.heap.size := ⟨_, rfl⟩
      rw [← eB] at hh1 ⊢
      clear eB
      generalize wr.alloc (.cells #[.int .i64 xa, .string xn, .slice sa2 sts.length sc2, .int .i64 tm.at_, .int .i64 tm.kind, .string tm.to.loc, .slice tm.to.sa tm.to.steps.length tm.to.sc, .string tm.name, .slice tm.aa tm.args.length tm.ac, .slice tm.ba tm.blocks.length tm.bc, .slice tm.ra tm.arms.length tm.rc] 64) = W1 at hh1 HB1 HP1 ⊢
      have q0 : W1.cell? ⟨B1, 0, none⟩ = some (.int .i64 xa) := cell_at hh1.out 0
      have q1 : W1.cell? ⟨B1, 1, none⟩ = some (.string xn) := cell_at hh1.out 1
      have q2 : W1.cell? ⟨B1, 2, none⟩ = some (.slice sa2 sts.length sc2) := cell_at hh1.out 2
      have q3 : W1.cell? ⟨B1, 3, none⟩ = some (.int .i64 tm.at_) := cell_at hh1.out 3
      have q4 : W1.cell? ⟨B1, 4, none⟩ = some (.int .i64 tm.kind) := cell_at hh1.out 4
      have q5 : W1.cell? ⟨B1, 5, none⟩ = some (.string tm.to.loc) := cell_at hh1.out 5
      have q6 : W1.cell? ⟨B1, 6, none⟩ = some (.slice tm.to.sa tm.to.steps.length tm.to.sc) := cell_at hh1.out 6
      have q7 : W1.cell? ⟨B1, 7, none⟩ = some (.string tm.name) := cell_at hh1.out 7
      have q8 : W1.cell? ⟨B1, 8, none⟩ = some (.slice tm.aa tm.args.length tm.ac) := cell_at hh1.out 8
      have q9 : W1.cell? ⟨B1, 9, none⟩ = some (.slice tm.ba tm.blocks.length tm.bc) := cell_at hh1.out 9
      have q10 : W1.cell? ⟨B1, 10, none⟩ = some (.slice tm.ra tm.arms.length tm.rc) := cell_at hh1.out 10
      go_wp2
      clear q0 q1 q2 q3 q4 q5 q6 q7 q8 q9 q10
      go_loopg [3, 7, 18] sts.length (fun g s3 s7 s18 wr2 => ∃ j : Nat, j ≤ sts.length ∧ sts.length - j ≤ g ∧ s18 = .int .i64 j ∧ Hid (∃ ps, PLs w.heap.size wr2 s3 ps ∧ ps.map PlaceX.d = (blocks.take k).flatMap blU ++ (sts.take j).flatMap stU ∧ Below w.heap.size w wr2 ∧ wr2.heap[B1]? = some (.cells #[.int .i64 xa, .string xn, .slice sa2 sts.length sc2, .int .i64 tm.at_, .int .i64 tm.kind, .string tm.to.loc, .slice tm.to.sa tm.to.steps.length tm.to.sc, .string tm.name, .slice tm.aa tm.args.length tm.ac, .slice tm.ba tm.blocks.length tm.bc, .slice tm.ra tm.arms.length tm.rc] 64 (0, 0))))
      case atStart => exact ⟨0, Nat.zero_le _, by omega, rfl, hidIt ⟨ps, HP1.out, by rw [HPD.out]; simp, HB1.out, hh1.out⟩⟩
      case round =>
        clear hh1 HB1 HP1 HPS HPD HBW
        obtain ⟨j, hj, hgj, rfl, R⟩ := hrel
        obtain ⟨qs, hqs, hqd, hbw, hbx⟩ := R.out
        clear R
        obtain ⟨a4, c4, rfl⟩ := hqs.shape
        have HQL : Hid (qs.length + (sts.drop j |>.map stN).sum + (tm.args.length + 1) ≤ 1048576) := hidIt (by
          have e := congrArg List.length hqd
          rw [List.length_map, List.length_append] at e
          have h2 := flat_le stU_le (sts.take j)
          have h3 := SUM.out
          have h4 : (sts.map stN).sum = ((sts.take j).map stN).sum + ((sts.drop j).map stN).sum := by rw [← List.sum_append, ← List.map_append, List.take_append_drop]
          have h5 : blN ⟨xa, xn, sa2, sc2, sts, tm⟩ = (sts.map stN).sum + (tm.args.length + 1) := rfl
          omega)
        have HQ := hidIt hqs
        have HQD := hidIt hqd
        have HBW := hidIt hbw
        have HBX := hidIt hbx
        clear hqs hqd hbw hbx
        by_cases hlj : j < sts.length
        · obtain ⟨y, hy⟩ : ∃ y, sts[j]? = some y := ⟨_, List.getElem?_eq_getElem hlj⟩
          have hya : Hid (y.At w) := hidIt (hxa.out.1.2 y (List.mem_of_getElem? hy))
          obtain ⟨b2, o2, rfl, g2⟩ := Sl.cellsAt hxa.out.1.1 (j := j) (r := y.row) (by rw [List.getElem?_map, hy]; rfl)
          have g2 := g2 wr HBW.out
          have NXY := hidIt (flatMap_next stU sts j y hy)
          have QL2 : Hid (qs.length + y.args.length + 1 ≤ 1048576) := hidIt (by
            have h1 := HQL.out
            have h2 : ((sts.drop j).map stN).sum = stN y + ((sts.drop (j + 1)).map stN).sum := by
              rw [List.drop_eq_getElem_cons hlj, List.map_cons, List.sum_cons, (List.getElem?_eq_some_iff.1 hy).2]
            have h3 : stN y = y.args.length + 1 := rfl
            omega)
          clear hy
          have p0 := g2 0 _ rfl
          have p1 := g2 1 _ rfl
          have p2 := g2 2 _ rfl
          have p3 := g2 3 _ rfl
          have p4 := g2 4 _ rfl
          have p5 := g2 5 _ rfl
          have p6 := g2 6 _ rfl
          have p7 := g2 7 _ rfl
          rw [Nat.add_zero] at p0
          clear g2
          go_upto_region 8 with fail
          clear p0 p1 p2 p3 p4 p5 p6 p7
          have hh2 := hidIt (heap_alloc_new wr (.cells #[.int .i64 y.at_, .int .i64 y.kind, .string y.to.loc, .slice y.to.sa y.to.steps.length y.to.sc, .int .i64 y.n, .string y.name, .string y.variant, .slice y.aa y.args.length y.ac] 68))
          have HB2 := hidIt (below_next HBW.out (below_new wr (.cells #[.int .i64 y.at_, .int .i64 y.kind, .string y.to.loc, .slice y.to.sa y.to.steps.length y.to.sc, .int .i64 y.n, .string y.name, .string y.variant, .slice y.aa y.args.length y.ac] 68)))
          have HQ2 := hidIt (HQ.out.on (below_new wr (.cells #[.int .i64 y.at_, .int .i64 y.kind, .string y.to.loc, .slice y.to.sa y.to.steps.length y.to.sc, .int .i64 y.n, .string y.name, .string y.variant, .slice y.aa y.args.length y.ac] 68)))
          have HX2 := hidIt (heap_on HBX.out (below_new wr (.cells #[.int .i64 y.at_, .int .i64 y.kind, .string y.to.loc, .slice y.to.sa y.to.steps.length y.to.sc, .int .i64 y.n, .string y.name, .string y.variant, .slice y.aa y.args.length y.ac] 68)))
          obtain ⟨B2, eB⟩ : ∃ B2, B2 = wr.heap.size := ⟨_, rfl⟩
          rw [← eB] at hh2 ⊢
          clear eB
          generalize wr.alloc (.cells #[.int .i64 y.at_, .int .i64 y.kind, .string y.to.loc, .slice y.to.sa y.to.steps.length y.to.sc, .int .i64 y.n, .string y.name, .string y.variant, .slice y.aa y.args.length y.ac] 68) = W2 at hh2 HB2 HQ2 HX2 ⊢
          have q0 : W2.cell? ⟨B2, 0, none⟩ = some (.int .i64 y.at_) := cell_at hh2.out 0
          have q1 : W2.cell? ⟨B2, 1, none⟩ = some (.int .i64 y.kind) := cell_at hh2.out 1
          have q2 : W2.cell? ⟨B2, 2, none⟩ = some (.string y.to.loc) := cell_at hh2.out 2
          have q3 : W2.cell? ⟨B2, 3, none⟩ = some (.slice y.to.sa y.to.steps.length y.to.sc) := cell_at hh2.out 3
          have q4 : W2.cell? ⟨B2, 4, none⟩ = some (.int .i64 y.n) := cell_at hh2.out 4
          have q5 : W2.cell? ⟨B2, 5, none⟩ = some (.string y.name) := cell_at hh2.out 5
          have q6 : W2.cell? ⟨B2, 6, none⟩ = some (.string y.variant) := cell_at hh2.out 6
          have q7 : W2.cell? ⟨B2, 7, none⟩ = some (.slice y.aa y.args.length y.ac) := cell_at hh2.out 7
          have c115 := hidIt (appendPlaces_any w (.slice a4 qs.length c4) qs y.aa y.args y.ac y.to W2 HQ2.out hya.out.2 hya.out.1 HB2.out QL2.out)
          go_wp2_with (go_at_call 115; refine c115.out.mono ?_)
          rintro e w3 ⟨v', ps', rfl, h1, h2, h3, h4, h5⟩
          have HX3 := hidIt ((h5 B1 (Array.getElem?_eq_some_iff.1 HX2.out).1 (own_ne HQ2.out.own HX2.out (by decide))).trans HX2.out)
          have K1 := hidIt h1
          have K2 := hidIt h2
          have K3 := hidIt h3
          clear h1 h2 h3 h4 h5 c115 q0 q1 q2 q3 q4 q5 q6 q7
          obtain ⟨a5, c5, rfl⟩ := K1.out.shape
          go_wp2
          go_roundg (sts.length - (j + 1))
          case measure => omega
          case rel => exact ⟨j + 1, by omega, by omega, by go_num, hidIt ⟨ps', K1.out, by rw [K2.out, HQD.out, NXY.out]; simp [stU], K3.out, HX3.out⟩⟩
        · have : j = sts.length := by omega
          subst this
          have q0 : wr.cell? ⟨B1, 0, none⟩ = some (.int .i64 xa) := cell_at HBX.out 0
          have q1 : wr.cell? ⟨B1, 1, none⟩ = some (.string xn) := cell_at HBX.out 1
          have q2 : wr.cell? ⟨B1, 2, none⟩ = some (.slice sa2 sts.length sc2) := cell_at HBX.out 2
          have q3 : wr.cell? ⟨B1, 3, none⟩ = some (.int .i64 tm.at_) := cell_at HBX.out 3
          have q4 : wr.cell? ⟨B1, 4, none⟩ = some (.int .i64 tm.kind) := cell_at HBX.out 4
          have q5 : wr.cell? ⟨B1, 5, none⟩ = some (.string tm.to.loc) := cell_at HBX.out 5
          have q6 : wr.cell? ⟨B1, 6, none⟩ = some (.slice tm.to.sa tm.to.steps.length tm.to.sc) := cell_at HBX.out 6
          have q7 : wr.cell? ⟨B1, 7, none⟩ = some (.string tm.name) := cell_at HBX.out 7
          have q8 : wr.cell? ⟨B1, 8, none⟩ = some (.slice tm.aa tm.args.length tm.ac) := cell_at HBX.out 8
          have q9 : wr.cell? ⟨B1, 9, none⟩ = some (.slice tm.ba tm.blocks.length tm.bc) := cell_at HBX.out 9
          have q10 : wr.cell? ⟨B1, 10, none⟩ = some (.slice tm.ra tm.arms.length tm.rc) := cell_at HBX.out 10
          have c115 := hidIt (appendPlaces_any w (.slice a4 qs.length c4) qs tm.aa tm.args tm.ac tm.to wr HQ.out hxa.out.2.2.1 hxa.out.2.1 HBW.out (by have := HQL.out; omega))
          go_wp2_with (go_at_call 115; refine c115.out.mono ?_)
          rintro e w3 ⟨v', ps', rfl, h1, h2, h3, h4, h5⟩
          have K1 := hidIt h1
          have K2 := hidIt h2
          have K3 := hidIt h3
          clear h1 h2 h3 h4 h5 c115 q0 q1 q2 q3 q4 q5 q6 q7 q8 q9 q10
          obtain ⟨a5, c5, rfl⟩ := K1.out.shape
          go_wp2
          go_roundg (n - (k + 1))
          case measure => omega
          case rel => exact ⟨k + 1, by omega, by omega, by go_num, hidIt ⟨ps', K1.out, by rw [K2.out, HQD.out, NXT.out, List.take_length]; simp [blU], K3.out⟩⟩
    · have : k = n := by omega
      subst this
      go_wp2
      go_ret
      exact ⟨_, ps, rfl, hps, by rw [hpd, List.take_of_length_le (by rw [hn.out]; exact Nat.le_refl _)], hbw⟩

end Go.Proofs.YtlppbgmcoknliaaGreatDoor
