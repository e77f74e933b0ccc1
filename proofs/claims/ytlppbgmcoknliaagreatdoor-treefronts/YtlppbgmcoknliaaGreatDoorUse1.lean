/-
  The walk of appendPlaces.
-/
import Derived.Test.YtlppbgmcoknliaaGreatDoorApd
import Derived.Deep.AppendLies
namespace Go.Proofs.YtlppbgmcoknliaaGreatDoor
set_option linter.unusedVariables false
open Go.RowKit

theorem run_append_zero {P : Program} {w : World} (base : Nat) (t ty e : TypeId) (i : TypeInfo) (size : Nat) (ht : P.underlying t = some (.slice e)) (hi : P.info? e = some i)
    (v : Value) (n c : Nat) (ao : Option Addr) (xs : List Value) (hown : w.ownsRow base e size v n xs) : (Builtin.append_ #[t, t] ty #[v, .slice ao 0 c]).run P w = .ok v w := by
  rcases hown.2 with ⟨rfl, rfl⟩ | ⟨g, cap, cur, rfl, hbg, hg, hnc, hcm, hcs, htake⟩
  · cases ao <;> simp [Builtin.append_, run_underlying ht, sizeOf, typeInfo, hi, Builtin.lenOf, Builtin.firstCells, loadCells, loadCellsFrom]
  · cases ao <;> simp [Builtin.append_, run_underlying ht, sizeOf, typeInfo, hi, Builtin.lenOf, hnc, Builtin.firstCells, loadCells, loadCellsFrom, storeCells]

/-- append(v, x...), v the call's own, x any slice whose rows lie in memory: where it lies behind it. -/
theorem wpList_append_pl {P : Program} {w : World} {ops : Array Oper} {rest : List Oper} {o : Oper} {a : Act} {Q : Exit → Act → World → Prop} (hgd : o.guard = none) (s x : Operand) (t : TypeId)
    (ho : o.op = .call { callee := .builtin .append, args := #[s, x], argTypes := #[t, t] })
    (base : Nat) (e : TypeId) (i : TypeInfo) (z : Value) (size bytes : Nat) (ht : P.underlying t = some (.slice e)) (hi : P.info? e = some i) (hz : i.zero = some z)
    (hsize : i.size = size) (hby : i.bytes = bytes) (hzs : z.cells.size = size) (hsz : 0 < size)
    (v : Value) (n : Nat) (xs : List Value) (hs : a.eval s = v) (hown : w.ownsRow base e size v n xs)
    (ao : Option Addr) (m c : Nat) (rows : List (List Value)) (hm : rows.length = m) (hx : a.eval x = .slice ao m c) (hsl : Sl w size ao rows) (h1 : ∀ u ∈ rows.flatten, u.oneCell' = true)
    (h63 : n + m ≤ maxLen) (hbytes : (n + m) * bytes ≤ 140737488355328) (hbase : base ≤ w.heap.size)
    (h : ∀ v' w', w'.ownsRow base e size v' (n + m) (xs ++ rows.flatten) → w.grownBy w' v.ownBlock → (v'.ownBlock = v.ownBlock ∨ v'.ownBlock = some w.heap.size) → wpList P ops Q rest (a.put o.dst v') w') : wpList P ops Q (o :: rest) a w := by
  by_cases hm0 : m = 0
  · subst hm0
    have e0 : rows = [] := List.length_eq_zero_iff.1 hm
    subst e0
    refine wpList_plain hgd fun K hK => ?_
    have hrun := run_append_zero (P := P) (w := w) base t o.type e i size ht hi v n c ao xs hown
    unfold Oper.wp
    simp [execOp, ho, resolve, invoke, builtin, hs, hx, hrun, Result.andThen]
    refine hK _ _ (h v w (by simpa using hown) ⟨rfl, rfl, rfl, Nat.le_refl _, fun _ _ _ => rfl⟩ (.inl rfl))
  · cases ao with
    | none =>
      rcases hsl.at_ with h0 | ⟨b, off, e, _⟩
      · rw [h0] at hm; exact absurd hm.symm hm0
      · cases e
    | some p =>
      refine wpList_append_lies w hgd s x t ho base e i z size bytes ht hi hz hsize hby hzs hsz v n xs hs hown p m c rows.flatten hx (by rw [flat_len hsl.len, hm]) (fun j u hj => ?_) h1 (by omega) h63 hbytes hbase w.heap.size rfl fun g cap w' h1 h2 h3 _ => h _ w' h1 h2 (h3.imp (fun h => h.symm) (fun h => by rw [h]; rfl))
      rcases hsl.at_ with h0 | ⟨b, off, e, hlt, hc⟩
      · rw [h0] at hj; simp at hj
      · cases e
        obtain ⟨j1, r, i1, hj1, hi1, e1⟩ := flat_of hsl.len hj
        rw [Addr.add_lit, e1, ← Nat.add_assoc]
        exact hc j1 r i1 u hj1 hi1

theorem Sl.grown {w w' : World} {k : Nat} {a : Option Addr} {rows : List (List Value)} {row : Option Nat} (h : Sl w k a rows) (hne : rows = [] ∨ ∀ ad, a = some ad → row ≠ some ad.block) (hg : w.grownBy w' row) : Sl w' k a rows := by
  refine ⟨h.len, h.big, ?_⟩
  rcases h.at_ with h0 | ⟨b, off, e, hlt, hc⟩
  · exact .inl h0
  · rcases hne with h0 | hne
    · exact .inl h0
    · refine .inr ⟨b, off, e, Nat.lt_of_lt_of_le hlt hg.size, fun j r i v hr hv => ?_⟩
      rw [World.cell?_of_block (w := w) (hg.block b hlt (fun e2 => hne _ e e2.symm))]
      exact hc j r i v hr hv

theorem row_kept {w w' : World} {B : Nat} {e : TypeId} {size : Nat} {v : Value} {n : Nat} {xs : List Value} (h : w.ownsRow B e size v n xs) (hb : Below w.heap.size w w') : w'.ownsRow B e size v n xs := by
  refine h.kept (row := none) ⟨hb.os, hb.tape, hb.output, hb.size, fun j hj _ => hb.block j hj⟩ ?_
  cases hv : v.ownBlock with
  | none => exact .inl rfl
  | some g => exact .inr (by simp)
/-- A list of places of the call's own, each one's steps apart from the list's row. -/
structure PLs (B : Nat) (w : World) (v : Value) (ps : List PlaceX) : Prop where
  own : w.ownsRow B 24 2 v ps.length (ps.map PlaceX.row).flatten
  at_ : ∀ p ∈ ps, p.At w
  new : ∀ p ∈ ps, p.New B
  apart : ∀ p ∈ ps, p.steps = [] ∨ ∀ ad, p.sa = some ad → v.ownBlock ≠ some ad.block
  size : B ≤ w.heap.size
theorem PLs.on {B : Nat} {w w' : World} {v : Value} {ps : List PlaceX} (h : PLs B w v ps) (hb : Below w.heap.size w w') : PLs B w' v ps :=
  ⟨row_kept h.own hb, fun p hp => (h.at_ p hp).on hb, h.new, h.apart, Nat.le_trans h.size hb.size⟩
theorem PLs.nil (B : Nat) (w : World) (h : B ≤ w.heap.size) : PLs B w (.slice none 0 0) [] :=
  ⟨World.ownsRow_nil _ _ _ _, fun p hp => by simp at hp, fun p hp => by simp at hp, fun p hp => by simp at hp, h⟩
/-- Behind an append. -/
theorem PLs.add {B L : Nat} {w w' : World} {v v' : Value} {ps ys : List PlaceX} (h : PLs B w v ps) (hL : B ≤ L) (hlt : ∀ g, v.ownBlock = some g → g < L) (hy : ∀ y ∈ ys, y.At w ∧ y.New L)
    (ho : w'.ownsRow B 24 2 v' (ps.length + ys.length) ((ps.map PlaceX.row).flatten ++ (ys.map PlaceX.row).flatten)) (hg : w.grownBy w' v.ownBlock) (hl : v'.ownBlock = v.ownBlock ∨ v'.ownBlock = some w.heap.size) : PLs B w' v' (ps ++ ys) := by
  have hyap : ∀ y ∈ ys, y.steps = [] ∨ ∀ ad, y.sa = some ad → v.ownBlock ≠ some ad.block := fun y hyy => by
    rcases (hy y hyy).2 with h0 | ⟨g, off, e, hge⟩
    · exact .inl (List.length_eq_zero_iff.1 h0)
    · refine .inr fun ad had hv => ?_
      rw [e] at had
      cases had
      have := hlt g hv
      omega
  have hst : ∀ p : PlaceX, p.At w → p.steps = [] ∨ ∀ ad, p.sa = some ad → ad.block < w.heap.size := fun p hp => by
    rcases Sl.at_ hp with h0 | ⟨b, off, e, hlt, _⟩
    · exact .inl (by simpa [strs] using h0)
    · exact .inr fun ad had => by rw [e] at had; cases had; exact hlt
  have hall : ∀ p ∈ ps ++ ys, p.At w ∧ (p.steps = [] ∨ ∀ ad, p.sa = some ad → v.ownBlock ≠ some ad.block) ∧ p.New B := fun p hp => by
    rcases List.mem_append.1 hp with hp | hp
    · exact ⟨h.at_ p hp, h.apart p hp, h.new p hp⟩
    · exact ⟨(hy p hp).1, hyap p hp, (hy p hp).2.mono hL⟩
  refine ⟨by rw [List.length_append, List.map_append, List.flatten_append]; exact ho, fun p hp => Sl.grown (hall p hp).1 ((hall p hp).2.1.imp (fun e => by rw [e]; rfl) id) hg, fun p hp => (hall p hp).2.2, fun p hp => ?_, Nat.le_trans h.size hg.size⟩
  rcases hl with e | e
  · rw [e]; exact (hall p hp).2.1
  · rcases hst p (hall p hp).1 with h0 | h0
    · exact .inl h0
    · refine .inr fun ad had hv => ?_
      rw [e] at hv
      have h1 := Option.some.inj hv
      have h2 := h0 ad had
      omega
theorem PLs.shape {B : Nat} {w : World} {v : Value} {ps : List PlaceX} (h : PLs B w v ps) : ∃ a c, v = .slice a ps.length c := by
  rcases h.own.2 with ⟨e1, e2⟩ | ⟨g, cap, cur, e1, _⟩
  · exact ⟨none, 0, by rw [e1, e2]⟩
  · exact ⟨_, _, e1⟩
theorem infoP : ∃ i0, Tryz.prog.info? 24 = some i0 ∧ i0.zero = some (.agg #[.string ⟨#[]⟩, .slice none 0 0]) ∧ i0.size = 2 ∧ i0.bytes ≤ 1000 := by
  have := cinfo_place
  cases hh : Tryz.prog.info? 24 with
  | none => rw [hh] at this; cases this
  | some i => rw [hh] at this; simp only [Option.map_some, Option.some.injEq, Prod.mk.injEq, decide_eq_true_eq] at this; exact ⟨i, rfl, this.1, this.2.1, this.2.2⟩
theorem honeP (xs : List PlaceX) : ∀ u ∈ (xs.map PlaceX.row).flatten, u.oneCell' = true := by intro u hu; obtain ⟨r, hr, hu⟩ := List.mem_flatten.1 hu; obtain ⟨x, _, rfl⟩ := List.mem_map.1 hr; simp only [PlaceX.row, List.mem_cons, List.not_mem_nil, or_false] at hu; rcases hu with rfl | rfl <;> rfl
/-- The place that a statement stores into, if there is one. -/
def toD (p : PlaceD) : List PlaceD := if (p.loc.toList == []) = true then [] else [p]
theorem grown_below {B : Nat} {W0 w w' : World} {v : Value} {n : Nat} {xs : List Value} (h : Below B W0 w) (ho : w.ownsRow B 24 2 v n xs) (hB : B ≤ w.heap.size) (hg : w.grownBy w' v.ownBlock) : Below B W0 w' := h.grown hg hB fun k hk => (ho.lt k hk).1

/-- A list of these places is answered. -/
def AppPost (W0 : World) (w : World) (v : Value) (ds : List PlaceD) (e : Ending) (w' : World) : Prop := ∃ v' ps', e = .returned v' ∧ PLs W0.heap.size w' v' ps' ∧ ps'.map PlaceX.d = ds ∧ Below W0.heap.size W0 w' ∧ w.heap.size ≤ w'.heap.size ∧ ∀ k : Nat, k < w.heap.size → some k ≠ v.ownBlock → w'.heap[k]? = w.heap[k]?

set_option maxHeartbeats 2000000 in
set_option maxRecDepth 100000 in
theorem appendPlaces_any (W0 : World) (v : Value) (ps : List PlaceX) (aa : Option Addr) (args : List PlaceX) (ac : Nat) (tp : PlaceX) (w : World) (hps : PLs W0.heap.size w v ps) (ha : Pls W0 aa args) (ht : tp.At W0) (hbel : Below W0.heap.size W0 w) (hbig : ps.length + args.length + 1 ≤ 1048576) :
    Calls Tryz.prog 115 #[v, .slice aa args.length ac, .agg #[.string tp.loc, .slice tp.sa tp.steps.length tp.sc]] w (AppPost W0 w v (ps.map PlaceX.d ++ args.map PlaceX.d ++ toD tp.d)) := by
  obtain ⟨i0, hi, hz0, hz1, hz2⟩ := infoP
  have c150 : Hid (∀ W, Below w.heap.size w W → Calls Tryz.prog 150 #[.slice aa args.length ac, .func (.func 75) #[] #[]] W fun e w' => ∃ a' c' ys, e = .returned (.slice a' args.length c') ∧ ys.length = args.length ∧ ys.map PlaceX.d = args.map PlaceX.d ∧ Pls w' a' ys ∧ (NewA W.heap.size a' ys.length ∧ ∀ y ∈ ys, y.New W.heap.size) ∧ Below W.heap.size W w') := hidIt fun W hW =>
    anew_place aa args ac W (ha.on (hbel.trans (hW.mono hbel.size))) fun W2 p hp hW2 => (clone_p p W2 (PlaceX.At.on (PlaceX.At.on (ha.2 p hp) (hbel.trans (hW.mono hbel.size))) hW2)).mono fun e w1 ⟨y, h1, h2, h3, h4⟩ => ⟨y, h1, h2, h3.1, h3.2, h4⟩
  have c75 : Hid (∀ W, Below W0.heap.size W0 W → Calls Tryz.prog 75 #[.agg #[.string tp.loc, .slice tp.sa tp.steps.length tp.sc]] W fun e w' => ∃ y : PlaceX, e = .returned (.agg #[.string y.loc, .slice y.sa y.steps.length y.sc]) ∧ y.d = tp.d ∧ (y.At w' ∧ y.New W.heap.size) ∧ Below W.heap.size W w') := hidIt fun W hW => clone_p tp W (ht.on hW)
  have HP := hidIt hps
  have HB := hidIt hbel
  have hz2 := hidIt hz2
  clear ha ht
  obtain ⟨al, cl, rfl⟩ := hps.shape
  clear hps hbel
  have hb1 := hidIt (below_new w (.cells #[.string tp.loc, .slice tp.sa tp.steps.length tp.sc] 24))
  have H1 := hidIt (heap_alloc_new w (.cells #[.string tp.loc, .slice tp.sa tp.steps.length tp.sc] 24))
  obtain ⟨n, hn⟩ : ∃ n, args.length = n := ⟨_, rfl⟩
  rw [hn] at c150 hbig ⊢
  have hn := hidIt hn
  obtain ⟨R, hR1⟩ : ∃ R, (tp.loc.toList == []) = R := ⟨_, rfl⟩
  have HR : Hid (toD tp.d = if R = true then [] else [tp.d]) := hidIt (by unfold toD; rw [← hR1]; rfl)
  have HSZ : Hid ((w.alloc (.cells #[.string tp.loc, .slice tp.sa tp.steps.length tp.sc] 24)).heap.size = w.heap.size + 1) := hidIt (World.size_alloc _ _)
  go_enter Tryz.func115, Tryz.ntmps115
  go_wp2_with (go_at_call 150; refine (c150.out _ hb1.out).mono ?_)
  rintro e w2 ⟨a', c', ys, rfl, hyl, hyd, hys, hyn, hq⟩
  have hb2 := hidIt (below_next hb1.out hq)
  have H2 := hidIt (heap_on H1.out hq)
  have HP2 := hidIt (HP.out.on hb2.out)
  have HYS := hidIt hys
  have HYL := hidIt hyl
  have HYD := hidIt hyd
  have HYN : Hid (∀ y ∈ ys, y.At w2 ∧ y.New (w.heap.size + 1)) := hidIt fun y hy => ⟨hys.2 y hy, by rw [← HSZ.out]; exact hyn.2 y hy⟩
  have hB2 := hidIt (HB.out.trans (hb2.out.mono HB.out.size))
  clear hyl hyd hys hyn hq c150
  go_wp2_with (at_builtin; refine wpList_append_pl rfl _ _ 46 rfl W0.heap.size 24 i0 _ 2 i0.bytes Tryz.underlying46 hi hz0 hz1 rfl rfl (by decide) _ _ _ rfl HP2.out.own a' n c' (ys.map PlaceX.row) ?q0 rfl HYS.out.1 (honeP ys) ?q1 ?q2 HP2.out.size ?_)
  case q0 => rw [List.length_map, HYL.out]
  case q1 => unfold maxLen; omega
  case q2 => exact Nat.le_trans (Nat.mul_le_mul (show _ ≤ 2097152 by omega) hz2.out) (by decide)
  intro v' w3 hown hgr hlie
  have HP3 : Hid (PLs W0.heap.size w3 v' (ps ++ ys)) := hidIt (HP2.out.add (L := w.heap.size + 1) (Nat.le_trans HP.out.size (Nat.le_succ _)) (fun g hg => Nat.lt_succ_of_lt (HP.out.own.lt g hg).2) HYN.out (by rw [HYL.out, hn.out] at *; exact hown) hgr hlie)
  have hB3 := hidIt (grown_below hB2.out HP2.out.own HP2.out.size hgr)
  have H3 : Hid (w3.heap[w.heap.size]? = some (.cells #[.string tp.loc, .slice tp.sa tp.steps.length tp.sc] 24 (0, 0))) := hidIt (by
    rw [hgr.block w.heap.size (Array.getElem?_eq_some_iff.1 H2.out).1 (fun e => absurd (HP.out.own.lt _ e.symm).2 (Nat.lt_irrefl _))]
    exact H2.out)
  have KP3 : Hid (w.heap.size ≤ w3.heap.size ∧ ∀ k : Nat, k < w.heap.size → some k ≠ (Value.slice al ps.length cl).ownBlock → w3.heap[k]? = w.heap[k]? ∧ some k ≠ v'.ownBlock) := hidIt ⟨Nat.le_trans hb2.out.size hgr.size, fun k hk hne => ⟨by rw [hgr.block k (Nat.lt_of_lt_of_le hk hb2.out.size) hne, hb2.out.block k hk], by
    rcases hlie with e | e
    · rw [e]; exact hne
    · rw [e]
      intro h
      have h1 := Option.some.inj h
      have h2 := hb2.out.size
      omega⟩⟩
  clear hown hgr hlie
  obtain ⟨qs, hqs⟩ : ∃ qs, ps ++ ys = qs := ⟨_, rfl⟩
  rw [hqs] at HP3
  have HQS : Hid (qs.length = ps.length + n ∧ qs.map PlaceX.d = ps.map PlaceX.d ++ args.map PlaceX.d) := hidIt ⟨by have := HYL.out; have := hn.out; rw [← hqs, List.length_append]; omega, by rw [← hqs, List.map_append, HYD.out]⟩
  clear hqs
  obtain ⟨a3, c3, rfl⟩ := HP3.out.shape
  have p0 : w3.cell? ⟨w.heap.size, 0, none⟩ = some (.string tp.loc) := cell_at H3.out 0
  have p1 : w3.cell? ⟨w.heap.size, 1, none⟩ = some (.slice tp.sa tp.steps.length tp.sc) := cell_at H3.out 1
  cases R with
  | true =>
    go_wp2
    go_ret
    refine ⟨_, qs, rfl, HP3.out, ?_, hB3.out, KP3.out.1, fun k hk hne => (KP3.out.2 k hk hne).1⟩
    rw [HR.out, HQS.out.2]; simp
  | false =>
    go_wp2_with (go_at_call 75; refine (c75.out _ hB3.out).mono ?_)
    rintro e w4 ⟨y, rfl, hyd1, ⟨hya1, hyn1⟩, hq4⟩
    have SZ4 := hidIt hq4.size
    have KP4 : Hid (∀ k : Nat, k < w3.heap.size → (w4.alloc (.cells #[.string y.loc, .slice y.sa y.steps.length y.sc] 24)).heap[k]? = w3.heap[k]?) := hidIt fun k hk => by rw [(below_new w4 _).block k (Nat.lt_of_lt_of_le hk hq4.size), hq4.block k hk]
    have HP4 := hidIt ((HP3.out.on hq4).on (below_new w4 (.cells #[.string y.loc, .slice y.sa y.steps.length y.sc] 24)))
    have hB4 := hidIt ((hB3.out.trans (hq4.mono HP3.out.size)).trans ((below_new w4 (.cells #[.string y.loc, .slice y.sa y.steps.length y.sc] 24)).mono (Nat.le_trans HP3.out.size hq4.size)))
    have HY := hidIt (And.intro hyd1 (And.intro (hya1.on (below_new w4 (.cells #[.string y.loc, .slice y.sa y.steps.length y.sc] 24))) hyn1))
    have HSL : Hid (Sl (w4.alloc (.cells #[.string y.loc, .slice y.sa y.steps.length y.sc] 24)) 2 (some ⟨w4.heap.size, 0, none⟩) [y.row]) := hidIt ⟨fun r hr => by cases List.mem_singleton.1 hr; rfl, by simp, .inr ⟨_, _, rfl, by rw [World.size_alloc]; omega, fun j r i u hj hi => by
      cases j with
      | zero =>
        simp at hj
        subst hj
        rw [cell_at (heap_alloc_new w4 _)]
        simpa [PlaceX.row] using hi
      | succ j => simp at hj⟩⟩
    clear hyd1 hya1 hyn1 hq4 c75 p0 p1
    go_wp2_with (at_builtin; refine wpList_append_pl rfl _ _ 46 rfl W0.heap.size 24 i0 _ 2 i0.bytes Tryz.underlying46 hi hz0 hz1 rfl rfl (by decide) _ _ _ rfl HP4.out.own _ 1 1 [y.row] rfl rfl HSL.out ?q4 ?q5 ?q6 HP4.out.size ?_)
    case q4 => exact honeP [y]
    case q5 => have := HQS.out.1; unfold maxLen; omega
    case q6 => exact Nat.le_trans (Nat.mul_le_mul (show _ ≤ 2097152 by have := HQS.out.1; omega) hz2.out) (by decide)
    intro v5 w5 hown hgr hlie
    have HP5 : Hid (PLs W0.heap.size w5 v5 (qs ++ [y])) := hidIt (HP4.out.add (L := w3.heap.size) HP3.out.size (fun g hg => (HP3.out.own.lt g hg).2) (fun z hz => by cases List.mem_singleton.1 hz; exact HY.out.2) (by simpa using hown) hgr (by rw [World.size_alloc]; exact hlie))
    have hB5 := hidIt (grown_below hB4.out HP4.out.own HP4.out.size hgr)
    have KP5 : Hid (w.heap.size ≤ w5.heap.size ∧ ∀ k : Nat, k < w.heap.size → some k ≠ (Value.slice al ps.length cl).ownBlock → w5.heap[k]? = w.heap[k]?) := hidIt ⟨Nat.le_trans KP3.out.1 (Nat.le_trans SZ4.out (Nat.le_trans (below_new w4 _).size hgr.size)), fun k hk hne => by
      have hk3 := Nat.lt_of_lt_of_le hk KP3.out.1
      rw [hgr.block k (Nat.lt_of_lt_of_le hk3 (Nat.le_trans SZ4.out (below_new w4 _).size)) (KP3.out.2 k hk hne).2, KP4.out k hk3, (KP3.out.2 k hk hne).1]⟩
    clear hown hgr hlie
    obtain ⟨a5, c5, rfl⟩ := HP5.out.shape
    go_wp2
    go_ret
    refine ⟨_, qs ++ [y], rfl, HP5.out, ?_, hB5.out, KP5.out.1, KP5.out.2⟩
    rw [HR.out, List.map_append, HQS.out.2]
    simp [HY.out.1]
end Go.Proofs.YtlppbgmcoknliaaGreatDoor
