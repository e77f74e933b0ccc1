/-
  append of whatever slice to a row that the call owns; slices.Grow of nil, slices.Concat of two, Vars.
  The walk of appendPlaces.
  The walk of places.
  Uses, and the iterator that it hands back.
  A range over an iterator whose elements lie in memory: what the body may take of each one as it comes.
-/
import Derived.Test.YtlppbgmcoknliaaGreatDoorCln3
import Derived.Laws.AppendOwnNone
import Derived.Lib.AppendZeros
import Derived.Deep.AppendLies
import Derived.RangeFuncNested
import Derived.RangeFuncBound
import Derived.RangeFuncCalls
import Derived.RangeFuncLeaves
import Derived.Shelf.Abstract
import Derived.Shelf.RegionOpen
import Derived.OwnWalkIn
import Derived.TacticsInMore
import Derived.LoopNIn
import Derived.LoopIn
namespace Go.Proofs.YtlppbgmcoknliaaGreatDoor
set_option linter.unusedVariables false
open Go.RowKit

theorem run_append_none {P : Program} {w : World} (base : Nat) (t ty e : TypeId) (i : TypeInfo) (size : Nat) (ht : P.underlying t = some (.slice e)) (hi : P.info? e = some i)
 (v : Value) (n c : Nat) (xs : List Value) (hown : w.ownsRow base e size v n xs) : (Builtin.append_ #[t, t] ty #[v, .slice none 0 c]).run P w = .ok v w := by
 rcases hown.2 with ⟨rfl, rfl⟩ | ⟨g, cap, cur, rfl, hbg, hg, hnc, hcm, hcs, htake⟩
 · simp [Builtin.append_, run_underlying ht, sizeOf, typeInfo, hi, Builtin.lenOf, Builtin.firstCells]
 · simp [Builtin.append_, run_underlying ht, sizeOf, typeInfo, hi, Builtin.lenOf, hnc, Builtin.firstCells, storeCells]

/-- append(v, x...), v the call's own, x any slice whose rows lie in memory. -/
theorem wpList_append_sl {P : Program} {w : World} {ops : Array Oper} {rest : List Oper} {o : Oper} {a : Act} {Q : Exit → Act → World → Prop} (hgd : o.guard = none) (s x : Operand) (t : TypeId)
 (ho : o.op = .call { callee := .builtin .append, args := #[s, x], argTypes := #[t, t] })
 (base : Nat) (e : TypeId) (i : TypeInfo) (z : Value) (size bytes : Nat) (ht : P.underlying t = some (.slice e)) (hi : P.info? e = some i) (hz : i.zero = some z)
 (hsize : i.size = size) (hby : i.bytes = bytes) (hzs : z.cells.size = size) (hsz : 0 < size)
 (v : Value) (n : Nat) (xs : List Value) (hs : a.eval s = v) (hown : w.ownsRow base e size v n xs)
 (ao : Option Addr) (m c : Nat) (rows : List (List Value)) (hm : rows.length = m) (hx : a.eval x = .slice ao m c) (hsl : Sl w size ao rows) (h1 : ∀ u ∈ rows.flatten, u.oneCell' = true)
 (h63 : n + m ≤ maxLen) (hbytes : (n + m) * bytes ≤ 140737488355328) (hbase : base ≤ w.heap.size)
 (h : ∀ v' w', w'.ownsRow base e size v' (n + m) (xs ++ rows.flatten) → w.grownBy w' v.ownBlock → wpList P ops Q rest (a.put o.dst v') w') : wpList P ops Q (o :: rest) a w := by
 cases ao with
 | none =>
  have e0 : rows = [] := by
   rcases hsl.at_ with h0 | ⟨b, off, e, _⟩
   · exact h0
   · cases e
  subst e0
  obtain rfl : 0 = m := hm
  refine wpList_plain hgd fun K hK => ?_
  have hrun := run_append_none (P := P) (w := w) base t o.type e i size ht hi v n c xs hown
  unfold Oper.wp
  simp [execOp, ho, resolve, invoke, builtin, hs, hx, hrun, Result.andThen]
  refine hK _ _ (h v w (by simpa using hown) ⟨rfl, rfl, rfl, Nat.le_refl _, fun _ _ _ => rfl⟩)
 | some p =>
  refine wpList_append_own w hgd s x t ho base e i z size bytes ht hi hz hsize hby hzs hsz v n xs hs hown p m c rows.flatten hx (by rw [flat_len hsl.len, hm]) (fun j u hj => ?_) h1 h63 hbytes hbase fun v' w' h1 h2 _ => h v' w' h1 h2
  rcases hsl.at_ with h0 | ⟨b, off, e, hlt, hc⟩
  · rw [h0] at hj; simp at hj
  · cases e
    obtain ⟨j1, r, i1, hj1, hi1, e1⟩ := flat_of hsl.len hj
    rw [Addr.add_lit, e1, ← Nat.add_assoc]
    exact hc j1 r i1 u hj1 hi1

theorem infoV : ∃ i0, Tryz.prog.info? 52 = some i0 ∧ i0.zero = some (.agg #[.string ⟨#[]⟩, .string ⟨#[]⟩]) ∧ i0.size = 2 ∧ i0.bytes ≤ 1000 := by
 have := cinfo_var
 cases hh : Tryz.prog.info? 52 with
 | none => rw [hh] at this; cases this
 | some i => rw [hh] at this; simp only [Option.map_some, Option.some.injEq, Prod.mk.injEq, decide_eq_true_eq] at this; exact ⟨i, rfl, this.1, this.2.1, this.2.2⟩

set_option maxHeartbeats 1000000 in
set_option maxRecDepth 100000 in
theorem grow_nil (n : Nat) (hn : n ≤ 2097152) (w : World) :
 Calls Tryz.prog 116 #[.slice none 0 0, .int .i64 n] w fun e w' => ∃ a c, e = .returned (.slice a 0 c) ∧ w'.ownsRow w.heap.size 52 2 (.slice a 0 c) 0 [] ∧ Below w.heap.size w w' := by
 obtain ⟨i0, hi, hz0, hz1, hz2⟩ := infoV
 by_cases h0 : n = 0
 · subst h0
   clear hi hz0 hz1 hz2
   go_enter Tryz.func116, Tryz.ntmps116
   go_wp2
   go_ret
   exact ⟨none, 0, rfl, World.ownsRow_nil _ _ _ _, Below.refl _ _⟩
 · have hr : ∀ ty, (Builtin.append_ #[42, 3] ty #[.slice none 0 0, .int .i64 (n : Int)]).run Tryz.prog w = .ok (.slice (some ⟨w.heap.size, 0, none⟩) n (grownCap w n 0 52)) (w.drew.alloc (.cells (Builtin.zeroCells (Value.agg #[.string ⟨#[]⟩, .string ⟨#[]⟩]).cells n ++ Builtin.zeroCells (Value.agg #[.string ⟨#[]⟩, .string ⟨#[]⟩]).cells (grownCap w n 0 52 - n)) 52)) := fun ty =>
    Lib.run_append_nil_zeros w 42 3 ty 52 i0 _ .i64 .i64 Tryz.underlying42 Tryz.underlying3 hi hz0 n (by omega) (by omega) (by omega) (by
     have : n * i0.bytes ≤ 2097152 * 1000 := Nat.mul_le_mul hn hz2
     omega)
   have hG := grownCap_le_maxLen w n 0 52 (by unfold maxLen; omega)
   have hGe := grownCap_ge w n 0 52
   have OWN : Hid ((w.drew.alloc (.cells (Builtin.zeroCells (Value.agg #[.string ⟨#[]⟩, .string ⟨#[]⟩]).cells n ++ Builtin.zeroCells (Value.agg #[.string ⟨#[]⟩, .string ⟨#[]⟩]).cells (grownCap w n 0 52 - n)) 52)).ownsRow w.heap.size 52 2 (.slice (some ⟨w.heap.size, 0, none⟩) 0 (grownCap w n 0 52)) 0 []) := hidIt ⟨rfl, .inr ⟨w.heap.size, _, _, rfl, Nat.le_refl _, heap_alloc_new w.drew _, Nat.zero_le _, hG, by
    simp only [Array.size_append, size_zeroCells, Value.cells]
    show n * 2 + (grownCap w n 0 52 - n) * 2 = grownCap w n 0 52 * 2
    omega, rfl⟩⟩
   have BEL : Hid (Below w.heap.size w (w.drew.alloc (.cells (Builtin.zeroCells (Value.agg #[.string ⟨#[]⟩, .string ⟨#[]⟩]).cells n ++ Builtin.zeroCells (Value.agg #[.string ⟨#[]⟩, .string ⟨#[]⟩]).cells (grownCap w n 0 52 - n)) 52))) := hidIt ((Below.refl _ _).drew.alloc (Nat.le_refl _) _)
   generalize (w.drew.alloc (.cells (Builtin.zeroCells (Value.agg #[.string ⟨#[]⟩, .string ⟨#[]⟩]).cells n ++ Builtin.zeroCells (Value.agg #[.string ⟨#[]⟩, .string ⟨#[]⟩]).cells (grownCap w n 0 52 - n)) 52)) = W at hr OWN BEL
   generalize grownCap w n 0 52 = G at hr OWN hG hGe
   have hG2 : (n : Int) ≤ (G : Int) := by omega
   have hp : ¬ ((n : Int) < 0) := by omega
   have hq : (n : Int) > 0 := by omega
   have hmx : G ≤ 9223372036854775807 := by unfold maxLen at hG; omega
   clear hi hz0 hz1 hz2 hG hGe
   go_enter Tryz.func116, Tryz.ntmps116
   go_wp2_with (at_builtin; refine Lib.wpList_append_run _ rfl _ _ _ _ rfl _ _ rfl rfl _ _ (hr _) ?_)
   all_goals (go_ret; exact ⟨_, _, rfl, OWN.out, BEL.out⟩)
end Go.Proofs.YtlppbgmcoknliaaGreatDoor
namespace Go.Proofs.YtlppbgmcoknliaaGreatDoor
set_option linter.unusedVariables false
open Go.RowKit

theorem run_append_zero {P : Program} {w : World} (base : Nat) (t ty e : TypeId) (i : TypeInfo) (size : Nat) (ht : P.underlying t = some (.slice e)) (hi : P.info? e = some i)
 (v : Value) (n c : Nat) (ao : Option Addr) (xs : List Value) (hown : w.ownsRow base e size v n xs) : (Builtin.append_ #[t, t] ty #[v, .slice ao 0 c]).run P w = .ok v w := by
 rcases hown.2 with ⟨rfl, rfl⟩ | ⟨g, cap, cur, rfl, hbg, hg, hnc, hcm, hcs, htake⟩
 · cases ao <;> simp [Builtin.append_, run_underlying ht, sizeOf, typeInfo, hi, Builtin.lenOf, Builtin.firstCells, loadCells, loadCellsFrom]
 · cases ao <;> simp [Builtin.append_, run_underlying ht, sizeOf, typeInfo, hi, Builtin.lenOf, hnc, Builtin.firstCells, loadCells, loadCellsFrom, storeCells]

/-- append(v, x...), v the call's own, x any slice whose rows lie in memory: where it lies behind it. -/
theorem wpList_append_pl {P : Program} {w : World} {ops : Array Oper} {rest : List Oper} {o : Oper} {a : Act} {Q : Exit → Act → World → Prop} (hgd : o.guard = none) (s x : Operand) (t : TypeId)
 (ho : o.op = .call { callee := .builtin .append, args := #[s, x], argTypes := #[t, t] })
 (base : Nat) (e : TypeId) (i : TypeInfo) (z : Value) (size bytes : Nat) (ht : P.underlying t = some (.slice e)) (hi : P.info? e = some i) (hz : i.zero = some z)
 (hsize : i.size = size) (hby : i.bytes = bytes) (hzs : z.cells.size = size) (hsz : 0 < size)
 (v : Value) (n : Nat) (xs : List Value) (hs : a.eval s = v) (hown : w.ownsRow base e size v n xs)
 (ao : Option Addr) (m c : Nat) (rows : List (List Value)) (hm : rows.length = m) (hx : a.eval x = .slice ao m c) (hsl : Sl w size ao rows) (h1 : ∀ u ∈ rows.flatten, u.oneCell' = true)
 (h63 : n + m ≤ maxLen) (hbytes : (n + m) * bytes ≤ 140737488355328) (hbase : base ≤ w.heap.size)
 (h : ∀ v' w', w'.ownsRow base e size v' (n + m) (xs ++ rows.flatten) → w.grownBy w' v.ownBlock → (v'.ownBlock = v.ownBlock ∨ v'.ownBlock = some w.heap.size) → wpList P ops Q rest (a.put o.dst v') w') : wpList P ops Q (o :: rest) a w := by
 by_cases hm0 : m = 0
 · subst hm0
   have e0 : rows = [] := List.length_eq_zero_iff.1 hm
   subst e0
   refine wpList_plain hgd fun K hK => ?_
   have hrun := run_append_zero (P := P) (w := w) base t o.type e i size ht hi v n c ao xs hown
   unfold Oper.wp
   simp [execOp, ho, resolve, invoke, builtin, hs, hx, hrun, Result.andThen]
   refine hK _ _ (h v w (by simpa using hown) ⟨rfl, rfl, rfl, Nat.le_refl _, fun _ _ _ => rfl⟩ (.inl rfl))
 · cases ao with
   | none =>
    rcases hsl.at_ with h0 | ⟨b, off, e, _⟩
    · rw [h0] at hm; exact absurd hm.symm hm0
    · cases e
   | some p =>
    refine wpList_append_lies w hgd s x t ho base e i z size bytes ht hi hz hsize hby hzs hsz v n xs hs hown p m c rows.flatten hx (by rw [flat_len hsl.len, hm]) (fun j u hj => ?_) h1 (by omega) h63 hbytes hbase w.heap.size rfl fun g cap w' h1 h2 h3 _ => h _ w' h1 h2 (h3.imp (fun h => h.symm) (fun h => by rw [h]; rfl))
    rcases hsl.at_ with h0 | ⟨b, off, e, hlt, hc⟩
    · rw [h0] at hj; simp at hj
    · cases e
      obtain ⟨j1, r, i1, hj1, hi1, e1⟩ := flat_of hsl.len hj
      rw [Addr.add_lit, e1, ← Nat.add_assoc]
      exact hc j1 r i1 u hj1 hi1

theorem Sl.grown {w w' : World} {k : Nat} {a : Option Addr} {rows : List (List Value)} {row : Option Nat} (h : Sl w k a rows) (hne : rows = [] ∨ ∀ ad, a = some ad → row ≠ some ad.block) (hg : w.grownBy w' row) : Sl w' k a rows := by
 refine ⟨h.len, h.big, ?_⟩
 rcases h.at_ with h0 | ⟨b, off, e, hlt, hc⟩
 · exact .inl h0
 · rcases hne with h0 | hne
   · exact .inl h0
   · refine .inr ⟨b, off, e, Nat.lt_of_lt_of_le hlt hg.size, fun j r i v hr hv => ?_⟩
     rw [World.cell?_of_block (w := w) (hg.block b hlt (fun e2 => hne _ e e2.symm))]
     exact hc j r i v hr hv

theorem row_kept {w w' : World} {B : Nat} {e : TypeId} {size : Nat} {v : Value} {n : Nat} {xs : List Value} (h : w.ownsRow B e size v n xs) (hb : Below w.heap.size w w') : w'.ownsRow B e size v n xs := by
 refine h.kept (row := none) ⟨hb.os, hb.tape, hb.output, hb.size, fun j hj _ => hb.block j hj⟩ ?_
 cases hv : v.ownBlock with
 | none => exact .inl rfl
 | some g => exact .inr (by simp)
/-- A list of places of the call's own, each one's steps apart from the list's row. -/
structure PLs (B : Nat) (w : World) (v : Value) (ps : List PlaceX) : Prop where
 own : w.ownsRow B 24 2 v ps.length (ps.map PlaceX.row).flatten
 at_ : ∀ p ∈ ps, p.At w
 new : ∀ p ∈ ps, p.New B
 apart : ∀ p ∈ ps, p.steps = [] ∨ ∀ ad, p.sa = some ad → v.ownBlock ≠ some ad.block
 size : B ≤ w.heap.size
theorem PLs.on {B : Nat} {w w' : World} {v : Value} {ps : List PlaceX} (h : PLs B w v ps) (hb : Below w.heap.size w w') : PLs B w' v ps :=
 ⟨row_kept h.own hb, fun p hp => (h.at_ p hp).on hb, h.new, h.apart, Nat.le_trans h.size hb.size⟩
theorem PLs.nil (B : Nat) (w : World) (h : B ≤ w.heap.size) : PLs B w (.slice none 0 0) [] :=
 ⟨World.ownsRow_nil _ _ _ _, fun p hp => by simp at hp, fun p hp => by simp at hp, fun p hp => by simp at hp, h⟩
/-- Behind an append. -/
theorem PLs.add {B L : Nat} {w w' : World} {v v' : Value} {ps ys : List PlaceX} (h : PLs B w v ps) (hL : B ≤ L) (hlt : ∀ g, v.ownBlock = some g → g < L) (hy : ∀ y ∈ ys, y.At w ∧ y.New L)
 (ho : w'.ownsRow B 24 2 v' (ps.length + ys.length) ((ps.map PlaceX.row).flatten ++ (ys.map PlaceX.row).flatten)) (hg : w.grownBy w' v.ownBlock) (hl : v'.ownBlock = v.ownBlock ∨ v'.ownBlock = some w.heap.size) : PLs B w' v' (ps ++ ys) := by
 have hyap : ∀ y ∈ ys, y.steps = [] ∨ ∀ ad, y.sa = some ad → v.ownBlock ≠ some ad.block := fun y hyy => by
  rcases (hy y hyy).2 with h0 | ⟨g, off, e, hge⟩
  · exact .inl (List.length_eq_zero_iff.1 h0)
  · refine .inr fun ad had hv => ?_
    rw [e] at had
    cases had
    have := hlt g hv
    omega
 have hst : ∀ p : PlaceX, p.At w → p.steps = [] ∨ ∀ ad, p.sa = some ad → ad.block < w.heap.size := fun p hp => by
  rcases Sl.at_ hp with h0 | ⟨b, off, e, hlt, _⟩
  · exact .inl (by simpa [strs] using h0)
  · exact .inr fun ad had => by rw [e] at had; cases had; exact hlt
 have hall : ∀ p ∈ ps ++ ys, p.At w ∧ (p.steps = [] ∨ ∀ ad, p.sa = some ad → v.ownBlock ≠ some ad.block) ∧ p.New B := fun p hp => by
  rcases List.mem_append.1 hp with hp | hp
  · exact ⟨h.at_ p hp, h.apart p hp, h.new p hp⟩
  · exact ⟨(hy p hp).1, hyap p hp, (hy p hp).2.mono hL⟩
 refine ⟨by rw [List.length_append, List.map_append, List.flatten_append]; exact ho, fun p hp => Sl.grown (hall p hp).1 ((hall p hp).2.1.imp (fun e => by rw [e]; rfl) id) hg, fun p hp => (hall p hp).2.2, fun p hp => ?_, Nat.le_trans h.size hg.size⟩
 rcases hl with e | e
 · rw [e]; exact (hall p hp).2.1
 · rcases hst p (hall p hp).1 with h0 | h0
   · exact .inl h0
   · refine .inr fun ad had hv => ?_
     rw [e] at hv
     have h1 := Option.some.inj hv
     have h2 := h0 ad had
     omega
theorem PLs.shape {B : Nat} {w : World} {v : Value} {ps : List PlaceX} (h : PLs B w v ps) : ∃ a c, v = .slice a ps.length c := by
 rcases h.own.2 with ⟨e1, e2⟩ | ⟨g, cap, cur, e1, _⟩
 · exact ⟨none, 0, by rw [e1, e2]⟩
 · exact ⟨_, _, e1⟩
theorem infoP : ∃ i0, Tryz.prog.info? 24 = some i0 ∧ i0.zero = some (.agg #[.string ⟨#[]⟩, .slice none 0 0]) ∧ i0.size = 2 ∧ i0.bytes ≤ 1000 := by
 have := cinfo_place
 cases hh : Tryz.prog.info? 24 with
 | none => rw [hh] at this; cases this
 | some i => rw [hh] at this; simp only [Option.map_some, Option.some.injEq, Prod.mk.injEq, decide_eq_true_eq] at this; exact ⟨i, rfl, this.1, this.2.1, this.2.2⟩
theorem honeP (xs : List PlaceX) : ∀ u ∈ (xs.map PlaceX.row).flatten, u.oneCell' = true := by intro u hu; obtain ⟨r, hr, hu⟩ := List.mem_flatten.1 hu; obtain ⟨x, _, rfl⟩ := List.mem_map.1 hr; simp only [PlaceX.row, List.mem_cons, List.not_mem_nil, or_false] at hu; rcases hu with rfl | rfl <;> rfl
/-- The place that a statement stores into, if there is one. -/
def toD (p : PlaceD) : List PlaceD := if (p.loc.toList == []) = true then [] else [p]
theorem grown_below {B : Nat} {W0 w w' : World} {v : Value} {n : Nat} {xs : List Value} (h : Below B W0 w) (ho : w.ownsRow B 24 2 v n xs) (hB : B ≤ w.heap.size) (hg : w.grownBy w' v.ownBlock) : Below B W0 w' := h.grown hg hB fun k hk => (ho.lt k hk).1

/-- A list of these places is answered. -/
def AppPost (W0 : World) (w : World) (v : Value) (ds : List PlaceD) (e : Ending) (w' : World) : Prop := ∃ v' ps', e = .returned v' ∧ PLs W0.heap.size w' v' ps' ∧ ps'.map PlaceX.d = ds ∧ Below W0.heap.size W0 w' ∧ w.heap.size ≤ w'.heap.size ∧ ∀ k : Nat, k < w.heap.size → some k ≠ v.ownBlock → w'.heap[k]? = w.heap[k]?

set_option maxHeartbeats 2000000 in
set_option maxRecDepth 100000 in
theorem appendPlaces_any (W0 : World) (v : Value) (ps : List PlaceX) (aa : Option Addr) (args : List PlaceX) (ac : Nat) (tp : PlaceX) (w : World) (hps : PLs W0.heap.size w v ps) (ha : Pls W0 aa args) (ht : tp.At W0) (hbel : Below W0.heap.size W0 w) (hbig : ps.length + args.length + 1 ≤ 1048576) :
 Calls Tryz.prog 115 #[v, .slice aa args.length ac, .agg #[.string tp.loc, .slice tp.sa tp.steps.length tp.sc]] w (AppPost W0 w v (ps.map PlaceX.d ++ args.map PlaceX.d ++ toD tp.d)) := by
 obtain ⟨i0, hi, hz0, hz1, hz2⟩ := infoP
 have c150 : Hid (∀ W, Below w.heap.size w W → Calls Tryz.prog 150 #[.slice aa args.length ac, .func (.func 75) #[] #[]] W fun e w' => ∃ a' c' ys, e = .returned (.slice a' args.length c') ∧ ys.length = args.length ∧ ys.map PlaceX.d = args.map PlaceX.d ∧ Pls w' a' ys ∧ (NewA W.heap.size a' ys.length ∧ ∀ y ∈ ys, y.New W.heap.size) ∧ Below W.heap.size W w') := hidIt fun W hW =>
  anew_place aa args ac W (ha.on (hbel.trans (hW.mono hbel.size))) fun W2 p hp hW2 => (clone_p p W2 (PlaceX.At.on (PlaceX.At.on (ha.2 p hp) (hbel.trans (hW.mono hbel.size))) hW2)).mono fun e w1 ⟨y, h1, h2, h3, h4⟩ => ⟨y, h1, h2, h3.1, h3.2, h4⟩
 have c75 : Hid (∀ W, Below W0.heap.size W0 W → Calls Tryz.prog 75 #[.agg #[.string tp.loc, .slice tp.sa tp.steps.length tp.sc]] W fun e w' => ∃ y : PlaceX, e = .returned (.agg #[.string y.loc, .slice y.sa y.steps.length y.sc]) ∧ y.d = tp.d ∧ (y.At w' ∧ y.New W.heap.size) ∧ Below W.heap.size W w') := hidIt fun W hW => clone_p tp W (ht.on hW)
 have HP := hidIt hps
 have HB := hidIt hbel
 have hz2 := hidIt hz2
 clear ha ht
 obtain ⟨al, cl, rfl⟩ := hps.shape
 clear hps hbel
 have hb1 := hidIt (below_new w (.cells #[.string tp.loc, .slice tp.sa tp.steps.length tp.sc] 24))
 have H1 := hidIt (heap_alloc_new w (.cells #[.string tp.loc, .slice tp.sa tp.steps.length tp.sc] 24))
 obtain ⟨n, hn⟩ : ∃ n, args.length = n := ⟨_, rfl⟩
 rw [hn] at c150 hbig ⊢
 have hn := hidIt hn
 obtain ⟨R, hR1⟩ : ∃ R, (tp.loc.toList == []) = R := ⟨_, rfl⟩
 have HR : Hid (toD tp.d = if R = true then [] else [tp.d]) := hidIt (by unfold toD; rw [← hR1]; rfl)
 have HSZ : Hid ((w.alloc (.cells #[.string tp.loc, .slice tp.sa tp.steps.length tp.sc] 24)).heap.size = w.heap.size + 1) := hidIt (World.size_alloc _ _)
 go_enter Tryz.func115, Tryz.ntmps115
 go_wp2_with (go_at_call 150; refine (c150.out _ hb1.out).mono ?_)
 rintro e w2 ⟨a', c', ys, rfl, hyl, hyd, hys, hyn, hq⟩
 have hb2 := hidIt (below_next hb1.out hq)
 have H2 := hidIt (heap_on H1.out hq)
 have HP2 := hidIt (HP.out.on hb2.out)
 have HYS := hidIt hys
 have HYL := hidIt hyl
 have HYD := hidIt hyd
 have HYN : Hid (∀ y ∈ ys, y.At w2 ∧ y.New (w.heap.size + 1)) := hidIt fun y hy => ⟨hys.2 y hy, by rw [← HSZ.out]; exact hyn.2 y hy⟩
 have hB2 := hidIt (HB.out.trans (hb2.out.mono HB.out.size))
 clear hyl hyd hys hyn hq c150
 go_wp2_with (at_builtin; refine wpList_append_pl rfl _ _ 46 rfl W0.heap.size 24 i0 _ 2 i0.bytes Tryz.underlying46 hi hz0 hz1 rfl rfl (by decide) _ _ _ rfl HP2.out.own a' n c' (ys.map PlaceX.row) ?q0 rfl HYS.out.1 (honeP ys) ?q1 ?q2 HP2.out.size ?_)
 case q0 => rw [List.length_map, HYL.out]
 case q1 => unfold maxLen; omega
 case q2 => exact Nat.le_trans (Nat.mul_le_mul (show _ ≤ 2097152 by omega) hz2.out) (by decide)
 intro v' w3 hown hgr hlie
 have HP3 : Hid (PLs W0.heap.size w3 v' (ps ++ ys)) := hidIt (HP2.out.add (L := w.heap.size + 1) (Nat.le_trans HP.out.size (Nat.le_succ _)) (fun g hg => Nat.lt_succ_of_lt (HP.out.own.lt g hg).2) HYN.out (by rw [HYL.out, hn.out] at *; exact hown) hgr hlie)
 have hB3 := hidIt (grown_below hB2.out HP2.out.own HP2.out.size hgr)
 have H3 : Hid (w3.heap[w.heap.size]? = some (.cells #[.string tp.loc, .slice tp.sa tp.steps.length tp.sc] 24 (0, 0))) := hidIt (by
  rw [hgr.block w.heap.size (Array.getElem?_eq_some_iff.1 H2.out).1 (fun e => absurd (HP.out.own.lt _ e.symm).2 (Nat.lt_irrefl _))]
  exact H2.out)
 have KP3 : Hid (w.heap.size ≤ w3.heap.size ∧ ∀ k : Nat, k < w.heap.size → some k ≠ (Value.slice al ps.length cl).ownBlock → w3.heap[k]? = w.heap[k]? ∧ some k ≠ v'.ownBlock) := hidIt ⟨Nat.le_trans hb2.out.size hgr.size, fun k hk hne => ⟨by rw [hgr.block k (Nat.lt_of_lt_of_le hk hb2.out.size) hne, hb2.out.block k hk], by
  rcases hlie with e | e
  · rw [e]; exact hne
  · rw [e]
    intro h
    have h1 := Option.some.inj h
    have h2 := hb2.out.size
    omega⟩⟩
 clear hown hgr hlie
 obtain ⟨qs, hqs⟩ : ∃ qs, ps ++ ys = qs := ⟨_, rfl⟩
 rw [hqs] at HP3
 have HQS : Hid (qs.length = ps.length + n ∧ qs.map PlaceX.d = ps.map PlaceX.d ++ args.map PlaceX.d) := hidIt ⟨by have := HYL.out; have := hn.out; rw [← hqs, List.length_append]; omega, by rw [← hqs, List.map_append, HYD.out]⟩
 clear hqs
 obtain ⟨a3, c3, rfl⟩ := HP3.out.shape
 obtain ⟨p0, p1⟩ := cells_2 H3.out
 cases R with
 | true =>
  go_wp2
  go_ret
  refine ⟨_, qs, rfl, HP3.out, ?_, hB3.out, KP3.out.1, fun k hk hne => (KP3.out.2 k hk hne).1⟩
  rw [HR.out, HQS.out.2]; simp
 | false =>
  go_wp2_with (go_at_call 75; refine (c75.out _ hB3.out).mono ?_)
  rintro e w4 ⟨y, rfl, hyd1, ⟨hya1, hyn1⟩, hq4⟩
  have SZ4 := hidIt hq4.size
  have KP4 : Hid (∀ k : Nat, k < w3.heap.size → (w4.alloc (.cells #[.string y.loc, .slice y.sa y.steps.length y.sc] 24)).heap[k]? = w3.heap[k]?) := hidIt fun k hk => by rw [(below_new w4 _).block k (Nat.lt_of_lt_of_le hk hq4.size), hq4.block k hk]
  have HP4 := hidIt ((HP3.out.on hq4).on (below_new w4 (.cells #[.string y.loc, .slice y.sa y.steps.length y.sc] 24)))
  have hB4 := hidIt ((hB3.out.trans (hq4.mono HP3.out.size)).trans ((below_new w4 (.cells #[.string y.loc, .slice y.sa y.steps.length y.sc] 24)).mono (Nat.le_trans HP3.out.size hq4.size)))
  have HY := hidIt (And.intro hyd1 (And.intro (hya1.on (below_new w4 (.cells #[.string y.loc, .slice y.sa y.steps.length y.sc] 24))) hyn1))
  have HSL : Hid (Sl (w4.alloc (.cells #[.string y.loc, .slice y.sa y.steps.length y.sc] 24)) 2 (some ⟨w4.heap.size, 0, none⟩) [y.row]) := hidIt ⟨fun r hr => by cases List.mem_singleton.1 hr; rfl, by simp, .inr ⟨_, _, rfl, by rw [World.size_alloc]; omega, fun j r i u hj hi => by
   cases j with
   | zero =>
    simp at hj
    subst hj
    rw [cell_at (heap_alloc_new w4 _)]
    simpa [PlaceX.row] using hi
   | succ j => simp at hj⟩⟩
  clear hyd1 hya1 hyn1 hq4 c75 p0 p1
  go_wp2_with (at_builtin; refine wpList_append_pl rfl _ _ 46 rfl W0.heap.size 24 i0 _ 2 i0.bytes Tryz.underlying46 hi hz0 hz1 rfl rfl (by decide) _ _ _ rfl HP4.out.own _ 1 1 [y.row] rfl rfl HSL.out ?q4 ?q5 ?q6 HP4.out.size ?_)
  case q4 => exact honeP [y]
  case q5 => have := HQS.out.1; unfold maxLen; omega
  case q6 => exact Nat.le_trans (Nat.mul_le_mul (show _ ≤ 2097152 by have := HQS.out.1; omega) hz2.out) (by decide)
  intro v5 w5 hown hgr hlie
  have HP5 : Hid (PLs W0.heap.size w5 v5 (qs ++ [y])) := hidIt (HP4.out.add (L := w3.heap.size) HP3.out.size (fun g hg => (HP3.out.own.lt g hg).2) (fun z hz => by cases List.mem_singleton.1 hz; exact HY.out.2) (by simpa using hown) hgr (by rw [World.size_alloc]; exact hlie))
  have hB5 := hidIt (grown_below hB4.out HP4.out.own HP4.out.size hgr)
  have KP5 : Hid (w.heap.size ≤ w5.heap.size ∧ ∀ k : Nat, k < w.heap.size → some k ≠ (Value.slice al ps.length cl).ownBlock → w5.heap[k]? = w.heap[k]?) := hidIt ⟨Nat.le_trans KP3.out.1 (Nat.le_trans SZ4.out (Nat.le_trans (below_new w4 _).size hgr.size)), fun k hk hne => by
   have hk3 := Nat.lt_of_lt_of_le hk KP3.out.1
   rw [hgr.block k (Nat.lt_of_lt_of_le hk3 (Nat.le_trans SZ4.out (below_new w4 _).size)) (KP3.out.2 k hk hne).2, KP4.out k hk3, (KP3.out.2 k hk hne).1]⟩
  clear hown hgr hlie
  obtain ⟨a5, c5, rfl⟩ := HP5.out.shape
  go_wp2
  go_ret
  refine ⟨_, qs ++ [y], rfl, HP5.out, ?_, hB5.out, KP5.out.1, KP5.out.2⟩
  rw [HR.out, List.map_append, HQS.out.2]
  simp [HY.out.1]
end Go.Proofs.YtlppbgmcoknliaaGreatDoor
namespace Go.Proofs.YtlppbgmcoknliaaGreatDoor
set_option linter.unusedVariables false
open Go.RowKit

theorem own_ne {w : World} {B : Nat} {e : TypeId} {size : Nat} {v : Value} {n : Nat} {xs : List Value} {k : Nat} {cs : Array Value} {t : TypeId} {fr : Nat × Nat} (h : w.ownsRow B e size v n xs) (hk : w.heap[k]? = some (.cells cs t fr)) (ht : t ≠ e) : some k ≠ v.ownBlock := by
 rcases h.2 with ⟨rfl, _⟩ | ⟨g, cap, cur, rfl, _, hg, _⟩
 · simp [Value.ownBlock]
 · intro e1
   simp only [Value.ownBlock, Option.some.injEq] at e1
   subst e1
   rw [hg] at hk
   simp only [Option.some.injEq, Obj.cells.injEq] at hk
   exact ht hk.2.1.symm
/-- The cells of a row, in whatever world keeps them. -/
theorem Sl.cellsAt {w : World} {k : Nat} {a : Option Addr} {rows : List (List Value)} (h : Sl w k a rows) {j : Nat} {r : List Value} (hj : rows[j]? = some r) :
 ∃ b off, a = some ⟨b, off, none⟩ ∧ ∀ W, Below w.heap.size w W → ∀ (i : Nat) (v : Value), r[i]? = some v → W.cell? ⟨b, off + j * k + i, none⟩ = some v := by
 rcases h.at_ with h0 | ⟨b, off, e, hlt, hc⟩
 · rw [h0] at hj; simp at hj
 · refine ⟨b, off, e, fun W hW i v hv => ?_⟩
   rw [hW.cell (p := ⟨b, off + j * k + i, none⟩) hlt]
   exact hc j r i v hj hv

/-- The places of a statement, a block, a function. -/
def stU (s : StmtX) : List PlaceD := s.args.map PlaceX.d ++ toD s.to.d
def blU (b : BlockX) : List PlaceD := b.stmts.flatMap stU ++ (b.term.args.map PlaceX.d ++ toD b.term.to.d)
def fnU (f : FuncX) : List PlaceD := f.blocks.flatMap blU
/-- At most so many of them. -/
def stN (s : StmtX) : Nat := s.args.length + 1
def blN (b : BlockX) : Nat := (b.stmts.map stN).sum + (b.term.args.length + 1)
def fnN (f : FuncX) : Nat := (f.blocks.map blN).sum
theorem toD_le (p : PlaceD) : (toD p).length ≤ 1 := by unfold toD; split <;> simp
theorem stU_le (s : StmtX) : (stU s).length ≤ stN s := by
 have := toD_le s.to.d
 simp only [stU, stN, List.length_append, List.length_map]
 omega
theorem flat_le {α : Type} {f : α → List PlaceD} {g : α → Nat} (h : ∀ x, (f x).length ≤ g x) : ∀ l : List α, (l.flatMap f).length ≤ (l.map g).sum
 | [] => Nat.le_refl _
 | x :: l => by
  have := h x
  have := flat_le h l
  simp only [List.flatMap_cons, List.length_append, List.map_cons, List.sum_cons]
  omega
theorem blU_le (b : BlockX) : (blU b).length ≤ blN b := by
 have := toD_le b.term.to.d
 have := flat_le stU_le b.stmts
 simp only [blU, blN, List.length_append, List.length_map]
 omega
theorem sum_take {α : Type} (g : α → Nat) : ∀ (l : List α) (k : Nat) (x : α), l[k]? = some x → ((l.take k).map g).sum + g x ≤ (l.map g).sum
 | [], k, x, h => by simp at h
 | a :: l, 0, x, h => by
  simp at h
  subst h
  simp
 | a :: l, k + 1, x, h => by
  have := sum_take g l k x (by simpa using h)
  simp only [List.take_succ_cons, List.map_cons, List.sum_cons]
  omega
theorem flatMap_next {α β : Type} (f : α → List β) (l : List α) (k : Nat) (x : α) (h : l[k]? = some x) : (l.take (k + 1)).flatMap f = (l.take k).flatMap f ++ f x := by
 rw [List.take_add_one, h]
 simp

/-- What places answers. -/
def PlcPost (w : World) (ds : List PlaceD) (e : Ending) (w' : World) : Prop := ∃ v ps, e = .returned v ∧ PLs w.heap.size w' v ps ∧ ps.map PlaceX.d = ds ∧ Below w.heap.size w w'

set_option maxHeartbeats 4000000 in
set_option maxRecDepth 100000 in
theorem places_any (f : FuncX) (w : World) (hf : f.At w) (hbig : fnN f ≤ 1048576) :
 Calls Tryz.prog 73 #[.agg #[.int .i64 f.at_, .string f.name, .slice f.pa f.params.length f.pc, .slice f.la f.locals.length f.lc, .string f.result, .slice f.ba f.blocks.length f.bc]] w (PlcPost w (fnU f)) := by
 obtain ⟨at_, nm, pa, pc, params, la, lc, locals, res, ba, bc, blocks⟩ := f
 have hbl : Hid (Bls w ba blocks) := hidIt hf.2.2
 have n1 : blocks.length ≤ 1048576 := by have := hf.2.2.1.big; rwa [List.length_map] at this
 simp only [fnN, fnU] at hbig ⊢
 have HBIG := hidIt hbig
 clear hf hbig
 have hb0 := hidIt (below_new w (.cells #[.int .i64 at_, .string nm, .slice pa params.length pc, .slice la locals.length lc, .string res, .slice ba blocks.length bc] 45))
 obtain ⟨n, hn⟩ : ∃ n, blocks.length = n := ⟨_, rfl⟩
 rw [hn] at n1 hb0 ⊢
 have hn := hidIt hn
 go_enter Tryz.func73, Tryz.ntmps73
 go_wp2
 have R0 : Hid (PLs w.heap.size (w.alloc (.cells #[.int .i64 at_, .string nm, .slice pa params.length pc, .slice la locals.length lc, .string res, .slice ba n bc] 45)) (.slice none 0 0) []) := hidIt (PLs.nil _ _ hb0.out.size)
 go_loopg [3, 5, 7, 11] n (fun g s3 s5 s7 s11 wr => ∃ k : Nat, k ≤ n ∧ n - k ≤ g ∧ s11 = .int .i64 k ∧ Hid (∃ ps, PLs w.heap.size wr s3 ps ∧ ps.map PlaceX.d = (blocks.take k).flatMap blU ∧ Below w.heap.size w wr))
 case atStart => exact ⟨0, Nat.zero_le _, by omega, rfl, hidIt ⟨[], R0.out, rfl, hb0.out⟩⟩
 case round =>
  clear R0
  obtain ⟨k, hk, hg, rfl, R⟩ := hrel
  obtain ⟨ps, hps, hpd, hbw⟩ := R.out
  clear R
  obtain ⟨a3, c3, rfl⟩ := hps.shape
  by_cases hlt : k < n
  · obtain ⟨x, hx⟩ : ∃ x, blocks[k]? = some x := ⟨_, List.getElem?_eq_getElem (by rw [hn.out]; exact hlt)⟩
    obtain ⟨xa, xn, sa2, sc2, sts, tm⟩ := x
    have hxa : Hid ((⟨xa, xn, sa2, sc2, sts, tm⟩ : BlockX).At w) := hidIt (hbl.out.2 _ (List.mem_of_getElem? hx))
    obtain ⟨b1, o1, rfl, g1⟩ := Sl.cellsAt hbl.out.1 (j := k) (r := (⟨xa, xn, sa2, sc2, sts, tm⟩ : BlockX).row) (by rw [List.getElem?_map, hx]; rfl)
    have g1 := g1 wr hbw
    have HPS := hidIt hps
    have HPD := hidIt hpd
    have HBW := hidIt hbw
    have S1 := sum_take blN blocks k _ hx
    have S2 := flat_le blU_le (blocks.take k)
    have S3 := HBIG.out
    have SUM : Hid (((blocks.take k).flatMap blU).length + blN ⟨xa, xn, sa2, sc2, sts, tm⟩ ≤ 1048576) := hidIt (by omega)
    have NXT := hidIt (flatMap_next blU blocks k _ hx)
    have m1 : sts.length ≤ 1048576 := by have := hxa.out.1.1.big; rwa [List.length_map] at this
    clear hps hpd hbw S1 S2 S3 hx
    have p0 := g1 0 _ rfl
    have p1 := g1 1 _ rfl
    have p2 := g1 2 _ rfl
    have p3 := g1 3 _ rfl
    have p4 := g1 4 _ rfl
    have p5 := g1 5 _ rfl
    have p6 := g1 6 _ rfl
    have p7 := g1 7 _ rfl
    have p8 := g1 8 _ rfl
    have p9 := g1 9 _ rfl
    have p10 := g1 10 _ rfl
    rw [Nat.add_zero] at p0
    clear g1
    go_upto_region 5 with fail
    clear p0 p1 p2 p3 p4 p5 p6 p7 p8 p9 p10
    have hh1 := hidIt (heap_alloc_new wr (.cells #[.int .i64 xa, .string xn, .slice sa2 sts.length sc2, .int .i64 tm.at_, .int .i64 tm.kind, .string tm.to.loc, .slice tm.to.sa tm.to.steps.length tm.to.sc, .string tm.name, .slice tm.aa tm.args.length tm.ac, .slice tm.ba tm.blocks.length tm.bc, .slice tm.ra tm.arms.length tm.rc] 64))
    have HB1 := hidIt (below_next HBW.out ((below_new wr (.cells #[.int .i64 xa, .string xn, .slice sa2 sts.length sc2, .int .i64 tm.at_, .int .i64 tm.kind, .string tm.to.loc, .slice tm.to.sa tm.to.steps.length tm.to.sc, .string tm.name, .slice tm.aa tm.args.length tm.ac, .slice tm.ba tm.blocks.length tm.bc, .slice tm.ra tm.arms.length tm.rc] 64))))
    have HP1 := hidIt (HPS.out.on (below_new wr (.cells #[.int .i64 xa, .string xn, .slice sa2 sts.length sc2, .int .i64 tm.at_, .int .i64 tm.kind, .string tm.to.loc, .slice tm.to.sa tm.to.steps.length tm.to.sc, .string tm.name, .slice tm.aa tm.args.length tm.ac, .slice tm.ba tm.blocks.length tm.bc, .slice tm.ra tm.arms.length tm.rc] 64)))
    obtain ⟨B1, eB⟩ : ∃ B1, B1 = wr.heap.size := ⟨_, rfl⟩
    rw [← eB] at hh1 ⊢
    clear eB
    generalize wr.alloc (.cells #[.int .i64 xa, .string xn, .slice sa2 sts.length sc2, .int .i64 tm.at_, .int .i64 tm.kind, .string tm.to.loc, .slice tm.to.sa tm.to.steps.length tm.to.sc, .string tm.name, .slice tm.aa tm.args.length tm.ac, .slice tm.ba tm.blocks.length tm.bc, .slice tm.ra tm.arms.length tm.rc] 64) = W1 at hh1 HB1 HP1 ⊢
    obtain ⟨q0, q1, q2, q3, q4, q5, q6, q7, q8, q9, q10⟩ := cells_11 hh1.out
    go_wp2
    clear q0 q1 q2 q3 q4 q5 q6 q7 q8 q9 q10
    go_loopg [3, 7, 18] sts.length (fun g s3 s7 s18 wr2 => ∃ j : Nat, j ≤ sts.length ∧ sts.length - j ≤ g ∧ s18 = .int .i64 j ∧ Hid (∃ ps, PLs w.heap.size wr2 s3 ps ∧ ps.map PlaceX.d = (blocks.take k).flatMap blU ++ (sts.take j).flatMap stU ∧ Below w.heap.size w wr2 ∧ wr2.heap[B1]? = some (.cells #[.int .i64 xa, .string xn, .slice sa2 sts.length sc2, .int .i64 tm.at_, .int .i64 tm.kind, .string tm.to.loc, .slice tm.to.sa tm.to.steps.length tm.to.sc, .string tm.name, .slice tm.aa tm.args.length tm.ac, .slice tm.ba tm.blocks.length tm.bc, .slice tm.ra tm.arms.length tm.rc] 64 (0, 0))))
    case atStart => exact ⟨0, Nat.zero_le _, by omega, rfl, hidIt ⟨ps, HP1.out, by rw [HPD.out]; simp, HB1.out, hh1.out⟩⟩
    case round =>
     clear hh1 HB1 HP1 HPS HPD HBW
     obtain ⟨j, hj, hgj, rfl, R⟩ := hrel
     obtain ⟨qs, hqs, hqd, hbw, hbx⟩ := R.out
     clear R
     obtain ⟨a4, c4, rfl⟩ := hqs.shape
     have HQL : Hid (qs.length + (sts.drop j |>.map stN).sum + (tm.args.length + 1) ≤ 1048576) := hidIt (by
      have e := congrArg List.length hqd
      rw [List.length_map, List.length_append] at e
      have h2 := flat_le stU_le (sts.take j)
      have h3 := SUM.out
      have h4 : (sts.map stN).sum = ((sts.take j).map stN).sum + ((sts.drop j).map stN).sum := by rw [← List.sum_append, ← List.map_append, List.take_append_drop]
      have h5 : blN ⟨xa, xn, sa2, sc2, sts, tm⟩ = (sts.map stN).sum + (tm.args.length + 1) := rfl
      omega)
     have HQ := hidIt hqs
     have HQD := hidIt hqd
     have HBW := hidIt hbw
     have HBX := hidIt hbx
     clear hqs hqd hbw hbx
     by_cases hlj : j < sts.length
     · obtain ⟨y, hy⟩ : ∃ y, sts[j]? = some y := ⟨_, List.getElem?_eq_getElem hlj⟩
       have hya : Hid (y.At w) := hidIt (hxa.out.1.2 y (List.mem_of_getElem? hy))
       obtain ⟨b2, o2, rfl, g2⟩ := Sl.cellsAt hxa.out.1.1 (j := j) (r := y.row) (by rw [List.getElem?_map, hy]; rfl)
       have g2 := g2 wr HBW.out
       have NXY := hidIt (flatMap_next stU sts j y hy)
       have QL2 : Hid (qs.length + y.args.length + 1 ≤ 1048576) := hidIt (by
        have h1 := HQL.out
        have h2 : ((sts.drop j).map stN).sum = stN y + ((sts.drop (j + 1)).map stN).sum := by
         rw [List.drop_eq_getElem_cons hlj, List.map_cons, List.sum_cons, (List.getElem?_eq_some_iff.1 hy).2]
        have h3 : stN y = y.args.length + 1 := rfl
        omega)
       clear hy
       have p0 := g2 0 _ rfl
       have p1 := g2 1 _ rfl
       have p2 := g2 2 _ rfl
       have p3 := g2 3 _ rfl
       have p4 := g2 4 _ rfl
       have p5 := g2 5 _ rfl
       have p6 := g2 6 _ rfl
       have p7 := g2 7 _ rfl
       rw [Nat.add_zero] at p0
       clear g2
       go_upto_region 8 with fail
       clear p0 p1 p2 p3 p4 p5 p6 p7
       have hh2 := hidIt (heap_alloc_new wr (.cells #[.int .i64 y.at_, .int .i64 y.kind, .string y.to.loc, .slice y.to.sa y.to.steps.length y.to.sc, .int .i64 y.n, .string y.name, .string y.variant, .slice y.aa y.args.length y.ac] 68))
       have HB2 := hidIt (below_next HBW.out (below_new wr (.cells #[.int .i64 y.at_, .int .i64 y.kind, .string y.to.loc, .slice y.to.sa y.to.steps.length y.to.sc, .int .i64 y.n, .string y.name, .string y.variant, .slice y.aa y.args.length y.ac] 68)))
       have HQ2 := hidIt (HQ.out.on (below_new wr (.cells #[.int .i64 y.at_, .int .i64 y.kind, .string y.to.loc, .slice y.to.sa y.to.steps.length y.to.sc, .int .i64 y.n, .string y.name, .string y.variant, .slice y.aa y.args.length y.ac] 68)))
       have HX2 := hidIt (heap_on HBX.out (below_new wr (.cells #[.int .i64 y.at_, .int .i64 y.kind, .string y.to.loc, .slice y.to.sa y.to.steps.length y.to.sc, .int .i64 y.n, .string y.name, .string y.variant, .slice y.aa y.args.length y.ac] 68)))
       obtain ⟨B2, eB⟩ : ∃ B2, B2 = wr.heap.size := ⟨_, rfl⟩
       rw [← eB] at hh2 ⊢
       clear eB
       generalize wr.alloc (.cells #[.int .i64 y.at_, .int .i64 y.kind, .string y.to.loc, .slice y.to.sa y.to.steps.length y.to.sc, .int .i64 y.n, .string y.name, .string y.variant, .slice y.aa y.args.length y.ac] 68) = W2 at hh2 HB2 HQ2 HX2 ⊢
       obtain ⟨q0, q1, q2, q3, q4, q5, q6, q7⟩ := cells_8 hh2.out
       have c115 := hidIt (appendPlaces_any w (.slice a4 qs.length c4) qs y.aa y.args y.ac y.to W2 HQ2.out hya.out.2 hya.out.1 HB2.out QL2.out)
       go_wp2_with (go_at_call 115; refine c115.out.mono ?_)
       rintro e w3 ⟨v', ps', rfl, h1, h2, h3, h4, h5⟩
       have HX3 := hidIt ((h5 B1 (Array.getElem?_eq_some_iff.1 HX2.out).1 (own_ne HQ2.out.own HX2.out (by decide))).trans HX2.out)
       have K1 := hidIt h1
       have K2 := hidIt h2
       have K3 := hidIt h3
       clear h1 h2 h3 h4 h5 c115 q0 q1 q2 q3 q4 q5 q6 q7
       obtain ⟨a5, c5, rfl⟩ := K1.out.shape
       go_wp2
       go_roundg (sts.length - (j + 1))
       case measure => omega
       case rel => exact ⟨j + 1, by omega, by omega, by go_num, hidIt ⟨ps', K1.out, by rw [K2.out, HQD.out, NXY.out]; simp [stU], K3.out, HX3.out⟩⟩
     · have : j = sts.length := by omega
       subst this
       obtain ⟨q0, q1, q2, q3, q4, q5, q6, q7, q8, q9, q10⟩ := cells_11 HBX.out
       have c115 := hidIt (appendPlaces_any w (.slice a4 qs.length c4) qs tm.aa tm.args tm.ac tm.to wr HQ.out hxa.out.2.2.1 hxa.out.2.1 HBW.out (by have := HQL.out; omega))
       go_wp2_with (go_at_call 115; refine c115.out.mono ?_)
       rintro e w3 ⟨v', ps', rfl, h1, h2, h3, h4, h5⟩
       have K1 := hidIt h1
       have K2 := hidIt h2
       have K3 := hidIt h3
       clear h1 h2 h3 h4 h5 c115 q0 q1 q2 q3 q4 q5 q6 q7 q8 q9 q10
       obtain ⟨a5, c5, rfl⟩ := K1.out.shape
       go_wp2
       go_roundg (n - (k + 1))
       case measure => omega
       case rel => exact ⟨k + 1, by omega, by omega, by go_num, hidIt ⟨ps', K1.out, by rw [K2.out, HQD.out, NXT.out, List.take_length]; simp [blU], K3.out⟩⟩
  · have : k = n := by omega
    subst this
    go_wp2
    go_ret
    exact ⟨_, ps, rfl, hps, by rw [hpd, List.take_of_length_le (by rw [hn.out]; exact Nat.le_refl _)], hbw⟩

end Go.Proofs.YtlppbgmcoknliaaGreatDoor
namespace Go.Proofs.YtlppbgmcoknliaaGreatDoor
set_option linter.unusedVariables false
open Go.RowKit Go.Shelf
attribute [local go_sem] Oper.semAt_some

/-- Blocks from B0 up to B1 are as they were. -/
structure KpR (B0 B1 : Nat) (W W' : World) : Prop where
 size : W.heap.size ≤ W'.heap.size
 block : ∀ k : Nat, B0 ≤ k → k < B1 → W'.heap[k]? = W.heap[k]?
theorem KpR.refl (B0 B1 : Nat) (W : World) : KpR B0 B1 W W := ⟨Nat.le_refl _, fun _ _ _ => rfl⟩
theorem KpR.t {B0 B1 : Nat} {A B C : World} (h : KpR B0 B1 A B) (k : KpR B0 B1 B C) : KpR B0 B1 A C := ⟨Nat.le_trans h.size k.size, fun i h0 h1 => (k.block i h0 h1).trans (h.block i h0 h1)⟩
theorem KpR.below {B0 B1 : Nat} {A B : World} (h : Below A.heap.size A B) (hB : B1 ≤ A.heap.size) : KpR B0 B1 A B := ⟨h.size, fun i _ h1 => h.block i (Nat.lt_of_lt_of_le h1 hB)⟩
theorem Sl.keepR {w w' : World} {k B0 : Nat} {a : Option Addr} {rows : List (List Value)} (h : Sl w k a rows) (hn : NewA B0 a rows.length) (hk : KpR B0 w.heap.size w w') : Sl w' k a rows := by
 refine ⟨h.len, h.big, ?_⟩
 rcases h.at_ with h0 | ⟨b, off, e, hlt, hc⟩
 · exact .inl h0
 · rcases hn with h0 | ⟨g, o2, e2, hg⟩
   · exact .inl (List.length_eq_zero_iff.1 h0)
   · rw [e] at e2
     cases e2
     refine .inr ⟨b, off, e, Nat.lt_of_lt_of_le hlt hk.size, fun j r i v hr hv => ?_⟩
     rw [World.cell?_of_block (w := w) (hk.block b hg hlt)]
     exact hc j r i v hr hv
theorem at_wide {n : Nat} {P : Program} {f : FuncId} {args : Array Value} {w : World} {R : Ending → World → Prop} (h : Calls P f args w R) : Fence.wide.fn f ∧ (Fence.wide.depth.isSome = true → 1 ≤ n) ∧ CallsIn Fence.wide (n - 1) P f args w R :=
 ⟨trivial, fun h => by simp [Fence.wide] at h, callsIn_wide.2 h⟩
def encP (x : PlaceX) : Array Value := #[.agg #[.string x.loc, .slice x.sa x.steps.length x.sc]]

/-- What Uses leaves in memory: the list of the places, from block B0 on. -/
structure US (B0 Bn : Nat) (ps : List PlaceX) (w : World) : Prop where
 blk : ∃ a c, w.heap[Bn]? = some (.cells #[.slice a ps.length c] 46 (0, 0)) ∧ Sl w 2 a (ps.map PlaceX.row) ∧ NewA B0 a ps.length
 low : B0 ≤ Bn
 at_ : ∀ p ∈ ps, p.At w ∧ p.New B0

set_option maxHeartbeats 1000000 in
theorem uses_any (f : FuncX) (w : World) (hf : f.At w) (hbig : fnN f ≤ 1048576) :
 Calls Tryz.prog 27 #[.agg #[.int .i64 f.at_, .string f.name, .slice f.pa f.params.length f.pc, .slice f.la f.locals.length f.lc, .string f.result, .slice f.ba f.blocks.length f.bc]] w fun e w' => ∃ Bn ps, e = .returned (.func (.func 74) #[] #[.pointer (some ⟨Bn, 0, none⟩)]) ∧ US w.heap.size Bn ps w' ∧ ps.map PlaceX.d = fnU f ∧ Below w.heap.size w w' := by
 have hb := hidIt (below_new w (.cells #[.int .i64 f.at_, .string f.name, .slice f.pa f.params.length f.pc, .slice f.la f.locals.length f.lc, .string f.result, .slice f.ba f.blocks.length f.bc] 45))
 have c73 := hidIt (places_any f _ (hf.on hb.out) hbig)
 have hs : Hid (w.heap.size ≤ (w.alloc (.cells #[.int .i64 f.at_, .string f.name, .slice f.pa f.params.length f.pc, .slice f.la f.locals.length f.lc, .string f.result, .slice f.ba f.blocks.length f.bc] 45)).heap.size) := hidIt hb.out.size
 have HL : Hid ((fnU f).length ≤ 1048576) := hidIt (Nat.le_trans (flat_le blU_le f.blocks) hbig)
 clear hf hbig
 generalize fnU f = ds at c73 HL ⊢
 go_enter Tryz.func27, Tryz.ntmps27
 go_wp2_with (go_at_call 73; refine c73.out.mono ?_)
 rintro e w1 ⟨v, ps, rfl, h1, h2, h3⟩
 have H1 := hidIt h1
 have H2 := hidIt h2
 have H3 := hidIt (below_next hb.out h3)
 clear h1 h2 h3 c73
 obtain ⟨a, c, rfl⟩ := H1.out.shape
 go_wp2
 go_ret
 have hbn := below_new w1 (.cells #[.slice a ps.length c] 46)
 have hbig : ps.length ≤ 1048576 := by have := HL.out; rw [← H2.out, List.length_map] at this; exact this
 obtain ⟨a', c', he, _, hown⟩ := Own.of (w := w1) (rows := ps.map PlaceX.row) (k := 2) (fun r hr => by obtain ⟨z, _, rfl⟩ := List.mem_map.1 hr; rfl) (by rw [List.length_map]; exact hbig) (by rw [List.length_map]; exact H1.out.own)
 rw [List.length_map] at he
 cases he
 refine ⟨w1.heap.size, ps, rfl, ⟨⟨a, c, heap_alloc_new w1 _, ?_, ?_⟩, H3.out.size, fun p hp => ⟨(H1.out.at_ p hp).on hbn, (H1.out.new p hp).mono hs.out⟩⟩, H2.out, below_next H3.out hbn⟩
 · exact Sl.on hown.sl hbn
 · have := hown.new
   rw [List.length_map] at this
   exact this.mono hs.out

set_option maxRecDepth 100000 in
set_option maxHeartbeats 2000000 in
theorem uses1_in (n l Bn B0 : Nat) (ps : List PlaceX) (wU : World) (hU : US B0 Bn ps wU) (J Jx : List PlaceX → World → Prop)
 (hY : ∀ pre x W, J pre W → (pre ++ [x]).map PlaceX.d <+: ps.map PlaceX.d → x.At W → YieldAt Fence.wide (n - 1) Tryz.prog l (encP x) W fun e W' =>
   (e = .returned (.bool true) ∧ J (pre ++ [x]) W' ∧ KpR B0 wU.heap.size W W') ∨ (e = .returned (.bool false) ∧ Jx (pre ++ [x]) W'))
 (W : World) (hW : KpR B0 wU.heap.size wU W) (hJ : AbidesFrom W.heap.size J) (h0 : J [] W) :
 CallsIn Fence.wide n Tryz.prog 74 #[.func (.yield l) #[] #[], .pointer (some ⟨Bn, 0, none⟩)] W fun e W' => (∃ v, e = .returned v) ∧
  ((∃ ys, ys.map PlaceX.d = ps.map PlaceX.d ∧ J ys W') ∨ (∃ pre, pre.map PlaceX.d <+: ps.map PlaceX.d ∧ Jx pre W')) := by
 refine callsIn_of_wp Tryz.func74 rfl trivial ?_ rfl
 simp only [Tryz.ntmps74, List.size_toArray, List.length_cons, List.length_nil, Nat.reduceAdd, Nat.reduceSub, Array.replicate_succ, Array.replicate_zero, List.push_toArray, List.append_toArray, List.nil_append, List.cons_append]
 obtain ⟨a, c, hbn, hsl, hnew⟩ := hU.blk
 have hbig : ps.length ≤ 1048576 := by have := hsl.big; rwa [List.length_map] at this
 have HN : Hid (NewA B0 a (ps.map PlaceX.row).length) := hidIt (by rw [List.length_map]; exact hnew)
 have HS := hidIt hsl
 have HAT := hidIt hU.at_
 have HY := hidIt hY
 have HJ := hidIt hJ
 have H0 := hidIt h0
 have HW := hidIt hW
 have p0 : W.cell? ⟨Bn, 0, none⟩ = some (.slice a ps.length c) := cell_at ((hW.block Bn hU.low (Array.getElem?_eq_some_iff.1 hbn).1).trans hbn) 0
 clear hsl hnew hbn hU hY hJ h0 hW
 gi_wp2
 gi_loopw [4, 7] (fun i4 i wr => ∃ k : Nat, k ≤ ps.length ∧ i = .int .i64 k ∧ Hid ((∃ ys, ys.map PlaceX.d = (ps.take k).map PlaceX.d ∧ J ys wr) ∧ KpR B0 wU.heap.size wU wr ∧ W.heap.size ≤ wr.heap.size)) (fun _ i _ => ps.length - (intOf i).toNat)
 case atStart => exact ⟨0, Nat.zero_le _, rfl, hidIt ⟨⟨[], rfl, H0.out⟩, HW.out, Nat.le_refl _⟩⟩
 case round =>
  clear p0 H0 HW
  obtain ⟨k, hk, rfl, R⟩ := hrel
  by_cases hlt : k < ps.length
  · obtain ⟨⟨ys, hyd, hj⟩, hkw, hsz⟩ := R.out
    clear R
    obtain ⟨p, hp⟩ : ∃ p, ps[k]? = some p := ⟨_, List.getElem?_eq_getElem hlt⟩
    obtain ⟨b1, o1, rfl, g1⟩ := Sl.cellsAt (Sl.keepR HS.out HN.out hkw) (j := k) (r := p.row) (by rw [List.getElem?_map, hp]; rfl)
    have g1 := g1 wr (Below.refl _ _)
    have q0 := g1 0 _ rfl
    have q1 := g1 1 _ rfl
    rw [Nat.add_zero] at q0
    have hpa : p.At wr := Sl.keepR (HAT.out p (List.mem_of_getElem? hp)).1 (by rw [strs_len]; exact (HAT.out p (List.mem_of_getElem? hp)).2) hkw
    have hbx := below_new wr (.cells #[.string p.loc, .slice p.sa p.steps.length p.sc] 24)
    have c75 := hidIt (clone_p p _ (hpa.on hbx))
    have HJ1 : Hid (J ys wr) := hidIt hj
    have HKW := hidIt hkw
    have HSZ := hidIt hsz
    have HYD := hidIt hyd
    have HBX := hidIt hbx
    have HP := hidIt hp
    clear g1 hpa hbx hj hkw hsz hyd hp
    gi_wp2_with fail
    refine at_wide (c75.out.mono ?_)
    rintro e w3 ⟨y, rfl, hyd1, ⟨hya1, hyn1⟩, hq3⟩
    have hb3 : Below wr.heap.size wr w3 := below_next HBX.out hq3
    have hj3 : J ys w3 := HJ.out ys wr w3 none HJ1.out ⟨hb3.os, hb3.tape, hb3.output, hb3.size, fun k hk _ => hb3.block k hk⟩ (fun r e => by cases e)
    have hnext : (ys ++ [y]).map PlaceX.d = (ps.take (k + 1)).map PlaceX.d := by
     rw [List.map_append, HYD.out, List.take_add_one, HP.out, List.map_append]
     show _ ++ [y.d] = _ ++ [p.d]
     rw [hyd1]
    obtain ⟨fn, tmps, assign, body, hy, hRd⟩ := HY.out ys y w3 hj3 (by rw [hnext]; exact (List.take_prefix _ _).map _) hya1
    have HNX := hidIt hnext
    have HKW3 : Hid (KpR B0 wU.heap.size wU w3) := hidIt (HKW.out.t (KpR.below hb3 HKW.out.size))
    have HSZ3 : Hid (W.heap.size ≤ w3.heap.size) := hidIt (Nat.le_trans HSZ.out hb3.size)
    clear hyd1 hya1 hyn1 hq3 hb3 hj3 hnext c75 HJ1 HKW HSZ HYD HBX HP q0 q1
    unfold encP at hy
    gi_wp2
    refine ⟨fun h => by simp [Fence.wide] at h, hRd.mono ?_⟩
    clear hy hRd
    rintro e W3 (⟨rfl, hJ3, hk3⟩ | ⟨rfl, hJx3⟩)
    · have RES : Hid ((∃ ys, ys.map PlaceX.d = (ps.take (k + 1)).map PlaceX.d ∧ J ys W3) ∧ KpR B0 wU.heap.size wU W3 ∧ W.heap.size ≤ W3.heap.size) := hidIt ⟨⟨_, HNX.out, hJ3⟩, HKW3.out.t hk3, Nat.le_trans HSZ3.out hk3.size⟩
      clear hJ3 hk3 HNX HKW3 HSZ3
      gi_wp2
      go_roundw
      case rel => exact ⟨k + 1, by omega, by go_num, RES⟩
      case measure => simp [intOf]; omega
    · have HF : Hid (∃ pre, pre.map PlaceX.d <+: ps.map PlaceX.d ∧ Jx pre W3) := hidIt ⟨_, by rw [HNX.out]; exact (List.take_prefix _ _).map _, hJx3⟩
      clear hJx3 HNX HKW3 HSZ3
      gi_wp2
      refine bodyPost_ret (results_none rfl _ _ _) rfl ?_
      exact ⟨⟨_, rfl⟩, .inr HF.out⟩
  · have HF : Hid (∃ ys, ys.map PlaceX.d = ps.map PlaceX.d ∧ J ys wr) := by
     obtain ⟨⟨ys, hyd, hj⟩, _⟩ := R.out
     exact hidIt ⟨ys, by rw [hyd, List.take_of_length_le (by omega)], hj⟩
    clear R
    gi_wp2
    go_end0
    exact ⟨⟨_, rfl⟩, .inl HF.out⟩

end Go.Proofs.YtlppbgmcoknliaaGreatDoor
namespace Go.Proofs.YtlppbgmcoknliaaGreatDoor
set_option linter.unusedVariables false
open Go.RowKit Go.Shelf

/-- What such an iterator promises: A is true of each element when it is handed on; of what was handed on so far Sp is true, of all S. -/
def SeqA {α : Type} (n : Nat) (P : Program) (g : Nat) (lb : Array Value) (encs : α → Array Value) (A : α → World → Prop) (Kp : World → World → Prop) (S Sp : List α → Prop) (w : World) : Prop :=
 ∀ (l : Nat) (J Jx : List α → World → Prop) (W : World), Kp w W → AbidesFrom W.heap.size J →
  (∀ pre x W1, J pre W1 → Sp (pre ++ [x]) → A x W1 → YieldAt Fence.wide (n - 1) P l (encs x) W1 fun e W' =>
    (e = .returned (.bool true) ∧ J (pre ++ [x]) W' ∧ Kp W1 W') ∨ (e = .returned (.bool false) ∧ Jx (pre ++ [x]) W')) →
  J [] W →
  CallsIn Fence.wide n P g (#[.func (.yield l) #[] #[]] ++ lb) W fun e W' => (∃ v, e = .returned v) ∧ ((∃ xs, S xs ∧ J xs W') ∨ (∃ pre, Sp pre ∧ Jx pre W'))

section
variable {α : Type} {n : Nat} {P : Program} {g : Operand} {ps : Array Tmp} {assign body : Code} {Q : Exit → Act → World → Prop} {a : Act} {w : World}

theorem rangeA (h1 : 1 ≤ n) {gf : Nat} {lb : Array Value} (hg : a.eval g = .func (.func gf) #[] lb) (eg : ∀ args w, (callFunc gf args).run P w = .ok (.enter gf args) w)
 {encs : α → Array Value} {A : α → World → Prop} {Kp : World → World → Prop} {S Sp : List α → Prop} {w0 : World} (hseq : SeqA (n - 1) P gf lb encs A Kp S Sp w0)
 (hKt : ∀ {A B C : World}, Kp A B → Kp B C → Kp A C) (hKb : ∀ (W : World) (l : Nat) (o o' : Obj), w.heap.size ≤ l → W.heap[l]? = some o → Kp W (W.putObj l o')) (hKw : ∀ W, Below w.heap.size w W → Kp w0 W) (hps : ∀ x, (encs x).size = ps.size)
 (hA : ∀ (x : α) (W : World) (l : Nat) (o o' : Obj), w.heap.size ≤ l → W.heap[l]? = some o → o.isCells = false → A x W → A x (W.putObj l o'))
 (I : List α → World → Prop) (Ix : Code → List α → World → Prop) (hI : OwnFrom w.heap.size I) (hIx : ∀ c, OwnFrom w.heap.size (Ix c)) (h0 : I [] w) (a₁ : α → Act)
 (hassign : ∀ (l : Nat) (x : α) (W : World) (K : Act → World → Prop), K (a₁ x) W →
   assign.wpIn (Fence.wide.inRound l) (n - 1 - 1) P (Exit.then K (fun _ _ _ => False)) { tmps := (ps.zip (encs x)).foldl (fun t (p, v) => t.setIfInBounds p v) a.tmps, defers := [] } W)
 (hbody : ∀ (l : Nat) (pre : List α) (x : α) (W : World), I pre W → Sp (pre ++ [x]) → A x W → body.wpIn (Fence.wide.inRound l) (n - 1 - 1) P (ownPostK Kp I Ix (pre ++ [x]) W) (a₁ x) W)
 (hdone : ∀ (D : Nat) (xs : List α) (W : World), w.heap.size ≤ D → S xs → I xs W → W.heap[D]? = some (.deferred (some [])) → Q .normal { a with defers := { target := .collected D, args := #[] } :: a.defers } W)
 (hstop : ∀ (D : Nat) (c : Code) (pre : List α) (W : World), w.heap.size ≤ D → Sp pre → Ix c pre W → W.heap[D]? = some (.deferred (some [])) → c.wpIn Fence.wide n P Q { a with defers := { target := .collected D, args := #[] } :: a.defers } W) :
 (Code.rangeFunc g ps assign body).wpIn Fence.wide n P Q a w := by
 refine wpIn_rangeFunc ?_
 intro fn hfn
 let rc : LoopState → Option Code → Obj := fun st pe => .loop { state := st, pending := pe, fn := fn, tmps := a.tmps, params := ps, assign := assign, body := body, defers := w.heap.size }
 obtain ⟨D, hD⟩ : ∃ D, D = w.heap.size := ⟨_, rfl⟩
 obtain ⟨r, hr⟩ : ∃ r, r = w.heap.size + 1 := ⟨_, rfl⟩
 obtain ⟨W1, hW1⟩ : ∃ W1, W1 = (w.alloc (.deferred (some []))).alloc (rc .ready none) := ⟨_, rfl⟩
 have hr1 : W1.heap[r]? = some (rc .ready none) := by
  rw [hW1, hr]
  have := World.alloc_heap_new (w.alloc (.deferred (some []))) (rc .ready none)
  rwa [World.size_alloc] at this
 have hD1 : W1.heap[D]? = some (.deferred (some [])) := by
  rw [hW1, hD]
  exact (Below.heap_alloc _ _ _ (by simp)).trans (World.alloc_heap_new w _)
 have hb1 : Below w.heap.size w W1 := by
  rw [hW1]
  exact ((Below.refl _ w).alloc (Nat.le_refl _) _).alloc (by simp) _
 have hs1 : w.heap.size ≤ W1.heap.size := hb1.size
 have hI1 : I [] W1 := by rw [hW1]; exact hI.alloc _ (hI.alloc _ h0)
 have hne : D ≠ r := by omega
 refine ⟨r, [{ target := .collected D, args := #[] }], W1, { target := .fn (.func gf) lb, args := #[.func (.yield r) #[] #[]] }, W1, gf, #[.func (.yield r) #[] #[]] ++ lb, W1, ?_, ?_, fun f' _ => trivial, ?_, fun _ => h1, ?_⟩
 · rw [hW1, hr, hD]
   exact run_enterLoop_outer _ _ _ _ _
 · simp only [resolve, hg]
   simp [go_sem]
 · simp [invoke, go_sem, eg]
 refine (hseq r (fun pre W => I pre W ∧ W.heap[r]? = some (rc .ready none) ∧ W.heap[D]? = some (.deferred (some [])))
  (fun pre W => ∃ c, Ix c pre W ∧ W.heap[r]? = some (rc .done (some c)) ∧ W.heap[D]? = some (.deferred (some []))) W1 (hKw W1 hb1) ?_ ?_ ⟨hI1, hr1, hD1⟩).mono ?_
 · rintro s W W' row ⟨hi, hl, hd⟩ hgr hro
   exact ⟨hI s W W' row hi hgr (fun q e => by obtain ⟨hB, o, ho, hw⟩ := hro q e; exact ⟨Nat.le_trans hs1 hB, o, ho, Obj.not_cells_of_walk hw⟩), (grownBy_keeps hgr (fun q e => (hro q e).2) hl rfl).trans hl, (grownBy_keeps hgr (fun q e => (hro q e).2) hd rfl).trans hd⟩
 · rintro pre x W ⟨hi, hl, hd⟩ hsp hax
   have hlt : r < W.heap.size := (Array.getElem?_eq_some_iff.1 hl).1
   refine ⟨fn, _, assign, body, run_yield (P := P) (args := encs x) hl (hps x), roundIn_of_wpIn hfn (hassign _ x W _ ⟨_, run_beginRound hl rfl, ?_⟩)⟩
   have hb : (W.putObj r (rc .busy none)).heap[r]? = some (rc .busy none) := World.putObj_heap_same hlt
   have hbd : (W.putObj r (rc .busy none)).heap[D]? = some (.deferred (some [])) := (World.putObj_heap_other hne).trans hd
   have hk2 : Kp W (W.putObj r (rc .busy none)) := hKb _ _ _ _ (by omega) hl
   refine wpIn_mono (hbody r pre x _ (hI.putObj _ hi (by omega) hl rfl) hsp (hA x W r _ _ (by omega) hl rfl hax)) ?_
   have behind : ∀ (st : LoopState) (jump : Option Code) (W3 : World), KeepsOthers (W.putObj r (rc .busy none)) W3 →
    W3.heap[r]? = some (rc .busy none) ∧ (W3.putObj r (rc st jump)).heap[r]? = some (rc st jump) ∧ (W3.putObj r (rc st jump)).heap[D]? = some (.deferred (some [])) := fun st jump W3 hk => by
    have e1 := hk.same _ _ hb rfl
    exact ⟨e1, World.putObj_heap_same (Array.getElem?_eq_some_iff.1 e1).1, (World.putObj_heap_other hne).trans (hk.same _ _ hbd rfl)⟩
   rintro e a3 W3 hp
   cases e with
   | normal =>
    obtain ⟨hk, hkp, hi3⟩ := hp
    obtain ⟨e1, e2, e3⟩ := behind .ready none W3 hk
    exact ⟨_, _, run_endRound (P := P) none e1, .inl ⟨rfl, ⟨hI.putObj _ hi3 (by omega) e1 rfl, e2, e3⟩, hKt (hKt hk2 hkp) (hKb _ _ _ _ (by omega) e1)⟩⟩
   | ret =>
    obtain ⟨hk, hi3⟩ := hp
    obtain ⟨e1, e2, e3⟩ := behind .done (some .ret) W3 hk
    exact ⟨_, _, run_endRound (P := P) (some .ret) e1, .inr ⟨rfl, ⟨.ret, (hIx _).putObj _ hi3 (by omega) e1 rfl, e2, e3⟩⟩⟩
   | exit i =>
    obtain ⟨hk, hi3⟩ := hp
    obtain ⟨e1, e2, e3⟩ := behind .done (some (.exit i)) W3 hk
    exact ⟨_, _, run_endRound (P := P) (some (.exit i)) e1, .inr ⟨rfl, ⟨.exit i, (hIx _).putObj _ hi3 (by omega) e1 rfl, e2, e3⟩⟩⟩
   | goto t =>
    obtain ⟨hk, hi3⟩ := hp
    obtain ⟨e1, e2, e3⟩ := behind .done (some (.goto t)) W3 hk
    exact ⟨_, _, run_endRound (P := P) (some (.goto t)) e1, .inr ⟨rfl, ⟨.goto t, (hIx _).putObj _ hi3 (by omega) e1 rfl, e2, e3⟩⟩⟩
   | panic ch => exact hp.elim
   | outgrown => exact hp.elim
 · rintro e W2 ⟨⟨v, rfl⟩, (⟨xs, hS, hi, hl, hd⟩ | ⟨pre, hSp, c, hi, hl, hd⟩)⟩
   · exact ⟨none, _, run_endLoop (P := P) hl (by simp), hdone D xs _ (by omega) hS (hI.putObj _ hi (by omega) hl rfl) ((World.putObj_heap_other (by omega)).trans hd)⟩
   · exact ⟨some c, _, run_endLoop (P := P) hl (by simp), hstop D c pre _ (by omega) hSp ((hIx c).putObj _ hi (by omega) hl rfl) ((World.putObj_heap_other (by omega)).trans hd)⟩
end

theorem uses1_seq (n Bn B0 : Nat) (ps : List PlaceX) (wU : World) (hU : US B0 Bn ps wU) :
 SeqA n Tryz.prog 74 #[.pointer (some ⟨Bn, 0, none⟩)] encP (fun x W => x.At W) (KpR B0 wU.heap.size) (fun xs => xs.map PlaceX.d = ps.map PlaceX.d) (fun pre => pre.map PlaceX.d <+: ps.map PlaceX.d) wU :=
 fun l J Jx W hW hJ hY h0 => uses1_in n l Bn B0 ps wU hU J Jx hY W hW hJ h0
theorem St.put {W : World} {a : Option Addr} {xs : List ByteArray} (h : St W a xs) {l : Nat} {o : Obj} (o' : Obj) (hl : W.heap[l]? = some o) (hc : o.isCells = false) : St (W.putObj l o') a xs := by
 refine ⟨h.len, Sl.big h, ?_⟩
 rcases Sl.at_ h with h0 | ⟨b, off, e, hlt, hcell⟩
 · exact .inl h0
 · refine .inr ⟨b, off, e, by simpa using hlt, fun j r i v hr hv => ?_⟩
   have hcl := hcell j r i v hr hv
   rw [World.cell?_of_block (w := W) (World.putObj_heap_other (fun e2 => by
    have e2 : b = l := e2
    subst e2
    simp [World.cell?, hl] at hcl
    cases o <;> simp_all [Obj.isCells]))]
   exact hcl
theorem KpR.put {B0 B1 : Nat} {w : World} (hB : B1 ≤ w.heap.size) (W : World) (l : Nat) (o o' : Obj) (hl : w.heap.size ≤ l) (h : W.heap[l]? = some o) : KpR B0 B1 W (W.putObj l o') :=
 ⟨by simp, fun k _ h1 => World.putObj_heap_other (by omega)⟩
end Go.Proofs.YtlppbgmcoknliaaGreatDoor
