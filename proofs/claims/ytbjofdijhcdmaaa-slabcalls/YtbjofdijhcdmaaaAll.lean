/-
  All, and the iterator that it hands back.
-/
import Derived.Test.YtbjofdijhcdmaaaPieces
import Derived.RangeFuncNested
import Derived.RangeFuncBound
import Derived.RangeFuncCalls
import Derived.RangeFuncLeaves
import Derived.Shelf.Abstract
import Derived.Shelf.RegionOpen
import Derived.OwnWalkIn
import Derived.TacticsInMore
import Derived.LoopNIn
import Derived.LoopIn
namespace Go.Proofs.Ytbjofdijhcdmaaa
set_option linter.unusedVariables false
open Go.RowKit Go.Shelf
attribute [local go_sem] Oper.semAt_some

set_option maxHeartbeats 400000 in
theorem all_any (A : Nat) (w : World) :
    Calls Try.prog 24 #[.pointer (some ⟨A, 0, none⟩)] w fun e w' => e = .returned (.func (.func 44) #[] #[.pointer (some ⟨w.heap.size, 0, none⟩)]) ∧ w.alloc (.cells #[.pointer (some ⟨A, 0, none⟩)] 27) = w' := by
  go_enter Try.func24, Try.ntmps24
  go_wp2
  go_ret
  exact ⟨rfl, rfl⟩

/-- What a round keeps: cells that lie at or beyond n₁. -/
structure KpC (n₁ : Nat) (W W' : World) : Prop where
  size : W.heap.size ≤ W'.heap.size
  cells : ∀ (k : Nat) (cs : Array Value) (t : TypeId) (fr : Nat × Nat), n₁ ≤ k → W.heap[k]? = some (.cells cs t fr) → W'.heap[k]? = some (.cells cs t fr)
theorem KpC.t {n₁ : Nat} {A B C : World} (h : KpC n₁ A B) (k : KpC n₁ B C) : KpC n₁ A C := ⟨Nat.le_trans h.size k.size, fun i cs t fr hi hc => k.cells i cs t fr hi (h.cells i cs t fr hi hc)⟩
theorem KpC.b {n₁ : Nat} {w : World} (W : World) (l : Nat) (o o' : Obj) (_ : w.heap.size ≤ l) (h : W.heap[l]? = some o) (hc : o.isCells = false) (_ : o.isWalk = false) : KpC n₁ W (W.putObj l o') := by
  have hg := grownBy_putObj' W l o'
  refine ⟨hg.size, fun k cs t fr _ hk => ?_⟩
  rw [hg.block k (lt_of_block hk) (fun e => by
    cases e
    rw [h] at hk
    simp only [Option.some.injEq] at hk
    subst hk
    simp [Obj.isCells] at hc)]
  exact hk
theorem KpC.cell {n₁ : Nat} {W W' : World} (h : KpC n₁ W W') {b o : Nat} {v : Value} (hb : n₁ ≤ b) (hc : W.cell? ⟨b, o, none⟩ = some v) : W'.cell? ⟨b, o, none⟩ = some v := by
  cases hh : W.heap[b]? with
  | none => simp [World.cell?, hh] at hc
  | some x =>
    cases x with
    | cells cs t fr =>
      have := h.cells b cs t fr hb hh
      rw [World.cell?_of_block (w := W) (a := ⟨b, o, none⟩) (this.trans hh.symm)]
      exact hc
    | _ => simp [World.cell?, hh] at hc

/-- The pieces' cells in a list. -/
def ListAt (L : List (Int × Int)) (g : Nat) (W : World) : Prop := ∀ (j : Nat) (p : Int × Int), L[j]? = some p → W.cell? ⟨g, j * 2, none⟩ = some (.int .u64 p.1) ∧ W.cell? ⟨g, j * 2 + 1, none⟩ = some (.int .i64 p.2)
theorem ListAt.kept {L : List (Int × Int)} {g n₁ : Nat} {W W' : World} (h : ListAt L g W) (hk : KpC n₁ W W') (hg : n₁ ≤ g) : ListAt L g W' := fun j p hj => ⟨hk.cell hg (h j p hj).1, hk.cell hg (h j p hj).2⟩

abbrev El (L : List (Int × Int)) := { p : Int × Int // p ∈ L }
def encEl (L : List (Int × Int)) (x : El L) : Array Value := #[.int .u64 x.1.1, .int .i64 x.1.2]

theorem attach_get (L : List (Int × Int)) (k : Nat) (h : k < L.length) : L.attach.take (k + 1) = L.attach.take k ++ [⟨L[k], List.getElem_mem h⟩] := by
  rw [List.take_succ_eq_append_getElem (by simpa using h)]
  simp

theorem at_wide {n : Nat} {P : Program} {f : FuncId} {args : Array Value} {w : World} {R : Ending → World → Prop} (h : Calls P f args w R) : Fence.wide.fn f ∧ (Fence.wide.depth.isSome = true → 1 ≤ n) ∧ CallsIn Fence.wide (n - 1) P f args w R :=
  ⟨trivial, fun h => by simp [Fence.wide] at h, callsIn_wide.2 h⟩

set_option maxRecDepth 100000 in
set_option maxHeartbeats 1000000 in
theorem all1_in (n : Nat) (l Bn n₁ A : Nat) (st : Sl) (fp : Nat → Prop) (L : List (Int × Int)) (hLp : pcs st.ents 0 = L) (J Jx : List (El L) → World → Prop)
    (hY : ∀ pre x W, J pre W → pre.length < L.length → YieldAt Fence.wide (n - 1) Try.prog l (encEl L x) W fun e W' =>
      (e = .returned (.bool true) ∧ J (pre ++ [x]) W' ∧ KpC n₁ W W') ∨ (e = .returned (.bool false) ∧ Jx (pre ++ [x]) W'))
    (W : World) (hBn : W.cell? ⟨Bn, 0, none⟩ = some (.pointer (some ⟨A, 0, none⟩))) (hR : Rep W A st fp) (hv : Inv st) (hs : Small st 900000) (hn1 : n₁ ≤ W.heap.size) (hJ : AbidesFrom W.heap.size J) (h0 : J [] W) :
    CallsIn Fence.wide n Try.prog 44 #[.func (.yield l) #[] #[], .pointer (some ⟨Bn, 0, none⟩)] W fun e W' => (∃ v, e = .returned v) ∧
      ((∃ ys, ys = L.attach ∧ J ys W') ∨ (∃ pre, pre <+: L.attach ∧ Jx pre W')) := by
  refine callsIn_of_wp Try.func44 rfl trivial ?_ rfl
  simp only [Try.ntmps44, List.size_toArray, List.length_cons, List.length_nil, Nat.reduceAdd, Nat.reduceSub, Array.replicate_succ, Array.replicate_zero, List.push_toArray, List.append_toArray, List.nil_append, List.cons_append]
  have hp := hidIt (pieces_any hR hv hs)
  rw [hLp] at hp
  have HY := hidIt hY
  have HJ := hidIt hJ
  have hLl : L.length ≤ 900000 := by
    rw [← hLp, pcs_length]
    have := List.countP_le_length (p := taken) (l := st.ents)
    have := hs.ents
    omega
  have H0 := hidIt h0
  clear hR hv hs hLp hY hJ h0
  gi_wp2_with fail
  refine at_wide (hp.out.mono ?_)
  rintro e w1 ⟨g, rfl, hg1, hg2, hcells, hk1⟩
  have HL : Hid (ListAt L g w1) := hcells
  have HJ1 : Hid (J [] w1) := HJ.out [] W w1 none H0.out ⟨hk1.os, hk1.tape, hk1.output, hk1.size, fun k hk _ => hk1.block k hk id⟩ (fun r e => by cases e)
  have hsz : W.heap.size ≤ w1.heap.size := hk1.size
  clear hcells hk1 H0 hp hBn
  gi_wp2
  gi_loopw [8] (fun i wr => ∃ k : Nat, k ≤ L.length ∧ i = .int .i64 k ∧ Hid (J (L.attach.take k) wr) ∧ Hid (ListAt L g wr) ∧ W.heap.size ≤ wr.heap.size) (fun i _ => L.length - (intOf i).toNat)
  case atStart => exact ⟨0, Nat.zero_le _, rfl, HJ1.out, HL.out, hsz⟩
  case round =>
    clear HJ1 HL hsz
    obtain ⟨k, hk, rfl, hJr, hLr, hsz⟩ := hrel
    by_cases hlt : k < L.length
    · obtain ⟨p, hp⟩ : ∃ p, L[k]? = some p := ⟨_, List.getElem?_eq_getElem hlt⟩
      have hpm : p ∈ L := List.mem_of_getElem? hp
      obtain ⟨c1, c2⟩ := hLr.out k p hp
      have hJ2 : J (L.attach.take k) (wr.alloc (.cells #[.int .u64 p.1, .int .i64 p.2] 105)) := HJ.out _ wr _ none hJr.out (World.grownBy_alloc wr _ none) (fun r e => by cases e)
      have hlen : (L.attach.take k).length < L.length := by simp; omega
      obtain ⟨fn, tmps, assign, body, hy, hRd⟩ := HY.out _ ⟨p, hpm⟩ _ hJ2 hlen
      have hnext : L.attach.take (k + 1) = L.attach.take k ++ [⟨p, hpm⟩] := by
        rw [attach_get L k hlt]
        have : L[k] = p := (List.getElem?_eq_some_iff.1 hp).2
        subst this
        rfl
      have Hnext := hidIt hnext
      clear hnext hJ2 hlen hJr hp
      unfold encEl at hy
      dsimp only at hy
      gi_wp2
      refine ⟨fun h => by simp [Fence.wide] at h, hRd.mono ?_⟩
      have hL1 : ListAt L g (wr.alloc (.cells #[.int .u64 p.1, .int .i64 p.2] 105)) := fun j q hj => by
        obtain ⟨d1, d2⟩ := hLr.out j q hj
        exact ⟨(World.cell?_of_block (w := wr) (Below.heap_alloc wr _ g (World.block_lt_of_cell? wr _ d1))).trans d1, (World.cell?_of_block (w := wr) (Below.heap_alloc wr _ g (World.block_lt_of_cell? wr _ d2))).trans d2⟩
      have HL1 := hidIt hL1
      clear hL1 hLr hy hRd c1 c2
      rintro e W3 (⟨rfl, hJ3, hk3⟩ | ⟨rfl, hJx3⟩)
      · have HL3 : Hid (ListAt L g W3) := HL1.out.kept hk3 (by omega)
        have HJ3 : Hid (J (L.attach.take (k + 1)) W3) := by
          show J _ _
          rw [Hnext.out]
          exact hJ3
        have hs3 : W.heap.size ≤ W3.heap.size := by have := hk3.size; simp at this; omega
        clear hJ3 hk3 Hnext HL1
        gi_wp2
        go_roundw
        case rel => exact ⟨k + 1, by omega, by go_num, HJ3, HL3, hs3⟩
        case measure => simp [intOf]; omega
      · have HF : Hid (∃ pre, pre <+: L.attach ∧ Jx pre W3) := ⟨_, by
          rw [← Hnext.out]
          exact List.take_prefix _ _, hJx3⟩
        clear hJx3 Hnext HL1
        gi_wp2
        refine bodyPost_ret (results_none rfl _ _ _) rfl ?_
        exact ⟨⟨_, rfl⟩, .inr HF.out⟩
    · have HF : Hid (∃ ys, ys = L.attach ∧ J ys wr) := ⟨_, List.take_of_length_le (by simp; omega), hJr.out⟩
      clear hJr hLr
      gi_wp2
      go_end0
      exact ⟨⟨_, rfl⟩, .inl HF.out⟩

theorem all1_stops (n Bn n₁ A : Nat) (st : Sl) (fp : Nat → Prop) (L : List (Int × Int)) (hLp : pcs st.ents 0 = L) (w : World) (hBn : w.cell? ⟨Bn, 0, none⟩ = some (.pointer (some ⟨A, 0, none⟩))) (hR : Rep w A st fp) (hv : Inv st) (hs : Small st 900000) (hn1 : n₁ ≤ w.heap.size) :
    SeqStopsK Fence.wide n Try.prog 44 #[.pointer (some ⟨Bn, 0, none⟩)] (encEl L) (KpC n₁) (fun xs => xs = L.attach) (fun pre => pre <+: L.attach) L.length w :=
  fun l J Jx W hW hJ _ hY h0 => all1_in n l Bn n₁ A st fp L hLp J Jx hY W ((hW.cell (p := ⟨Bn, 0, none⟩) (World.block_lt_of_cell? w _ hBn)).trans hBn) (hR.frame hW.size fun k hk => hW.block k (hR.lt k hk)) hv hs (Nat.le_trans hn1 hW.size) hJ h0
end Go.Proofs.Ytbjofdijhcdmaaa
