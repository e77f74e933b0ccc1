/-
  Uses, and the iterator that it hands back.
-/
import Derived.Test.YtlppbgmcoknliaaGreatDoorUse2
import Derived.RangeFuncNested
import Derived.RangeFuncBound
import Derived.RangeFuncCalls
import Derived.RangeFuncLeaves
import Derived.Shelf.Abstract
import Derived.Shelf.RegionOpen
import Derived.OwnWalkIn
import Derived.TacticsInMore
import Derived.LoopNIn
import Derived.LoopIn
namespace Go.Proofs.YtlppbgmcoknliaaGreatDoor
set_option linter.unusedVariables false
open Go.RowKit Go.Shelf
attribute [local go_sem] Oper.semAt_some

/-- Blocks from B0 up to B1 are as they were. -/
structure KpR (B0 B1 : Nat) (W W' : World) : Prop where
  size : W.heap.size ≤ W'.heap.size
  block : ∀ k : Nat, B0 ≤ k → k < B1 → W'.heap[k]? = W.heap[k]?
theorem KpR.refl (B0 B1 : Nat) (W : World) : KpR B0 B1 W W := ⟨Nat.le_refl _, fun _ _ _ => rfl⟩
theorem KpR.t {B0 B1 : Nat} {A B C : World} (h : KpR B0 B1 A B) (k : KpR B0 B1 B C) : KpR B0 B1 A C := ⟨Nat.le_trans h.size k.size, fun i h0 h1 => (k.block i h0 h1).trans (h.block i h0 h1)⟩
theorem KpR.below {B0 B1 : Nat} {A B : World} (h : Below A.heap.size A B) (hB : B1 ≤ A.heap.size) : KpR B0 B1 A B := ⟨h.size, fun i _ h1 => h.block i (Nat.lt_of_lt_of_le h1 hB)⟩
theorem Sl.keepR {w w' : World} {k B0 : Nat} {a : Option Addr} {rows : List (List Value)} (h : Sl w k a rows) (hn : NewA B0 a rows.length) (hk : KpR B0 w.heap.size w w') : Sl w' k a rows := by
  refine ⟨h.len, h.big, ?_⟩
  rcases h.at_ with h0 | ⟨b, off, e, hlt, hc⟩
  · exact .inl h0
  · rcases hn with h0 | ⟨g, o2, e2, hg⟩
    · exact .inl (List.length_eq_zero_iff.1 h0)
    · rw [e] at e2
      cases e2
      refine .inr ⟨b, off, e, Nat.lt_of_lt_of_le hlt hk.size, fun j r i v hr hv => ?_⟩
      rw [World.cell?_of_block (w := w) (hk.block b hg hlt)]
      exact hc j r i v hr hv
theorem at_wide {n : Nat} {P : Program} {f : FuncId} {args : Array Value} {w : World} {R : Ending → World → Prop} (h : Calls P f args w R) : Fence.wide.fn f ∧ (Fence.wide.depth.isSome = true → 1 ≤ n) ∧ CallsIn Fence.wide (n - 1) P f args w R :=
  ⟨trivial, fun h => by simp [Fence.wide] at h, callsIn_wide.2 h⟩
def encP (x : PlaceX) : Array Value := #[.agg #[.string x.loc, .slice x.sa x.steps.length x.sc]]

/-- What Uses leaves in memory: the list of the places, from block B0 on. -/
structure US (B0 Bn : Nat) (ps : List PlaceX) (w : World) : Prop where
  blk : ∃ a c, w.heap[Bn]? = some (.cells #[.slice a ps.length c] 46 (0, 0)) ∧ Sl w 2 a (ps.map PlaceX.row) ∧ NewA B0 a ps.length
  low : B0 ≤ Bn
  at_ : ∀ p ∈ ps, p.At w ∧ p.New B0

set_option maxHeartbeats 1000000 in
theorem uses_any (f : FuncX) (w : World) (hf : f.At w) (hbig : fnN f ≤ 1048576) :
    Calls Tryz.prog 27 #[.agg #[.int .i64 f.at_, .string f.name, .slice f.pa f.params.length f.pc, .slice f.la f.locals.length f.lc, .string f.result, .slice f.ba f.blocks.length f.bc]] w fun e w' => ∃ Bn ps, e = .returned (.func (.func 74) #[] #[.pointer (some ⟨Bn, 0, none⟩)]) ∧ US w.heap.size Bn ps w' ∧ ps.map PlaceX.d = fnU f ∧ Below w.heap.size w w' := by
  have hb := hidIt (below_new w (.cells #[.int .i64 f.at_, .string f.name, .slice f.pa f.params.length f.pc, .slice f.la f.locals.length f.lc, .string f.result, .slice f.ba f.blocks.length f.bc] 45))
  have c73 := hidIt (places_any f _ (hf.on hb.out) hbig)
  have hs : Hid (w.heap.size ≤ (w.alloc (.cells #[.int .i64 f.at_, .string f.name, .slice f.pa f.params.length f.pc, .slice f.la f.locals.length f.lc, .string f.result, .slice f.ba f.blocks.length f.bc] 45)).heap.size) := hidIt hb.out.size
  have HL : Hid ((fnU f).length ≤ 1048576) := hidIt (Nat.le_trans (flat_le blU_le f.blocks) hbig)
  clear hf hbig
  generalize fnU f = ds at c73 HL ⊢
  go_enter Tryz.func27, Tryz.ntmps27
  go_wp2_with (go_at_call 73; refine c73.out.mono ?_)
  rintro e w1 ⟨v, ps, rfl, h1, h2, h3⟩
  have H1 := hidIt h1
  have H2 := hidIt h2
  have H3 := hidIt (below_next hb.out h3)
  clear h1 h2 h3 c73
  obtain ⟨a, c, rfl⟩ := H1.out.shape
  go_wp2
  go_ret
  have hbn := below_new w1 (.cells #[.slice a ps.length c] 46)
  have hbig : ps.length ≤ 1048576 := by have := HL.out; rw [← H2.out, List.length_map] at this; exact this
  obtain ⟨a', c', he, _, hown⟩ := Own.of (w := w1) (rows := ps.map PlaceX.row) (k := 2) (fun r hr => by obtain ⟨z, _, rfl⟩ := List.mem_map.1 hr; rfl) (by rw [List.length_map]; exact hbig) (by rw [List.length_map]; exact H1.out.own)
  rw [List.length_map] at he
  cases he
  refine ⟨w1.heap.size, ps, rfl, ⟨⟨a, c, heap_alloc_new w1 _, ?_, ?_⟩, H3.out.size, fun p hp => ⟨(H1.out.at_ p hp).on hbn, (H1.out.new p hp).mono hs.out⟩⟩, H2.out, below_next H3.out hbn⟩
  · exact Sl.on hown.sl hbn
  · have := hown.new
    rw [List.length_map] at this
    exact this.mono hs.out

set_option maxRecDepth 100000 in
set_option maxHeartbeats 2000000 in
theorem uses1_in (n l Bn B0 : Nat) (ps : List PlaceX) (wU : World) (hU : US B0 Bn ps wU) (J Jx : List PlaceX → World → Prop)
    (hY : ∀ pre x W, J pre W → (pre ++ [x]).map PlaceX.d <+: ps.map PlaceX.d → x.At W → YieldAt Fence.wide (n - 1) Tryz.prog l (encP x) W fun e W' =>
      (e = .returned (.bool true) ∧ J (pre ++ [x]) W' ∧ KpR B0 wU.heap.size W W') ∨ (e = .returned (.bool false) ∧ Jx (pre ++ [x]) W'))
    (W : World) (hW : KpR B0 wU.heap.size wU W) (hJ : AbidesFrom W.heap.size J) (h0 : J [] W) :
    CallsIn Fence.wide n Tryz.prog 74 #[.func (.yield l) #[] #[], .pointer (some ⟨Bn, 0, none⟩)] W fun e W' => (∃ v, e = .returned v) ∧
      ((∃ ys, ys.map PlaceX.d = ps.map PlaceX.d ∧ J ys W') ∨ (∃ pre, pre.map PlaceX.d <+: ps.map PlaceX.d ∧ Jx pre W')) := by
  refine callsIn_of_wp Tryz.func74 rfl trivial ?_ rfl
  simp only [Tryz.ntmps74, List.size_toArray, List.length_cons, List.length_nil, Nat.reduceAdd, Nat.reduceSub, Array.replicate_succ, Array.replicate_zero, List.push_toArray, List.append_toArray, List.nil_append, List.cons_append]
  obtain ⟨a, c, hbn, hsl, hnew⟩ := hU.blk
  have hbig : ps.length ≤ 1048576 := by have := hsl.big; rwa [List.length_map] at this
  have HN : Hid (NewA B0 a (ps.map PlaceX.row).length) := hidIt (by rw [List.length_map]; exact hnew)
  have HS := hidIt hsl
  have HAT := hidIt hU.at_
  have HY := hidIt hY
  have HJ := hidIt hJ
  have H0 := hidIt h0
  have HW := hidIt hW
  have p0 : W.cell? ⟨Bn, 0, none⟩ = some (.slice a ps.length c) := cell_at ((hW.block Bn hU.low (Array.getElem?_eq_some_iff.1 hbn).1).trans hbn) 0
  clear hsl hnew hbn hU hY hJ h0 hW
  gi_wp2
  gi_loopw [4, 7] (fun i4 i wr => ∃ k : Nat, k ≤ ps.length ∧ i = .int .i64 k ∧ Hid ((∃ ys, ys.map PlaceX.d = (ps.take k).map PlaceX.d ∧ J ys wr) ∧ KpR B0 wU.heap.size wU wr ∧ W.heap.size ≤ wr.heap.size)) (fun _ i _ => ps.length - (intOf i).toNat)
  case atStart => exact ⟨0, Nat.zero_le _, rfl, hidIt ⟨⟨[], rfl, H0.out⟩, HW.out, Nat.le_refl _⟩⟩
  case round =>
    clear p0 H0 HW
    obtain ⟨k, hk, rfl, R⟩ := hrel
    by_cases hlt : k < ps.length
    · obtain ⟨⟨ys, hyd, hj⟩, hkw, hsz⟩ := R.out
      clear R
      obtain ⟨p, hp⟩ : ∃ p, ps[k]? = some p := ⟨_, List.getElem?_eq_getElem hlt⟩
      obtain ⟨b1, o1, rfl, g1⟩ := Sl.cellsAt (Sl.keepR HS.out HN.out hkw) (j := k) (r := p.row) (by rw [List.getElem?_map, hp]; rfl)
      have g1 := g1 wr (Below.refl _ _)
      have q0 := g1 0 _ rfl
      have q1 := g1 1 _ rfl
      rw [Nat.add_zero] at q0
      have hpa : p.At wr := Sl.keepR (HAT.out p (List.mem_of_getElem? hp)).1 (by rw [strs_len]; exact (HAT.out p (List.mem_of_getElem? hp)).2) hkw
      have hbx := below_new wr (.cells #[.string p.loc, .slice p.sa p.steps.length p.sc] 24)
      have c75 := hidIt (clone_p p _ (hpa.on hbx))
      have HJ1 : Hid (J ys wr) := hidIt hj
      have HKW := hidIt hkw
      have HSZ := hidIt hsz
      have HYD := hidIt hyd
      have HBX := hidIt hbx
      have HP := hidIt hp
      clear g1 hpa hbx hj hkw hsz hyd hp
      gi_wp2_with fail
      refine at_wide (c75.out.mono ?_)
      rintro e w3 ⟨y, rfl, hyd1, ⟨hya1, hyn1⟩, hq3⟩
      have hb3 : Below wr.heap.size wr w3 := below_next HBX.out hq3
      have hj3 : J ys w3 := HJ.out ys wr w3 none HJ1.out ⟨hb3.os, hb3.tape, hb3.output, hb3.size, fun k hk _ => hb3.block k hk⟩ (fun r e => by cases e)
      have hnext : (ys ++ [y]).map PlaceX.d = (ps.take (k + 1)).map PlaceX.d := by
        rw [List.map_append, HYD.out, List.take_add_one, HP.out, List.map_append]
        show _ ++ [y.d] = _ ++ [p.d]
        rw [hyd1]
      obtain ⟨fn, tmps, assign, body, hy, hRd⟩ := HY.out ys y w3 hj3 (by rw [hnext]; exact (List.take_prefix _ _).map _) hya1
      have HNX := hidIt hnext
      have HKW3 : Hid (KpR B0 wU.heap.size wU w3) := hidIt (HKW.out.t (KpR.below hb3 HKW.out.size))
      have HSZ3 : Hid (W.heap.size ≤ w3.heap.size) := hidIt (Nat.le_trans HSZ.out hb3.size)
      clear hyd1 hya1 hyn1 hq3 hb3 hj3 hnext c75 HJ1 HKW HSZ HYD HBX HP q0 q1
      unfold encP at hy
      gi_wp2
      refine ⟨fun h => by simp [Fence.wide] at h, hRd.mono ?_⟩
      clear hy hRd
      rintro e W3 (⟨rfl, hJ3, hk3⟩ | ⟨rfl, hJx3⟩)
      · have RES : Hid ((∃ ys, ys.map PlaceX.d = (ps.take (k + 1)).map PlaceX.d ∧ J ys W3) ∧ KpR B0 wU.heap.size wU W3 ∧ W.heap.size ≤ W3.heap.size) := hidIt ⟨⟨_, HNX.out, hJ3⟩, HKW3.out.t hk3, Nat.le_trans HSZ3.out hk3.size⟩
        clear hJ3 hk3 HNX HKW3 HSZ3
        gi_wp2
        go_roundw
        case rel => exact ⟨k + 1, by omega, by go_num, RES⟩
        case measure => simp [intOf]; omega
      · have HF : Hid (∃ pre, pre.map PlaceX.d <+: ps.map PlaceX.d ∧ Jx pre W3) := hidIt ⟨_, by rw [HNX.out]; exact (List.take_prefix _ _).map _, hJx3⟩
        clear hJx3 HNX HKW3 HSZ3
        gi_wp2
        refine bodyPost_ret (results_none rfl _ _ _) rfl ?_
        exact ⟨⟨_, rfl⟩, .inr HF.out⟩
    · have HF : Hid (∃ ys, ys.map PlaceX.d = ps.map PlaceX.d ∧ J ys wr) := by
        obtain ⟨⟨ys, hyd, hj⟩, _⟩ := R.out
        exact hidIt ⟨ys, by rw [hyd, List.take_of_length_le (by omega)], hj⟩
      clear R
      gi_wp2
      go_end0
      exact ⟨⟨_, rfl⟩, .inl HF.out⟩

end Go.Proofs.YtlppbgmcoknliaaGreatDoor
