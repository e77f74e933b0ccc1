/-
  The walk of TreeCounts.
-/
import Derived.Test.YtlppbgmcoknliaaGreatDoorCtc
import Derived.Test.YtlppbgmcoknliaaGreatDoorGre
import Derived.Test.YtlppbgmcoknliaaGreatDoorAlv2
import Derived.Test.YtlppbgmcoknliaaGreatDoorSml
import Derived.Deep.RegionHeld3
import Derived.Deep.RegionLaw
namespace Go.Proofs.YtlppbgmcoknliaaGreatDoor
set_option linter.unusedVariables false
open Go.RowKit

theorem fit_s5 {s : ByteArray} (h : szS s ≤ 1048576) : fitS s := by
 have h1 : s.size + 1 ≤ 1048576 := h
 show s.size ≤ _
 omega
theorem fit_in {α : Type} {f : α → Nat} {P : α → Prop} {l : List α} (hl : szL f l ≤ 1048576) (h : ∀ x, f x ≤ 1048576 → P x) : ∀ x ∈ l, P x := fun x hx => h x (Nat.le_trans (szL_mem (f := f) hx) hl)
theorem fit_var {v : VarD} (h : v.sz ≤ 1048576) : v.Fit := by
 unfold VarD.sz at h
 exact ⟨fit_s5 (by omega), fit_s5 (by omega)⟩
theorem fit_arm {v : ArmD} (h : v.sz ≤ 1048576) : v.Fit := by
 unfold ArmD.sz at h
 exact ⟨fit_s5 (by omega), fit_s5 (by omega), fit_s5 (by omega)⟩
theorem fit_stmt {v : StmtD} (h : v.sz ≤ 1048576) : v.Fit := by
 unfold StmtD.sz at h
 exact ⟨fit_place (by omega), fit_s5 (by omega), fit_s5 (by omega), fit_in (f := PlaceD.sz) (by omega) fun x hx => fit_place hx⟩
theorem fit_term {v : TermD} (h : v.sz ≤ 1048576) : v.Fit := by
 unfold TermD.sz at h
 exact ⟨fit_place (by omega), fit_s5 (by omega), fit_in (f := PlaceD.sz) (by omega) fun x hx => fit_place hx, fit_in (f := szS) (by omega) fun x hx => fit_s5 hx, fit_in (f := ArmD.sz) (by omega) fun x hx => fit_arm hx⟩
theorem fit_block {v : BlockD} (h : v.sz ≤ 1048576) : v.Fit := by
 unfold BlockD.sz at h
 exact ⟨fit_s5 (by omega), fit_in (f := StmtD.sz) (by omega) fun x hx => fit_stmt hx, fit_term (by omega)⟩
theorem fit_func {v : FuncD} (h : v.sz ≤ 1048576) : v.Fit := by
 unfold FuncD.sz at h
 exact ⟨fit_s5 (by omega), fit_s5 (by omega), fit_in (f := VarD.sz) (by omega) fun x hx => fit_var hx, fit_in (f := VarD.sz) (by omega) fun x hx => fit_var hx, fit_in (f := BlockD.sz) (by omega) fun x hx => fit_block hx⟩
theorem fit_prog {v : ProgD} (h : v.sz ≤ 1048576) : v.Fit := by
 unfold ProgD.sz at h
 refine ⟨fit_in (f := StructD.sz) (by omega) fun x hx => ?_, fit_in (f := EnumD.sz) (by omega) fun x hx => ?_, fit_in (f := FuncD.sz) (by omega) fun x hx => fit_func hx⟩
 · unfold StructD.sz at hx
   exact ⟨fit_s5 (by omega), fit_in (f := VarD.sz) (by omega) fun x hx => fit_var hx⟩
 · unfold EnumD.sz at hx
   exact ⟨fit_s5 (by omega), fit_in (f := VarD.sz) (by omega) fun x hx => fit_var hx⟩

def ctO (b : Nat) : List Obj := [.cells #[.int .i64 0, .string ⟨#[97]⟩, .bool false, .bool false, .slice none 0 0] 58, .cells #[.string ⟨#[98]⟩] 9, .cells #[.int .i64 0, .string ⟨#[98]⟩, .slice none 0 0, .int .i64 0, .int .i64 1, .string ⟨#[]⟩, .slice none 0 0, .string ⟨#[]⟩, .slice none 0 0, .slice (some ⟨b + 1, 0, none⟩) 1 1, .slice none 0 0] 64, .cells #[.int .i64 0, .string ⟨#[102]⟩, .slice none 0 0, .slice none 0 0, .string ⟨#[105, 110, 116]⟩, .slice (some ⟨b + 2, 0, none⟩) 1 1] 45]

theorem right_lens {p : ProgD} (h : progR p = true) : p.structs.length ≤ 16 ∧ p.funcs.length ≤ 16 := by
  unfold progR at h
  rw [Bool.and_eq_true, Bool.and_eq_true] at h
  have h1 := h.1
  have h2 := h.2.2
  unfold everyL at h1 h2
  rw [Bool.and_eq_true, Bool.and_eq_true, decide_eq_true_eq, decide_eq_true_eq] at h1 h2
  exact ⟨by omega, by omega⟩
theorem info58 : ∃ i0, Tryz.prog.info? 58 = some i0 ∧ i0.zero = some (.agg #[.int .i64 0, .string ⟨#[]⟩, .bool false, .bool false, .slice none 0 0]) ∧ i0.size = 5 ∧ i0.bytes ≤ 1000 := by
  have := cinfo_struct
  cases hh : Tryz.prog.info? 58 with
  | none => rw [hh] at this; cases this
  | some i => rw [hh] at this; simp only [Option.map_some, Option.some.injEq, Prod.mk.injEq, decide_eq_true_eq] at this; exact ⟨i, rfl, this.1, this.2.1, this.2.2⟩
theorem info45 : ∃ i0, Tryz.prog.info? 45 = some i0 ∧ i0.zero = some (.agg #[.int .i64 0, .string ⟨#[]⟩, .slice none 0 0, .slice none 0 0, .string ⟨#[]⟩, .slice none 0 0]) ∧ i0.size = 6 ∧ i0.bytes ≤ 1000 := by
  have := cinfo_func
  cases hh : Tryz.prog.info? 45 with
  | none => rw [hh] at this; cases this
  | some i => rw [hh] at this; simp only [Option.map_some, Option.some.injEq, Prod.mk.injEq, decide_eq_true_eq] at this; exact ⟨i, rfl, this.1, this.2.1, this.2.2⟩
theorem info64 : ∃ i0 z, Tryz.prog.info? 64 = some i0 ∧ i0.zero = some z ∧ z.cells.size = 11 ∧ i0.size = 11 ∧ i0.bytes ≤ 1000 := by
  have := cinfo_block
  cases hh : Tryz.prog.info? 64 with
  | none => rw [hh] at this; cases this
  | some i => rw [hh] at this; simp only [Option.map_some, Option.some.injEq, Prod.mk.injEq, decide_eq_true_eq] at this; exact ⟨i, _, rfl, this.1, rfl, this.2.1, this.2.2⟩

theorem LS.drew {C : LC} {kx ky kg : Nat} {vX vY vG : Value} {W : World} (h : LS C kx ky kg vX vY vG W) : LS C kx ky kg vX vY vG W.drew :=
  ⟨h.size, h.os, h.fr, h.hX, h.hY, h.hG, h.oX, h.oY, h.oG, h.rX, h.rY, h.rG⟩

theorem step_append_run {P : Program} {w : World} {ops : Array Oper} {o : Oper} {a : Act} {K : Act → World → Prop} {Q : Exit → Act → World → Prop} {E : Prop} (hgd : o.guard = none) (s x : Operand) (t : TypeId)
    (ho : o.op = .call { callee := .builtin .append, args := #[s, x], argTypes := #[t, t] }) (vs vx : Value) (hs : a.eval s = vs) (hx : a.eval x = vx)
    (v' : Value) (w' : World) (hr : (Builtin.append_ #[t, t] o.type #[vs, vx]).run P w = .ok v' w') (h : K (a.put o.dst v') w') : if Region.wanted o (yielded ops a.tmps) = true then Oper.wp P o a w K Q else E := by
  have hw : Region.wanted o (yielded ops a.tmps) = true := by simp [Region.wanted, hgd]
  rw [if_pos hw]
  exact Lib.wp_append_run w s x t t ho vs vx hs hx v' w' hr h

structure PM (w : World) (q0 q1 q2 : Value) (W : World) : Prop where
 bel : Below w.heap.size w W
 box : W.heap[w.heap.size]? = some (.cells #[q0, q1, q2] 36 (0, 0))
theorem PM.on {w W W' : World} {q0 q1 q2 : Value} (h : PM w q0 q1 q2 W) (hb : Below W.heap.size W W') : PM w q0 q1 q2 W' := ⟨below_next h.bel hb, heap_on h.box hb⟩
theorem PM.cells {w W : World} {q0 q1 q2 : Value} (h : PM w q0 q1 q2 W) : W.cell? ⟨w.heap.size, 0, none⟩ = some q0 ∧ W.cell? ⟨w.heap.size, 1, none⟩ = some q1 ∧ W.cell? ⟨w.heap.size, 2, none⟩ = some q2 := cells_3 h.box

set_option maxHeartbeats 8000000 in
set_option maxRecDepth 100000 in
theorem treecounts_any (p : ProgX) (tm : Nat) (ht : tm < 256) (w : World) (hp : p.Ok w) (hz : p.d.sz ≤ 1048576) :
    Calls Tryz.prog 8 #[.agg #[.slice p.sa p.structs.length p.sc, .slice p.ea p.enums.length p.ec, .slice p.fa p.funcs.length p.fc], .int .u8 (tm : Int)] w fun e w' => e = .returned (.bool true) ∧ Below w.heap.size w w' := by
  have hf : p.d.Fit := fit_prog hz
  have C9 : Hid (∀ W, Calls Tryz.prog 9 #[] W fun e w' => e = .returned (.bool true) ∧ Below W.heap.size W w') := hidIt fun W => alive_any W
  have C19 : Hid (∀ W, Below w.heap.size w W → Calls Tryz.prog 19 #[.agg #[.slice p.sa p.structs.length p.sc, .slice p.ea p.enums.length p.ec, .slice p.fa p.funcs.length p.fc]] W fun e w' => e = .returned (.bool (greatB p.d)) ∧ Below W.heap.size W w') := hidIt fun W hW => great_any p W (hp.on hW) hz
  have C20 : Hid (∀ W, Below w.heap.size w W → Calls Tryz.prog 20 #[.agg #[.slice p.sa p.structs.length p.sc, .slice p.ea p.enums.length p.ec, .slice p.fa p.funcs.length p.fc]] W fun e w' => e = .returned (.bool (progR p.d)) ∧ Below W.heap.size W w') := hidIt fun W hW => right_any p W (hp.1.on hW) hf
  have C24 : Hid (∀ W, Below w.heap.size w W → Calls Tryz.prog 24 #[.agg #[.slice p.sa p.structs.length p.sc, .slice p.ea p.enums.length p.ec, .slice p.fa p.funcs.length p.fc]] W fun e w' => ∃ y : ProgX, e = .returned (.agg #[.slice y.sa y.structs.length y.sc, .slice y.ea y.enums.length y.ec, .slice y.fa y.funcs.length y.fc]) ∧ y.d = p.d ∧ y.At w' ∧ CloneOf W w' y ∧ Below W.heap.size W w') := hidIt fun W hW => cloneprog_room p W (hp.1.on hW)
  have HF := hidIt hf
  obtain ⟨n, hn, en⟩ : ∃ n : Nat, n < 70 ∧ (tm : Int) % 70 = (n : Int) := ⟨tm % 70, Nat.mod_lt _ (by decide), by omega⟩
  have EN := hidIt en
  clear en
  have M : Hid (PM w (.slice p.sa p.structs.length p.sc) (.slice p.ea p.enums.length p.ec) (.slice p.fa p.funcs.length p.fc) (w.alloc (.cells #[.slice p.sa p.structs.length p.sc, .slice p.ea p.enums.length p.ec, .slice p.fa p.funcs.length p.fc] 36))) := hidIt ⟨below_new w _, heap_alloc_new w _⟩
  clear hp hz hf
  obtain ⟨G, eG⟩ : ∃ G, greatB p.d = G := ⟨_, rfl⟩
  obtain ⟨V, eV⟩ : ∃ V, progR p.d = V := ⟨_, rfl⟩
  rw [eG] at C19
  rw [eV] at C20
  have EV := hidIt eV
  clear eG eV
  go_enter Tryz.func8, Tryz.ntmps8
  go_upto_region 1 with fail
  generalize w.alloc (.cells #[.slice p.sa p.structs.length p.sc, .slice p.ea p.enums.length p.ec, .slice p.fa p.funcs.length p.fc] 36) = W0 at M ⊢
  obtain ⟨c0, c1, c2⟩ := M.out.cells
  cases G with
  | true =>
    as_aux_lemma =>
    go_wp2_with (first
      | (go_at_call 9; refine (C9.out _).mono ?_; rintro e y ⟨rfl, hq⟩; have M := hidIt (M.out.on hq); clear hq c0 c1 c2; obtain ⟨c0, c1, c2⟩ := M.out.cells)
      | (go_at_call 19; refine (C19.out _ M.out.bel).mono ?_; rintro e y ⟨rfl, hq⟩; have M := hidIt (M.out.on hq); clear hq c0 c1 c2; obtain ⟨c0, c1, c2⟩ := M.out.cells))
    go_ret
    exact ⟨rfl, M.out.bel⟩
  | false =>
    cases V with
    | false =>
      as_aux_lemma =>
      go_wp2_with (first
        | (go_at_call 9; refine (C9.out _).mono ?_; rintro e y ⟨rfl, hq⟩; have M := hidIt (M.out.on hq); clear hq c0 c1 c2; obtain ⟨c0, c1, c2⟩ := M.out.cells)
        | (go_at_call 19; refine (C19.out _ M.out.bel).mono ?_; rintro e y ⟨rfl, hq⟩; have M := hidIt (M.out.on hq); clear hq c0 c1 c2; obtain ⟨c0, c1, c2⟩ := M.out.cells)
        | (go_at_call 20; refine (C20.out _ M.out.bel).mono ?_; rintro e y ⟨rfl, hq⟩; have M := hidIt (M.out.on hq); clear hq c0 c1 c2; obtain ⟨c0, c1, c2⟩ := M.out.cells))
      go_ret
      exact ⟨rfl, M.out.bel⟩
    | true =>
      go_upto_region 5 with (first
        | (go_at_call 9; refine (C9.out _).mono ?_; rintro e y ⟨rfl, hq⟩; have M := hidIt (M.out.on hq); clear hq c0 c1 c2; obtain ⟨c0, c1, c2⟩ := M.out.cells)
        | (go_at_call 19; refine (C19.out _ M.out.bel).mono ?_; rintro e y ⟨rfl, hq⟩; have M := hidIt (M.out.on hq); clear hq c0 c1 c2; obtain ⟨c0, c1, c2⟩ := M.out.cells)
        | (go_at_call 20; refine (C20.out _ M.out.bel).mono ?_; rintro e y ⟨rfl, hq⟩; have M := hidIt (M.out.on hq); clear hq c0 c1 c2; obtain ⟨c0, c1, c2⟩ := M.out.cells))
      clear C9 C19 C20 c0 c1 c2
      go_upto_region 6 with fail
      rw [EN.out]
      clear EN ht
      go_upto_region 8 with fail
      simp only [Nat.add_assoc, Nat.reduceAdd]
      have hW : ((((y.alloc (.cells #[.int .i64 0, .string ⟨#[97]⟩, .bool false, .bool false, .slice none 0 0] 58)).alloc (.cells #[.string ⟨#[98]⟩] 9)).alloc (.cells #[.int .i64 0, .string ⟨#[98]⟩, .slice none 0 0, .int .i64 0, .int .i64 1, .string ⟨#[]⟩, .slice none 0 0, .string ⟨#[]⟩, .slice none 0 0, .slice (some ⟨y.heap.size + 1, 0, none⟩) 1 1, .slice none 0 0] 64)).alloc (.cells #[.int .i64 0, .string ⟨#[102]⟩, .slice none 0 0, .slice none 0 0, .string ⟨#[105, 110, 116]⟩, .slice (some ⟨y.heap.size + 2, 0, none⟩) 1 1] 45)) = allocs y (ctO y.heap.size) := rfl
      rw [hW]
      clear hW
      have HB : Hid (w.heap.size + 1 ≤ y.heap.size) := hidIt (lt_of_block M.out.box)
      have M := hidIt (M.out.on (allocs_below (ctO y.heap.size) y))
      have A0 := hidIt (allocs_at (ctO y.heap.size) y 0 _ rfl)
      have A1 := hidIt (allocs_at (ctO y.heap.size) y 1 _ rfl)
      have A2 := hidIt (allocs_at (ctO y.heap.size) y 2 _ rfl)
      have A3 := hidIt (allocs_at (ctO y.heap.size) y 3 _ rfl)
      have SL : Hid ((allocs y (ctO y.heap.size)).heap.size = y.heap.size + 4) := hidIt (allocs_size _ _)
      rw [Nat.add_zero] at A0
      generalize allocs y (ctO y.heap.size) = wl at M A0 A1 A2 A3 SL ⊢
      generalize y.heap.size = b at HB A0 A1 A2 A3 SL ⊢
      have BEL0 := hidIt M.out.bel
      obtain ⟨c0, c1, c2⟩ := M.out.cells
      go_upto_region 9 with (go_at_call 24; refine (C24.out _ M.out.bel).mono ?_; rintro e wx ⟨X, rfl, dX, aX, kX, hq⟩)
      clear c0 c1 c2
      have DX := hidIt dX
      have LX := hidIt hq
      have AX := hidIt aX
      have KX := hidIt kX
      have XX := hidIt (below_new wx (.cells #[.slice X.sa X.structs.length X.sc, .slice X.ea X.enums.length X.ec, .slice X.fa X.funcs.length X.fc] 36))
      have XB := hidIt (heap_alloc_new wx (.cells #[.slice X.sa X.structs.length X.sc, .slice X.ea X.enums.length X.ec, .slice X.fa X.funcs.length X.fc] 36))
      have XS : Hid ((wx.alloc (.cells #[.slice X.sa X.structs.length X.sc, .slice X.ea X.enums.length X.ec, .slice X.fa X.funcs.length X.fc] 36)).heap.size = wx.heap.size + 1) := hidIt (World.size_alloc _ _)
      clear dX hq aX kX
      generalize wx.alloc (.cells #[.slice X.sa X.structs.length X.sc, .slice X.ea X.enums.length X.ec, .slice X.fa X.funcs.length X.fc] 36) = wX at XX XB XS ⊢
      have M := hidIt (M.out.on (below_next LX.out XX.out))
      obtain ⟨c0, c1, c2⟩ := M.out.cells
      go_upto_region 10 with (go_at_call 24; refine (C24.out _ M.out.bel).mono ?_; rintro e wy ⟨Y, rfl, dY, aY, kY, hq⟩)
      clear c0 c1 c2 C24
      have DY := hidIt dY
      have XY := hidIt hq
      have AY := hidIt aY
      have KY := hidIt kY
      have YY := hidIt (below_new wy (.cells #[.slice Y.sa Y.structs.length Y.sc, .slice Y.ea Y.enums.length Y.ec, .slice Y.fa Y.funcs.length Y.fc] 36))
      have YB := hidIt (heap_alloc_new wy (.cells #[.slice Y.sa Y.structs.length Y.sc, .slice Y.ea Y.enums.length Y.ec, .slice Y.fa Y.funcs.length Y.fc] 36))
      have YS : Hid ((wy.alloc (.cells #[.slice Y.sa Y.structs.length Y.sc, .slice Y.ea Y.enums.length Y.ec, .slice Y.fa Y.funcs.length Y.fc] 36)).heap.size = wy.heap.size + 1) := hidIt (World.size_alloc _ _)
      clear dY hq aY kY
      generalize wy.alloc (.cells #[.slice Y.sa Y.structs.length Y.sc, .slice Y.ea Y.enums.length Y.ec, .slice Y.fa Y.funcs.length Y.fc] 36) = wY at YY YB YS ⊢
      obtain ⟨c0, c1, c2, c3, c4, c5⟩ := cells_6 (heap_on A3.out (below_next (below_next LX.out XX.out) (below_next XY.out YY.out)))
      go_upto_region 11 with fail
      clear c0 c1 c2 c3 c4 c5
      have YZ := hidIt (below_new wY (.cells #[.int .i64 0, .string ⟨#[102]⟩, .slice none 0 0, .slice none 0 0, .string ⟨#[105, 110, 116]⟩, .slice (some ⟨b + 2, 0, none⟩) 1 1] 45))
      have ZB := hidIt (heap_alloc_new wY (.cells #[.int .i64 0, .string ⟨#[102]⟩, .slice none 0 0, .slice none 0 0, .string ⟨#[105, 110, 116]⟩, .slice (some ⟨b + 2, 0, none⟩) 1 1] 45))
      have ZS : Hid ((wY.alloc (.cells #[.int .i64 0, .string ⟨#[102]⟩, .slice none 0 0, .slice none 0 0, .string ⟨#[105, 110, 116]⟩, .slice (some ⟨b + 2, 0, none⟩) 1 1] 45)).heap.size = wY.heap.size + 1) := hidIt (World.size_alloc _ _)
      generalize wY.alloc (.cells #[.int .i64 0, .string ⟨#[102]⟩, .slice none 0 0, .slice none 0 0, .string ⟨#[105, 110, 116]⟩, .slice (some ⟨b + 2, 0, none⟩) 1 1] 45) = wz at YZ ZB ZS ⊢
      have CTH : Hid (CT wl wx wX wy wY wz X Y (b + 1) (b + 2)) := hidIt ⟨LX.out, AX.out, KX.out, XX.out, XS.out, XB.out, XY.out, AY.out, KY.out, YY.out, YS.out, YB.out, YZ.out, ZS.out, ZB.out, A1.out, A2.out⟩
      clear LX AX KX XX XS XB XY AY KY YY YS YB YZ ZS ZB M
      have I58 := hidIt info58
      have I45 := hidIt info45
      have I64 := hidIt info64
      have GD := hidIt CTH.out.good
      have L0 := hidIt CTH.out.begins
      have PX : Hid (X.structs.length ≤ 16) := hidIt (by have := right_lens EV.out; have h := congrArg (fun d => d.structs.length) DX.out; simp only [ProgX.d, List.length_map] at h; simp only [ProgX.d, List.length_map] at this; omega)
      have PY : Hid (Y.funcs.length ≤ 16) := hidIt (by have := right_lens EV.out; have h := congrArg (fun d => d.funcs.length) DY.out; simp only [ProgX.d, List.length_map] at h; simp only [ProgX.d, List.length_map] at this; omega)
      go_wp2
      go_loopg [11] n (fun g s11 wr => ∃ k : Nat, k ≤ n ∧ n - k ≤ g ∧ s11 = .int .i64 k ∧ ∃ vX vY vG, Hid (LS (ctC wx wy wY wz X Y (b + 1) (b + 2)) k k k vX vY vG wr))
      case atStart => exact ⟨0, Nat.zero_le _, by omega, rfl, _, _, _, L0⟩
      case round =>
        clear L0
        obtain ⟨k, hk, hg, rfl, vX, vY, vG, R⟩ := hrel
        by_cases hlt : k < n
        · obtain ⟨i0, hi, hz0, hz1, hz2⟩ := I58.out
          have hlow := hidIt (CTH.out.low R.out)
          have HI := hidIt hi
          have HZ := hidIt hz2
          clear hi
          obtain ⟨s0, s1, s2, s3, s4⟩ := cells_5 (heap_on A0.out hlow.out)
          obtain ⟨x0, x1, x2⟩ := cells_3 R.out.hX
          have x0 : wr.cell? ⟨wx.heap.size, 0, none⟩ = some vX := x0
          clear hz2 x1 x2
          go_upto_region 15 with (at_builtin; go_must (refine wpList_append_lies _ rfl (.tmp 42) (.tmp 44) 32 rfl 0 58 i0 _ 5 i0.bytes Tryz.underlying32 HI.out hz0 hz1 rfl rfl (by decide) vX (X.structs.length + k) _ (by rfl) (R.out.oX.alloc _) ⟨wr.heap.size, 0, none⟩ 1 1 sX.row (by rfl) rfl (World.news_of_block (heap_alloc_new wr _)) (by decide) (by decide) (by unfold maxLen; have := PX.out; omega) (by have h1 := PX.out; have h2 := HZ.out; have h3 : (X.structs.length + k + 1) * i0.bytes ≤ 100 * 1000 := Nat.mul_le_mul (by omega) h2; omega) (Nat.zero_le _) _ rfl ?_); intro g1 cap1 w2 ho hgr hl hlt2; have y0 : w2.cell? ⟨wx.heap.size, 0, none⟩ = some vX := (cells_3 (R.out.midX hgr)).1; have z0 : w2.frozen? ⟨wx.heap.size, 0, none⟩ = false := frozen_at (R.out.midX hgr) 0; have R : Hid (LS (ctC wx wy wY wz X Y (b + 1) (b + 2)) (k + 1) k k (.slice (some ⟨g1, 0, none⟩) (X.structs.length + k + 1) cap1) vY vG (w2.setCell ⟨wx.heap.size, 0, none⟩ (.slice (some ⟨g1, 0, none⟩) (X.structs.length + k + 1) cap1))) := hidIt (LS.endX GD.out R.out ho hgr hl); clear ho hgr hl hlt2)
          clear s0 s1 s2 s3 s4 x0 y0 z0 hz0 hz1 HI HZ
          generalize Value.slice (some ⟨g1, 0, none⟩) (X.structs.length + k + 1) cap1 = vX at R ⊢
          obtain ⟨i1, hi, hz0, hz1, hz2⟩ := I45.out
          have HI := hidIt hi
          have HZ := hidIt hz2
          clear hi hz2 hlow
          generalize w2.setCell ⟨wx.heap.size, 0, none⟩ vX = wa at R ⊢
          have hlow := hidIt (CTH.out.low R.out)
          obtain ⟨s0, s1, s2, s3, s4, s5⟩ := cells_6 (heap_on A3.out hlow.out)
          obtain ⟨x0, x1, x2⟩ := cells_3 R.out.hY
          have x2 : wa.cell? ⟨wy.heap.size, 2, none⟩ = some vY := x2
          clear x0 x1
          go_upto_region 16 with (at_builtin; go_must (refine wpList_append_lies _ rfl (.tmp 48) (.tmp 50) 34 rfl 0 45 i1 _ 6 i1.bytes Tryz.underlying34 HI.out hz0 hz1 rfl rfl (by decide) vY (Y.funcs.length + k) _ (by rfl) (R.out.oY.alloc _) ⟨wa.heap.size, 0, none⟩ 1 1 (fX (b + 1) (b + 2)).row (by rfl) rfl (World.news_of_block (heap_alloc_new wa _)) (by intro u hu; simp [fX, FuncX.row] at hu; rcases hu with rfl | rfl | rfl | rfl | rfl | rfl <;> rfl) (by decide) (by unfold maxLen; have := PY.out; omega) (by have h1 := PY.out; have h2 := HZ.out; have h3 : (Y.funcs.length + k + 1) * i1.bytes ≤ 100 * 1000 := Nat.mul_le_mul (by omega) h2; omega) (Nat.zero_le _) _ rfl ?_); intro g2 cap2 w3 ho hgr hl hlt2; have y0 : w3.cell? ⟨wy.heap.size, 2, none⟩ = some vY := (cells_3 (R.out.midY GD.out hgr)).2.2; have z0 : w3.frozen? ⟨wy.heap.size, 2, none⟩ = false := frozen_at (R.out.midY GD.out hgr) 2; have R : Hid (LS (ctC wx wy wY wz X Y (b + 1) (b + 2)) (k + 1) (k + 1) k vX (.slice (some ⟨g2, 0, none⟩) (Y.funcs.length + k + 1) cap2) vG (w3.setCell ⟨wy.heap.size, 2, none⟩ (.slice (some ⟨g2, 0, none⟩) (Y.funcs.length + k + 1) cap2))) := hidIt (LS.endY GD.out R.out ho hgr hl); clear ho hgr hl hlt2)
          clear s0 s1 s2 s3 s4 s5 x2 y0 z0 hz0 hz1 HI HZ hlow
          generalize Value.slice (some ⟨g2, 0, none⟩) (Y.funcs.length + k + 1) cap2 = vY at R ⊢
          generalize w3.setCell ⟨wy.heap.size, 2, none⟩ vY = wb at R ⊢
          have hlow := hidIt (CTH.out.low R.out)
          obtain ⟨s0, s1, s2, s3, s4, s5⟩ := cells_6 (heap_on A3.out hlow.out)
          obtain ⟨q0, q1, q2, q3, q4, q5, q6, q7, q8, q9, q10⟩ := cells_11 (heap_on A2.out hlow.out)
          obtain ⟨x0, x1, x2, x3, x4, x5⟩ := cells_6 R.out.hG
          have x5 : wb.cell? ⟨wY.heap.size, 5, none⟩ = some vG := x5
          clear s0 s1 s2 s3 s4 x0 x1 x2 x3 x4
          have RB := R
          have R := hidIt R.out.drew
          obtain ⟨i2, z2, hi, hz0, hz1, hz2, hz3⟩ := I64.out
          obtain ⟨g3, cap3, we, hr, hG2, R3⟩ := append_G (t := 43) (ty := 43) Tryz.underlying43 hi hz0 hz2 rfl hz1 GD.out R.out (by omega) hz3
          have R : Hid (LS (ctC wx wy wY wz X Y (b + 1) (b + 2)) (k + 1) (k + 1) (k + 1) vX vY (.slice (some ⟨g3, 0, none⟩) (1 + k + 1) cap3) (we.setCell ⟨wY.heap.size, 5, none⟩ (.slice (some ⟨g3, 0, none⟩) (1 + k + 1) cap3))) := hidIt R3
          have y0 : we.cell? ⟨wY.heap.size, 5, none⟩ = some vG := (cells_6 hG2).2.2.2.2.2
          have z0 : we.frozen? ⟨wY.heap.size, 5, none⟩ = false := frozen_at hG2 5
          have HR : Hid ((Builtin.append_ #[43, 43] 43 #[vG, .slice (some ⟨wb.heap.size, 0, none⟩) 1 1]).run Tryz.prog (wb.drew.alloc (.cells #[.int .i64 0, .string ⟨#[98]⟩, .slice none 0 0, .int .i64 0, .int .i64 1, .string ⟨#[]⟩, .slice none 0 0, .string ⟨#[]⟩, .slice none 0 0, .slice (some ⟨b + 1, 0, none⟩) 1 1, .slice none 0 0] 64)) = .ok (.slice (some ⟨g3, 0, none⟩) (1 + k + 1) cap3) we) := hidIt hr
          clear R3 hG2 hi hz0 hz1 hz2 hz3 hlow hr
          have x6 : (wb.alloc (.cells #[.int .i64 0, .string ⟨#[98]⟩, .slice none 0 0, .int .i64 0, .int .i64 1, .string ⟨#[]⟩, .slice none 0 0, .string ⟨#[]⟩, .slice none 0 0, .slice (some ⟨b + 1, 0, none⟩) 1 1, .slice none 0 0] 64)).cell? ⟨wY.heap.size, 5, none⟩ = some vG := (World.cell?_of_block (alloc_old RB.out.hG |>.trans RB.out.hG.symm)).trans x5
          go_region_law (refine step_append_run rfl (.tmp 54) (.tmp 59) 43 rfl _ _ (by rfl) (by rfl) _ _ HR.out ?_)
          all_goals clear HR RB y0 z0 s5 x5 x6 q0 q1 q2 q3 q4 q5 q6 q7 q8 q9 q10
          all_goals generalize Value.slice (some ⟨g3, 0, none⟩) (1 + k + 1) cap3 = vG at R ⊢
          all_goals generalize we.setCell ⟨wY.heap.size, 5, none⟩ vG = wf at R ⊢
          all_goals
            go_wp2
            go_roundg (n - (k + 1))
            case measure => omega
            case rel => exact ⟨k + 1, by omega, by omega, by go_num, _, _, _, R⟩
        · obtain rfl : k = n := by omega
          clear I58 I45 I64
          obtain ⟨xa, xc, ya, yc, ga, gc, rfl, rfl, rfl, aX, aY, aG⟩ := CTH.out.ends hn PX.out PY.out R.out
          have RX : Hid (∀ W, Below wr.heap.size wr W → Calls Tryz.prog 20 #[.agg #[.slice xa (X.structs.length + k) xc, .slice X.ea X.enums.length X.ec, .slice X.fa X.funcs.length X.fc]] W fun e w' => e = .returned (.bool (decide (((X.structs.length + k : Nat) : Int) ≤ 16))) ∧ Below W.heap.size W w') := hidIt fun W hW => right_x DX.out HF.out EV.out k xa xc W (aX.on hW)
          have RY : Hid (∀ W, Below wr.heap.size wr W → Calls Tryz.prog 20 #[.agg #[.slice Y.sa Y.structs.length Y.sc, .slice Y.ea Y.enums.length Y.ec, .slice ya (Y.funcs.length + k) yc]] W fun e w' => e = .returned (.bool (decide (((Y.funcs.length + k : Nat) : Int) ≤ 16))) ∧ Below W.heap.size W w') := hidIt fun W hW => right_y DY.out HF.out EV.out k (b + 1) (b + 2) ya yc W (aY.on hW)
          have HG := hidIt (heap_alloc_new wr (.cells #[.int .i64 0, .string ⟨#[102]⟩, .slice none 0 0, .slice none 0 0, .string ⟨#[105, 110, 116]⟩, .slice ga (1 + k) gc] 45))
          have HZ := hidIt (heap_alloc_new (wr.alloc (.cells #[.int .i64 0, .string ⟨#[102]⟩, .slice none 0 0, .slice none 0 0, .string ⟨#[105, 110, 116]⟩, .slice ga (1 + k) gc] 45)) (.cells #[.slice none 0 0, .slice none 0 0, .slice (some ⟨wr.heap.size, 0, none⟩) 1 1] 36))
          rw [World.size_alloc] at HZ
          have BG := hidIt (below_new wr (.cells #[.int .i64 0, .string ⟨#[102]⟩, .slice none 0 0, .slice none 0 0, .string ⟨#[105, 110, 116]⟩, .slice ga (1 + k) gc] 45))
          have BZ := hidIt (below_next BG.out (below_new (wr.alloc (.cells #[.int .i64 0, .string ⟨#[102]⟩, .slice none 0 0, .slice none 0 0, .string ⟨#[105, 110, 116]⟩, .slice ga (1 + k) gc] 45)) (.cells #[.slice none 0 0, .slice none 0 0, .slice (some ⟨wr.heap.size, 0, none⟩) 1 1] 36)))
          have HG2 := hidIt (heap_on HG.out (below_new (wr.alloc (.cells #[.int .i64 0, .string ⟨#[102]⟩, .slice none 0 0, .slice none 0 0, .string ⟨#[105, 110, 116]⟩, .slice ga (1 + k) gc] 45)) (.cells #[.slice none 0 0, .slice none 0 0, .slice (some ⟨wr.heap.size, 0, none⟩) 1 1] 36)))
          have HX := hidIt (heap_on R.out.hX BZ.out)
          have HY := hidIt (heap_on R.out.hY BZ.out)
          have BEL := hidIt (below_next (below_next BEL0.out (CTH.out.low R.out)) BZ.out)
          have AG := hidIt (FuncX.At.on aG BZ.out)
          clear aX aY aG
          obtain ⟨x0, x1, x2, x3, x4, x5⟩ := cells_6 R.out.hG
          have x0 : wr.cell? ⟨wY.heap.size, 0, none⟩ = some (.int .i64 0) := x0
          have x1 : wr.cell? ⟨wY.heap.size, 1, none⟩ = some (.string ⟨#[102]⟩) := x1
          have x2 : wr.cell? ⟨wY.heap.size, 2, none⟩ = some (.slice none 0 0) := x2
          have x3 : wr.cell? ⟨wY.heap.size, 3, none⟩ = some (.slice none 0 0) := x3
          have x4 : wr.cell? ⟨wY.heap.size, 4, none⟩ = some (.string ⟨#[105, 110, 116]⟩) := x4
          have x5 : wr.cell? ⟨wY.heap.size, 5, none⟩ = some (.slice ga (1 + k) gc) := x5
          go_upto_region 18 with fail
          clear x0 x1 x2 x3 x4 x5 R
          generalize (wr.alloc (.cells #[.int .i64 0, .string ⟨#[102]⟩, .slice none 0 0, .slice none 0 0, .string ⟨#[105, 110, 116]⟩, .slice ga (1 + k) gc] 45)).alloc (.cells #[.slice none 0 0, .slice none 0 0, .slice (some ⟨wr.heap.size, 0, none⟩) 1 1] 36) = wv at HZ BZ HG2 HX HY BEL AG ⊢
          have RZ : Hid (∀ W, Below wv.heap.size wv W → Calls Tryz.prog 20 #[.agg #[.slice none 0 0, .slice none 0 0, .slice (some ⟨wr.heap.size, 0, none⟩) 1 1]] W fun e w' => e = .returned (.bool (decide ((k : Int) < 64))) ∧ Below W.heap.size W w') := hidIt fun W hW => right_z k (b + 1) wr.heap.size ga gc W (FuncX.At.on AG.out hW) (heap_on HG2.out hW)
          have HS : Hid (∀ W, Below wv.heap.size wv W → W.cell? ⟨wx.heap.size, 0, none⟩ = some (.slice xa (X.structs.length + k) xc) ∧ W.cell? ⟨wx.heap.size, 1, none⟩ = some (.slice X.ea X.enums.length X.ec) ∧ W.cell? ⟨wx.heap.size, 2, none⟩ = some (.slice X.fa X.funcs.length X.fc) ∧ W.cell? ⟨wy.heap.size, 0, none⟩ = some (.slice Y.sa Y.structs.length Y.sc) ∧ W.cell? ⟨wy.heap.size, 1, none⟩ = some (.slice Y.ea Y.enums.length Y.ec) ∧ W.cell? ⟨wy.heap.size, 2, none⟩ = some (.slice ya (Y.funcs.length + k) yc) ∧ W.cell? ⟨wr.heap.size + 1, 0, none⟩ = some (.slice none 0 0) ∧ W.cell? ⟨wr.heap.size + 1, 1, none⟩ = some (.slice none 0 0) ∧ W.cell? ⟨wr.heap.size + 1, 2, none⟩ = some (.slice (some ⟨wr.heap.size, 0, none⟩) 1 1)) := hidIt fun W hW => by
            obtain ⟨a0, a1, a2⟩ := cells_3 (heap_on HX.out hW)
            obtain ⟨b0, b1, b2⟩ := cells_3 (heap_on HY.out hW)
            obtain ⟨d0, d1, d2⟩ := cells_3 (heap_on HZ.out hW)
            exact ⟨a0, a1, a2, b0, b1, b2, d0, d1, d2⟩
          obtain ⟨NX, eX⟩ : ∃ NX, X.structs.length + k = NX := ⟨_, rfl⟩
          obtain ⟨NY, eY⟩ : ∃ NY, Y.funcs.length + k = NY := ⟨_, rfl⟩
          rw [eX, eY] at HS
          rw [eX] at RX
          rw [eY] at RY
          clear eX eY
          have sw : wv.cell? ⟨wx.heap.size, 0, none⟩ = some (.slice xa NX xc) ∧ wv.cell? ⟨wx.heap.size, 1, none⟩ = some (.slice X.ea X.enums.length X.ec) ∧ wv.cell? ⟨wx.heap.size, 2, none⟩ = some (.slice X.fa X.funcs.length X.fc) ∧ wv.cell? ⟨wy.heap.size, 0, none⟩ = some (.slice Y.sa Y.structs.length Y.sc) ∧ wv.cell? ⟨wy.heap.size, 1, none⟩ = some (.slice Y.ea Y.enums.length Y.ec) ∧ wv.cell? ⟨wy.heap.size, 2, none⟩ = some (.slice ya NY yc) ∧ wv.cell? ⟨wr.heap.size + 1, 0, none⟩ = some (.slice none 0 0) ∧ wv.cell? ⟨wr.heap.size + 1, 1, none⟩ = some (.slice none 0 0) ∧ wv.cell? ⟨wr.heap.size + 1, 2, none⟩ = some (.slice (some ⟨wr.heap.size, 0, none⟩) 1 1) := HS.out wv (Below.refl _ _)
          obtain ⟨A, hA⟩ : ∃ A, decide ((NX : Int) ≤ 16) = A := ⟨_, rfl⟩
          obtain ⟨B, hB⟩ : ∃ B, decide ((NY : Int) ≤ 16) = B := ⟨_, rfl⟩
          obtain ⟨D, hD⟩ : ∃ D, decide ((k : Int) < 64) = D := ⟨_, rfl⟩
          rw [hA] at RX
          rw [hB] at RY
          rw [hD] at RZ
          have BD := hidIt (Below.refl wv.heap.size wv).drew
          have T1 : Hid True := hidIt trivial
          have T2 : Hid True := hidIt trivial
          clear HX HY HZ HG HG2 AG BG
          cases A <;> cases B <;> cases D
          all_goals
            as_aux_lemma =>
            go_region_held3 (fun W => W.cell? ⟨wx.heap.size, 0, none⟩ = some (.slice xa NX xc) ∧ W.cell? ⟨wx.heap.size, 1, none⟩ = some (.slice X.ea X.enums.length X.ec) ∧ W.cell? ⟨wx.heap.size, 2, none⟩ = some (.slice X.fa X.funcs.length X.fc) ∧ W.cell? ⟨wy.heap.size, 0, none⟩ = some (.slice Y.sa Y.structs.length Y.sc) ∧ W.cell? ⟨wy.heap.size, 1, none⟩ = some (.slice Y.ea Y.enums.length Y.ec) ∧ W.cell? ⟨wy.heap.size, 2, none⟩ = some (.slice ya NY yc) ∧ W.cell? ⟨wr.heap.size + 1, 0, none⟩ = some (.slice none 0 0) ∧ W.cell? ⟨wr.heap.size + 1, 1, none⟩ = some (.slice none 0 0) ∧ W.cell? ⟨wr.heap.size + 1, 2, none⟩ = some (.slice (some ⟨wr.heap.size, 0, none⟩) 1 1)) (go_keep)
              (first
              | (go_at_call 20; have tk := T1; clear tk T1; refine (RX.out _ (below_next BZ.out BD.out)).mono ?_; rintro e y ⟨rfl, hq⟩; have BD := hidIt (below_next BD.out hq); have sS : y.cell? ⟨wx.heap.size, 0, none⟩ = some (.slice xa NX xc) ∧ y.cell? ⟨wx.heap.size, 1, none⟩ = some (.slice X.ea X.enums.length X.ec) ∧ y.cell? ⟨wx.heap.size, 2, none⟩ = some (.slice X.fa X.funcs.length X.fc) ∧ y.cell? ⟨wy.heap.size, 0, none⟩ = some (.slice Y.sa Y.structs.length Y.sc) ∧ y.cell? ⟨wy.heap.size, 1, none⟩ = some (.slice Y.ea Y.enums.length Y.ec) ∧ y.cell? ⟨wy.heap.size, 2, none⟩ = some (.slice ya NY yc) ∧ y.cell? ⟨wr.heap.size + 1, 0, none⟩ = some (.slice none 0 0) ∧ y.cell? ⟨wr.heap.size + 1, 1, none⟩ = some (.slice none 0 0) ∧ y.cell? ⟨wr.heap.size + 1, 2, none⟩ = some (.slice (some ⟨wr.heap.size, 0, none⟩) 1 1) := HS.out y BD.out; clear hq)
              | (go_at_call 20; have tk := T2; clear tk T2; refine (RY.out _ (below_next BZ.out BD.out)).mono ?_; rintro e y ⟨rfl, hq⟩; have BD := hidIt (below_next BD.out hq); have sS : y.cell? ⟨wx.heap.size, 0, none⟩ = some (.slice xa NX xc) ∧ y.cell? ⟨wx.heap.size, 1, none⟩ = some (.slice X.ea X.enums.length X.ec) ∧ y.cell? ⟨wx.heap.size, 2, none⟩ = some (.slice X.fa X.funcs.length X.fc) ∧ y.cell? ⟨wy.heap.size, 0, none⟩ = some (.slice Y.sa Y.structs.length Y.sc) ∧ y.cell? ⟨wy.heap.size, 1, none⟩ = some (.slice Y.ea Y.enums.length Y.ec) ∧ y.cell? ⟨wy.heap.size, 2, none⟩ = some (.slice ya NY yc) ∧ y.cell? ⟨wr.heap.size + 1, 0, none⟩ = some (.slice none 0 0) ∧ y.cell? ⟨wr.heap.size + 1, 1, none⟩ = some (.slice none 0 0) ∧ y.cell? ⟨wr.heap.size + 1, 2, none⟩ = some (.slice (some ⟨wr.heap.size, 0, none⟩) 1 1) := HS.out y BD.out; clear hq)
              | (go_at_call 20; refine (RZ.out _ BD.out).mono ?_; rintro e y ⟨rfl, hq⟩; have BD := hidIt (below_next BD.out hq); have sS : y.cell? ⟨wx.heap.size, 0, none⟩ = some (.slice xa NX xc) ∧ y.cell? ⟨wx.heap.size, 1, none⟩ = some (.slice X.ea X.enums.length X.ec) ∧ y.cell? ⟨wx.heap.size, 2, none⟩ = some (.slice X.fa X.funcs.length X.fc) ∧ y.cell? ⟨wy.heap.size, 0, none⟩ = some (.slice Y.sa Y.structs.length Y.sc) ∧ y.cell? ⟨wy.heap.size, 1, none⟩ = some (.slice Y.ea Y.enums.length Y.ec) ∧ y.cell? ⟨wy.heap.size, 2, none⟩ = some (.slice ya NY yc) ∧ y.cell? ⟨wr.heap.size + 1, 0, none⟩ = some (.slice none 0 0) ∧ y.cell? ⟨wr.heap.size + 1, 1, none⟩ = some (.slice none 0 0) ∧ y.cell? ⟨wr.heap.size + 1, 2, none⟩ = some (.slice (some ⟨wr.heap.size, 0, none⟩) 1 1) := HS.out y BD.out; clear hq))
            go_wp2
            go_ret
            exact ⟨rfl, below_next BEL.out BD.out⟩
end Go.Proofs.YtlppbgmcoknliaaGreatDoor
