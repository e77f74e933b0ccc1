/-
  TreeCounts: a step of each slice.
-/
import Derived.Test.YtlppbgmcoknliaaGreatDoorCtb
namespace Go.Proofs.YtlppbgmcoknliaaGreatDoor
set_option linter.unusedVariables false
open Go.RowKit

theorem own_zero {w : World} {B : Nat} {e : TypeId} {size : Nat} {v : Value} {n : Nat} {xs : List Value} (h : w.ownsRow B e size v n xs) : w.ownsRow 0 e size v n xs := by
  refine ⟨h.1, ?_⟩
  rcases h.2 with h | ⟨g, cap, cur, hv, _, r⟩
  · exact .inl h
  · exact .inr ⟨g, cap, cur, hv, Nat.zero_le _, r⟩
theorem setCell_size (w : World) (a : Addr) (v : Value) : (w.setCell a v).heap.size = w.heap.size := by unfold World.setCell; split <;> simp
theorem setCell_env (w : World) (a : Addr) (v : Value) : (w.setCell a v).os = w.os ∧ (w.setCell a v).tape = w.tape ∧ (w.setCell a v).output = w.output := by unfold World.setCell; split <;> exact ⟨rfl, rfl, rfl⟩
theorem alloc_old {w : World} {o p : Obj} {b : Nat} (h : w.heap[b]? = some p) : (w.alloc o).heap[b]? = some p := heap_on h (below_new w o)
theorem grown_set {W w2 : World} {o : Obj} {v u : Value} {B j : Nat} (hgr : (W.alloc o).grownBy w2 v.ownBlock) : W.heap.size ≤ (w2.setCell ⟨B, j, none⟩ u).heap.size ∧ ((w2.setCell ⟨B, j, none⟩ u).os = W.os ∧ (w2.setCell ⟨B, j, none⟩ u).tape = W.tape ∧ (w2.setCell ⟨B, j, none⟩ u).output = W.output) ∧ ∀ b, b < W.heap.size → b ≠ B → some b ≠ v.ownBlock → (w2.setCell ⟨B, j, none⟩ u).heap[b]? = W.heap[b]? := by
  have hz : (W.alloc o).heap.size = W.heap.size + 1 := World.size_alloc _ _
  refine ⟨by rw [setCell_size]; have := hgr.size; omega, ?_, fun b h1 h2 h3 => ?_⟩
  · obtain ⟨a, b, c⟩ := setCell_env w2 ⟨B, j, none⟩ u
    exact ⟨a.trans hgr.os, b.trans hgr.tape, c.trans hgr.output⟩
  · rw [heap_setCell_other w2 ⟨B, j, none⟩ b u h2, hgr.block b (by omega) h3]
    exact (below_new W o).block b h1
theorem own_set {w2 : World} {ty : TypeId} {k g n cap B j : Nat} {u v : Value} {xs : List Value} (ho : w2.ownsRow 0 ty k v n xs) (hb : ∀ g, v.ownBlock = some g → g ≠ B) : (w2.setCell ⟨B, j, none⟩ u).ownsRow 0 ty k v n xs := own_keep ho fun g hg => heap_setCell_other w2 ⟨B, j, none⟩ g u (hb g hg)
theorem flat_snoc {α : Type} {x : α} {f : α → List Value} {xs : List α} {k : Nat} : ((xs ++ List.replicate k x).map f).flatten ++ f x = ((xs ++ List.replicate (k + 1) x).map f).flatten := by
  rw [List.replicate_succ', ← List.append_assoc, List.map_append, List.flatten_append]
  simp

section
variable {C : LC} (hC : C.Good ∧ (C.b43 ≠ C.lX ∧ C.b43 ≠ C.lY ∧ C.b43 ≠ C.lG)) {kx ky kg : Nat} {vX vY vG : Value} {W w2 : World} {o : Obj} {g cap : Nat} (h : LS C kx ky kg vX vY vG W)
theorem LS.midX (h : LS C kx ky kg vX vY vG W) (hgr : (W.alloc o).grownBy w2 vX.ownBlock) : w2.heap[C.lX]? = some (.cells #[vX, C.ve1, C.vf1] 36 (0, 0)) :=
  (hgr.block _ (lt_of_block (alloc_old h.hX)) (own_ne h.oX h.hX (by decide))).trans (alloc_old h.hX)
theorem LS.midY (hC : C.Good ∧ (C.b43 ≠ C.lX ∧ C.b43 ≠ C.lY ∧ C.b43 ≠ C.lG)) (h : LS C kx ky kg vX vY vG W) (hgr : (W.alloc o).grownBy w2 vY.ownBlock) : w2.heap[C.lY]? = some (.cells #[C.vs2, C.ve2, vY] 36 (0, 0)) :=
  (hgr.block _ (lt_of_block (alloc_old h.hY)) (own_ne h.oY h.hY (by decide))).trans (alloc_old h.hY)
theorem LS.endX (hC : C.Good ∧ (C.b43 ≠ C.lX ∧ C.b43 ≠ C.lY ∧ C.b43 ≠ C.lG)) (h : LS C kx ky kg vX vY vG W)
    (ho : w2.ownsRow 0 58 5 (.slice (some ⟨g, 0, none⟩) (C.xs.length + kx + 1) cap) (C.xs.length + kx + 1) (((C.xs ++ List.replicate kx sX).map StructX.row).flatten ++ sX.row))
    (hgr : (W.alloc o).grownBy w2 vX.ownBlock) (hl : vX.ownBlock = some g ∨ g = (W.alloc o).heap.size) :
    LS C (kx + 1) ky kg (.slice (some ⟨g, 0, none⟩) (C.xs.length + kx + 1) cap) vY vG (w2.setCell ⟨C.lX, 0, none⟩ (.slice (some ⟨g, 0, none⟩) (C.xs.length + kx + 1) cap)) := by
  obtain ⟨a, b, c⟩ := grown_set (B := C.lX) (j := 0) (u := .slice (some ⟨g, 0, none⟩) (C.xs.length + kx + 1) cap) hgr
  have hz : (W.alloc o).heap.size = W.heap.size + 1 := World.size_alloc _ _
  have hne : g ≠ C.lX := by
    rcases hl with hl | hl
    · exact (h.xne hC.1 hl).1
    · have := lt_of_block h.hX
      omega
  refine h.stepX hC.1 hC.2 a b c (heap_setCell_same w2 C.lX 0 _ 36 _ (h.midX hgr)) ?_ ?_
  · have := own_set (B := C.lX) (j := 0) (u := .slice (some ⟨g, 0, none⟩) (C.xs.length + kx + 1) cap) (g := g) (cap := cap) ho (fun g2 hg2 => by simp only [Value.ownBlock, Option.some.injEq] at hg2; omega)
    rw [flat_snoc] at this
    exact this
  · rcases hl with hl | hl
    · exact .inl hl.symm
    · exact .inr fun g2 hg2 => by simp only [Value.ownBlock, Option.some.injEq] at hg2; omega
theorem LS.endY (hC : C.Good ∧ (C.b43 ≠ C.lX ∧ C.b43 ≠ C.lY ∧ C.b43 ≠ C.lG)) (h : LS C kx ky kg vX vY vG W)
    (ho : w2.ownsRow 0 45 6 (.slice (some ⟨g, 0, none⟩) (C.ys.length + ky + 1) cap) (C.ys.length + ky + 1) (((C.ys ++ List.replicate ky (fX C.b22 C.b43)).map FuncX.row).flatten ++ (fX C.b22 C.b43).row))
    (hgr : (W.alloc o).grownBy w2 vY.ownBlock) (hl : vY.ownBlock = some g ∨ g = (W.alloc o).heap.size) :
    LS C kx (ky + 1) kg vX (.slice (some ⟨g, 0, none⟩) (C.ys.length + ky + 1) cap) vG (w2.setCell ⟨C.lY, 2, none⟩ (.slice (some ⟨g, 0, none⟩) (C.ys.length + ky + 1) cap)) := by
  obtain ⟨a, b, c⟩ := grown_set (B := C.lY) (j := 2) (u := .slice (some ⟨g, 0, none⟩) (C.ys.length + ky + 1) cap) hgr
  have hz : (W.alloc o).heap.size = W.heap.size + 1 := World.size_alloc _ _
  have hne : g ≠ C.lY := by
    rcases hl with hl | hl
    · exact (h.yne hC.1 hl).2.1
    · have := lt_of_block h.hY
      omega
  refine h.stepY hC.1 hC.2 a b c (heap_setCell_same w2 C.lY 2 _ 36 _ (h.midY hC hgr)) ?_ ?_
  · have := own_set (B := C.lY) (j := 2) (u := .slice (some ⟨g, 0, none⟩) (C.ys.length + ky + 1) cap) (g := g) (cap := cap) ho (fun g2 hg2 => by simp only [Value.ownBlock, Option.some.injEq] at hg2; omega)
    rw [flat_snoc] at this
    exact this
  · rcases hl with hl | hl
    · exact .inl hl.symm
    · exact .inr fun g2 hg2 => by simp only [Value.ownBlock, Option.some.injEq] at hg2; omega
/-- The grown function's slice grows: the first time it has no room. -/
theorem append_G {P : Program} {t ty : TypeId} {i : TypeInfo} {z : Value} {bytes : Nat} (ht : P.underlying t = some (.slice 64)) (hi : P.info? 64 = some i) (hz : i.zero = some z) (hsize : i.size = 11) (hby : i.bytes = bytes) (hzs : z.cells.size = 11)
    (hC : C.Good ∧ (C.b43 ≠ C.lX ∧ C.b43 ≠ C.lY ∧ C.b43 ≠ C.lG)) (h : LS C kx ky kg vX vY vG W) (hk : kg ≤ 100) (hb : bytes ≤ 1000) :
    ∃ g cap w2, (Builtin.append_ #[t, t] ty #[vG, .slice (some ⟨W.heap.size, 0, none⟩) 1 1]).run P (W.alloc (.cells (bX C.b22).row.toArray 64)) = .ok (.slice (some ⟨g, 0, none⟩) (1 + kg + 1) cap) w2 ∧
      w2.heap[C.lG]? = some (.cells #[.int .i64 0, .string ⟨#[102]⟩, .slice none 0 0, .slice none 0 0, .string ⟨#[105, 110, 116]⟩, vG] 45 (0, 0)) ∧
      LS C kx ky (kg + 1) vX vY (.slice (some ⟨g, 0, none⟩) (1 + kg + 1) cap) (w2.setCell ⟨C.lG, 5, none⟩ (.slice (some ⟨g, 0, none⟩) (1 + kg + 1) cap)) := by
  have hbytes : (1 + kg + 1) * bytes ≤ 140737488355328 := Nat.le_trans (Nat.mul_le_mul (show 1 + kg + 1 ≤ 200 by omega) hb) (by decide)
  have hm : 1 + kg + 1 ≤ maxLen := by unfold maxLen; omega
  have hz0 : (W.alloc (.cells (bX C.b22).row.toArray 64)).heap.size = W.heap.size + 1 := World.size_alloc _ _
  have nw := World.news_of_block (heap_alloc_new W (.cells (bX C.b22).row.toArray 64))
  have fin : ∀ (g cap : Nat) (w2 : World) (row : Option Nat), w2.ownsRow 0 64 11 (.slice (some ⟨g, 0, none⟩) (1 + kg + 1) cap) (1 + kg + 1) (((List.replicate (1 + kg) (bX C.b22)).map BlockX.row).flatten ++ (bX C.b22).row) → (W.alloc (.cells (bX C.b22).row.toArray 64)).grownBy w2 row → (row = none ∨ (0 < kg ∧ row = vG.ownBlock)) → ((0 < kg ∧ vG.ownBlock = some g) ∨ W.heap.size ≤ g) →
      w2.heap[C.lG]? = some (.cells #[.int .i64 0, .string ⟨#[102]⟩, .slice none 0 0, .slice none 0 0, .string ⟨#[105, 110, 116]⟩, vG] 45 (0, 0)) ∧
      LS C kx ky (kg + 1) vX vY (.slice (some ⟨g, 0, none⟩) (1 + kg + 1) cap) (w2.setCell ⟨C.lG, 5, none⟩ (.slice (some ⟨g, 0, none⟩) (1 + kg + 1) cap)) := by
    intro g cap w2 row ho hgr hrow hl
    have kept : ∀ b, b < W.heap.size → (0 < kg → some b ≠ vG.ownBlock) → w2.heap[b]? = W.heap[b]? := fun b h1 h2 => by
      rw [hgr.block b (by omega) (by rcases hrow with e | ⟨e1, e⟩ <;> rw [e]; · simp
                                     · exact h2 e1)]
      exact (below_new W _).block b h1
    have hlt := lt_of_block h.hG
    have hG2 := (kept C.lG (by omega) fun _ e => (h.gne hC.1 hC.2 e.symm).2.2 rfl).trans h.hG
    have hne : g ≠ C.lG := by
      rcases hl with ⟨_, hl⟩ | hl
      · exact (h.gne hC.1 hC.2 hl).2.2
      · omega
    refine ⟨hG2, h.stepG hC.1 (by rw [setCell_size]; have := hgr.size; omega) ?_ (fun b h1 h2 h3 => ?_) (heap_setCell_same w2 C.lG 5 _ 45 _ hG2) ?_ ?_⟩
    · obtain ⟨a, b, c⟩ := setCell_env w2 ⟨C.lG, 5, none⟩ (.slice (some ⟨g, 0, none⟩) (1 + kg + 1) cap)
      exact ⟨a.trans hgr.os, b.trans hgr.tape, c.trans hgr.output⟩
    · rw [heap_setCell_other w2 ⟨C.lG, 5, none⟩ b _ h2]
      exact kept b h1 h3
    · have := own_set (B := C.lG) (j := 5) (u := .slice (some ⟨g, 0, none⟩) (1 + kg + 1) cap) (g := g) (cap := cap) ho (fun g2 hg2 => by simp only [Value.ownBlock, Option.some.injEq] at hg2; omega)
      rw [show ((List.replicate (1 + kg) (bX C.b22)).map BlockX.row).flatten ++ (bX C.b22).row = ((List.replicate (1 + (kg + 1)) (bX C.b22)).map BlockX.row).flatten by
        rw [show 1 + (kg + 1) = (1 + kg) + 1 by omega, List.replicate_succ' (n := 1 + kg), List.map_append, List.flatten_append]; simp] at this
      exact this
    · rcases hl with ⟨e1, hl⟩ | hl
      · exact .inl ⟨e1, hl.symm⟩
      · exact .inr fun g2 hg2 => by simp only [Value.ownBlock, Option.some.injEq] at hg2; omega
  by_cases h0 : 0 < kg
  · obtain ⟨g, cap, w2, hr, h2, h3, h4, _⟩ := run_append_lies (P := P) (W.alloc (.cells (bX C.b22).row.toArray 64)) t ty 0 64 i z 11 bytes ht hi hz hsize hby hzs (by decide) vG (1 + kg) _ (h.oG.alloc _) ⟨W.heap.size, 0, none⟩ 1 1 (bX C.b22).row rfl nw (by intro u hu; simp [bX, tX, BlockX.row] at hu; rcases hu with rfl | rfl | rfl | rfl | rfl | rfl | rfl | rfl | rfl | rfl | rfl <;> rfl) (by decide) hm hbytes (Nat.zero_le _) _ rfl
    exact ⟨g, cap, w2, hr, fin g cap w2 _ h2 h3 (.inr ⟨h0, rfl⟩) (h4.imp (fun e => ⟨h0, e⟩) fun e => by omega)⟩
  · obtain rfl : kg = 0 := by omega
    rcases h.rG with ⟨_, rfl⟩ | ⟨e, _⟩
    · have ho := h.oG.alloc (.cells (bX C.b22).row.toArray 64)
      obtain ⟨v', w2, hr, h2, h3⟩ := run_append_arg_grows (P := P) (W.alloc (.cells (bX C.b22).row.toArray 64)) t ty 64 i z 11 bytes ht hi hz hsize hby hzs (by decide) ⟨C.b43, 0, none⟩ 1 1 _ ho.1 (ho.cells rfl) ⟨W.heap.size, 0, none⟩ 1 1 (bX C.b22).row rfl nw (by decide) (by unfold maxLen; decide) (by have := hb; omega)
      obtain ⟨g, cap, rfl, h5, _⟩ := h2.form (by decide)
      exact ⟨g, cap, w2, hr, fin g cap w2 none (own_zero h2) h3 (.inl rfl) (.inr (by omega))⟩
    · omega
end

/-! What Right answers of each. -/
theorem sX_fit : sX.d.Fit := ⟨(by show (1 : Nat) ≤ 1048576; decide), fun v hv => (by cases hv)⟩
theorem bX_fit (b : Nat) : (bX b).d.Fit := by
  refine ⟨(by show (1 : Nat) ≤ 1048576; decide), fun s hs => (by cases hs), ⟨(by show (0 : Nat) ≤ 1048576; decide), fun s hs => (by cases hs)⟩, (by show (0 : Nat) ≤ 1048576; decide), fun p hp => (by cases hp), fun s hs => ?_, fun a ha => (by cases ha)⟩
  cases List.mem_singleton.1 hs
  show (1 : Nat) ≤ 1048576
  decide
theorem fX_fit (b c : Nat) : (fX b c).d.Fit := by
  refine ⟨(by show (1 : Nat) ≤ 1048576; decide), (by show (3 : Nat) ≤ 1048576; decide), fun v hv => (by cases hv), fun v hv => (by cases hv), fun x hx => ?_⟩
  cases List.mem_singleton.1 hx
  exact bX_fit b
theorem right_x {X p : ProgX} (hd : X.d = p.d) (hf : p.d.Fit) (hr : progR p.d = true) (n : Nat) (a : Option Addr) (c : Nat) (W : World) (hat : (⟨a, c, X.structs ++ List.replicate n sX, X.ea, X.ec, X.enums, X.fa, X.fc, X.funcs⟩ : ProgX).At W) :
    Calls Tryz.prog 20 #[.agg #[.slice a (X.structs.length + n) c, .slice X.ea X.enums.length X.ec, .slice X.fa X.funcs.length X.fc]] W fun e w' => e = .returned (.bool (decide (((X.structs.length + n : Nat) : Int) ≤ 16))) ∧ Below W.heap.size W w' := by
  have e : (⟨a, c, X.structs ++ List.replicate n sX, X.ea, X.ec, X.enums, X.fa, X.fc, X.funcs⟩ : ProgX).d = ⟨p.d.structs ++ List.replicate n sX.d, p.d.enums, p.d.funcs⟩ := by rw [← hd]; simp [ProgX.d]
  have h1 := right_any _ W hat (by
    rw [e]
    exact ⟨fun s hs => (List.mem_append.1 hs).elim (hf.1 s) fun h => by rw [List.eq_of_mem_replicate h]; exact sX_fit, hf.2.1, hf.2.2⟩)
  rw [e, progR_x p.d n hr, ← hd] at h1
  simpa [ProgX.d] using h1
theorem right_y {Y p : ProgX} (hd : Y.d = p.d) (hf : p.d.Fit) (hr : progR p.d = true) (n b22 b43 : Nat) (a : Option Addr) (c : Nat) (W : World) (hat : (⟨Y.sa, Y.sc, Y.structs, Y.ea, Y.ec, Y.enums, a, c, Y.funcs ++ List.replicate n (fX b22 b43)⟩ : ProgX).At W) :
    Calls Tryz.prog 20 #[.agg #[.slice Y.sa Y.structs.length Y.sc, .slice Y.ea Y.enums.length Y.ec, .slice a (Y.funcs.length + n) c]] W fun e w' => e = .returned (.bool (decide (((Y.funcs.length + n : Nat) : Int) ≤ 16))) ∧ Below W.heap.size W w' := by
  have e : (⟨Y.sa, Y.sc, Y.structs, Y.ea, Y.ec, Y.enums, a, c, Y.funcs ++ List.replicate n (fX b22 b43)⟩ : ProgX).d = ⟨p.d.structs, p.d.enums, p.d.funcs ++ List.replicate n (fX b22 b43).d⟩ := by rw [← hd]; simp [ProgX.d]
  have h1 := right_any _ W hat (by
    rw [e]
    exact ⟨hf.1, hf.2.1, fun s hs => (List.mem_append.1 hs).elim (hf.2.2 s) fun h => by rw [List.eq_of_mem_replicate h]; exact fX_fit _ _⟩)
  rw [e, progR_y p.d b22 b43 n hr, ← hd] at h1
  simpa [ProgX.d] using h1
theorem right_z (n b22 g : Nat) (a : Option Addr) (c : Nat) (W : World) (hat : (⟨0, ⟨#[102]⟩, none, 0, [], none, 0, [], ⟨#[105, 110, 116]⟩, a, c, List.replicate (1 + n) (bX b22)⟩ : FuncX).At W)
    (hg : W.heap[g]? = some (.cells #[.int .i64 0, .string ⟨#[102]⟩, .slice none 0 0, .slice none 0 0, .string ⟨#[105, 110, 116]⟩, .slice a (1 + n) c] 45 (0, 0))) :
    Calls Tryz.prog 20 #[.agg #[.slice none 0 0, .slice none 0 0, .slice (some ⟨g, 0, none⟩) 1 1]] W fun e w' => e = .returned (.bool (decide ((n : Int) < 64))) ∧ Below W.heap.size W w' := by
  have h1 := right_any ⟨none, 0, [], none, 0, [], some ⟨g, 0, none⟩, 1, [⟨0, ⟨#[102]⟩, none, 0, [], none, 0, [], ⟨#[105, 110, 116]⟩, a, c, List.replicate (1 + n) (bX b22)⟩]⟩ W
    ⟨⟨Sl.nil, fun x hx => (by cases hx)⟩, ⟨Sl.nil, fun x hx => (by cases hx)⟩, ⟨⟨fun r hr => (by cases List.mem_singleton.1 hr; rfl), (by show 1 ≤ 1048576; decide), .inr ⟨g, 0, rfl, lt_of_block hg, fun j r i v hj hi => ?_⟩⟩, fun x hx => (by cases List.mem_singleton.1 hx; exact hat)⟩⟩
    ⟨fun s hs => (by cases hs), fun s hs => (by cases hs), fun f hf => ?_⟩
  · have e : (⟨none, 0, [], none, 0, [], some ⟨g, 0, none⟩, 1, [⟨0, ⟨#[102]⟩, none, 0, [], none, 0, [], ⟨#[105, 110, 116]⟩, a, c, List.replicate (1 + n) (bX b22)⟩]⟩ : ProgX).d = ⟨[], [], [⟨0, ⟨#[102]⟩, [], [], ⟨#[105, 110, 116]⟩, List.replicate (1 + n) (bX b22).d⟩]⟩ := by simp [ProgX.d, FuncX.d]
    rw [e, progR_z b22 n] at h1
    exact h1
  · obtain rfl : j = 0 := by
      have := (List.getElem?_eq_some_iff.1 hj).1
      simpa using this
    simp at hj
    subst hj
    rw [cell_at hg, show 0 + 0 * 6 + i = i by omega]
    have hi' : (#[.int .i64 0, .string ⟨#[102]⟩, .slice none 0 0, .slice none 0 0, .string ⟨#[105, 110, 116]⟩, .slice a (1 + n) c] : Array Value).toList[i]? = some v := by
      simpa [FuncX.row] using hi
    rwa [Array.getElem?_toList] at hi'
  · cases List.mem_singleton.1 hf
    refine ⟨(by show (1 : Nat) ≤ 1048576; decide), (by show (3 : Nat) ≤ 1048576; decide), fun v hv => (by cases hv), fun v hv => (by cases hv), fun x hx => ?_⟩
    simp only [FuncX.d, List.map_replicate] at hx
    rw [List.eq_of_mem_replicate hx]
    exact bX_fit b22
end Go.Proofs.YtlppbgmcoknliaaGreatDoor
