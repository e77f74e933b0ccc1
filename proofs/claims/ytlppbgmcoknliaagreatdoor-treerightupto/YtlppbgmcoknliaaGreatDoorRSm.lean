/-
  A statement in its box.
  The walk of the document's own Term, a kind at a time.
-/
import Derived.Test.YtlppbgmcoknliaaGreatDoorRRt2
import Derived.Test.YtlppbgmcoknliaaGreatDoorRgt2
import Derived.Test.YtlppbgmcoknliaaGreatDoorKy4
import Derived.Deep.RegionHeld3
import Derived.Deep.QuietTactic
import Derived.BigQuiet
namespace Go.Proofs.YtlppbgmcoknliaaGreatDoor
set_option linter.unusedVariables false
open Go.RowKit

/-- What a call answers in each world behind w. -/
def Ans (w : World) (f : FuncId) (a : Array Value) (b : Bool) : Prop := ∀ W, Below w.heap.size w W → Calls Tryz.prog f a W fun e w' => e = .returned (.bool b) ∧ Below W.heap.size W w'
/-- A statement in its box. -/
structure SM (w : World) (q0 q1 q2 q3 q4 q5 q6 q7 : Value) (W : World) : Prop where
 bel : Below w.heap.size w W
 box : W.heap[w.heap.size]? = some (.cells #[q0, q1, q2, q3, q4, q5, q6, q7] 68 (0, 0))
theorem SM.on {w W W' : World} {q0 q1 q2 q3 q4 q5 q6 q7 : Value} (h : SM w q0 q1 q2 q3 q4 q5 q6 q7 W) (hb : Below W.heap.size W W') : SM w q0 q1 q2 q3 q4 q5 q6 q7 W' := ⟨below_next h.bel hb, heap_on h.box hb⟩
theorem SM.cells {w W : World} {q0 q1 q2 q3 q4 q5 q6 q7 : Value} (h : SM w q0 q1 q2 q3 q4 q5 q6 q7 W) : W.cell? ⟨w.heap.size, 1, none⟩ = some q1 ∧ W.cell? ⟨w.heap.size, 2, none⟩ = some q2 ∧ W.cell? ⟨w.heap.size, 3, none⟩ = some q3 ∧ W.cell? ⟨w.heap.size, 4, none⟩ = some q4 ∧ W.cell? ⟨w.heap.size, 5, none⟩ = some q5 ∧ W.cell? ⟨w.heap.size, 6, none⟩ = some q6 ∧ W.cell? ⟨w.heap.size, 7, none⟩ = some q7 :=
 ⟨cell_at h.box 1, cell_at h.box 2, cell_at h.box 3, cell_at h.box 4, cell_at h.box 5, cell_at h.box 6, cell_at h.box 7⟩

end Go.Proofs.YtlppbgmcoknliaaGreatDoor
namespace Go.Proofs.YtlppbgmcoknliaaGreatDoor
set_option linter.unusedVariables false
open Go.RowKit

/-- An end in its box. -/
structure TM (w : World) (q0 q1 q2 q3 q4 q5 q6 q7 : Value) (W : World) : Prop where
 bel : Below w.heap.size w W
 box : W.heap[w.heap.size]? = some (.cells #[q0, q1, q2, q3, q4, q5, q6, q7] 61 (0, 0))
theorem TM.on {w W W' : World} {q0 q1 q2 q3 q4 q5 q6 q7 : Value} (h : TM w q0 q1 q2 q3 q4 q5 q6 q7 W) (hb : Below W.heap.size W W') : TM w q0 q1 q2 q3 q4 q5 q6 q7 W' := ⟨below_next h.bel hb, heap_on h.box hb⟩
theorem TM.cells {w W : World} {q0 q1 q2 q3 q4 q5 q6 q7 : Value} (h : TM w q0 q1 q2 q3 q4 q5 q6 q7 W) : W.cell? ⟨w.heap.size, 1, none⟩ = some q1 ∧ W.cell? ⟨w.heap.size, 2, none⟩ = some q2 ∧ W.cell? ⟨w.heap.size, 3, none⟩ = some q3 ∧ W.cell? ⟨w.heap.size, 4, none⟩ = some q4 ∧ W.cell? ⟨w.heap.size, 5, none⟩ = some q5 ∧ W.cell? ⟨w.heap.size, 6, none⟩ = some q6 ∧ W.cell? ⟨w.heap.size, 7, none⟩ = some q7 :=
 ⟨cell_at h.box 1, cell_at h.box 2, cell_at h.box 3, cell_at h.box 4, cell_at h.box 5, cell_at h.box 6, cell_at h.box 7⟩

theorem keptN {w W : World} {L : List (Nat × Obj)} (h : Kept w L W) : ∀ q, Kept w L (W.drewN q)
 | 0 => h
 | q + 1 => (keptN h q).drew
theorem arm_cells {w W : World} {q0 q1 q2 : Value} (h : Kept w [(w.heap.size, Obj.cells #[q0, q1, q2] 103 (0, 0))] W) : W.cell? ⟨w.heap.size, 0, none⟩ = some q0 ∧ W.cell? ⟨w.heap.size, 1, none⟩ = some q1 ∧ W.cell? ⟨w.heap.size, 2, none⟩ = some q2 :=
 ⟨cell_at (h.get 0 rfl) 0, cell_at (h.get 0 rfl) 1, cell_at (h.get 0 rfl) 2⟩

set_option maxHeartbeats 4000000 in
set_option maxRecDepth 100000 in
theorem docterm_out (K : Int) (hK : K < 1 ∨ 7 < K) (zat : Int) (zl : ByteArray) (zsa : Option Addr) (zsn zsc : Nat) (znm : ByteArray) (zaa : Option Addr) (zan zac : Nat) (zba : Option Addr) (zbn zbc : Nat) (zra : Option Addr) (zrn zrc : Nat) (w : World) :
 Calls Tryz.prog 105 #[.agg #[.int .i64 zat, .int .i64 K, .string zl, .slice zsa zsn zsc, .string znm, .slice zaa zan zac, .slice zba zbn zbc, .slice zra zrn zrc]] w fun e w' => e = .returned (.bool false) ∧ Below w.heap.size w w' := by
 have K0 : Hid (Kept w [((w.alloc (.cells #[.int .i64 zat, .int .i64 K, .string zl, .slice zsa zsn zsc, .string znm, .slice zaa zan zac, .slice zba zbn zbc, .slice zra zrn zrc] 61)).heap.size + 1, Obj.cells #[.int .i64 0, .int .i64 1, .int .i64 2, .int .i64 0, .int .i64 1, .int .i64 1, .int .i64 1, .int .i64 0] 171 (0, 0)), ((w.alloc (.cells #[.int .i64 zat, .int .i64 K, .string zl, .slice zsa zsn zsc, .string znm, .slice zaa zan zac, .slice zba zbn zbc, .slice zra zrn zrc] 61)).heap.size, Obj.cells #[.int .i64 0, .int .i64 0, .int .i64 1, .int .i64 1, .int .i64 0, .int .i64 16, .int .i64 16, .int .i64 1] 171 (0, 0)), (w.heap.size, Obj.cells #[.int .i64 zat, .int .i64 K, .string zl, .slice zsa zsn zsc, .string znm, .slice zaa zan zac, .slice zba zbn zbc, .slice zra zrn zrc] 61 (0, 0))] (((w.alloc (.cells #[.int .i64 zat, .int .i64 K, .string zl, .slice zsa zsn zsc, .string znm, .slice zaa zan zac, .slice zba zbn zbc, .slice zra zrn zrc] 61)).alloc (.cells #[.int .i64 0, .int .i64 0, .int .i64 1, .int .i64 1, .int .i64 0, .int .i64 16, .int .i64 16, .int .i64 1] 171)).alloc (.cells #[.int .i64 0, .int .i64 1, .int .i64 2, .int .i64 0, .int .i64 1, .int .i64 1, .int .i64 1, .int .i64 0] 171))) := hidIt (by
  have h := Kept.new (Kept.new (Kept.new (L := []) ⟨Below.refl _ w, fun x hx => by cases hx⟩ #[.int .i64 zat, .int .i64 K, .string zl, .slice zsa zsn zsc, .string znm, .slice zaa zan zac, .slice zba zbn zbc, .slice zra zrn zrc] 61) #[.int .i64 0, .int .i64 0, .int .i64 1, .int .i64 1, .int .i64 0, .int .i64 16, .int .i64 16, .int .i64 1] 171) #[.int .i64 0, .int .i64 1, .int .i64 2, .int .i64 0, .int .i64 1, .int .i64 1, .int .i64 1, .int .i64 0] 171
  rwa [World.size_alloc (w.alloc _)] at h)
 rw [World.size_alloc] at K0
 rcases hK with hK | hK
 · have hd1 : decide (K < 1) = true := decide_eq_true hK
   go_enter Tryz.func105, Tryz.ntmps105
   go_upto_region 3 with fail
   generalize (((w.alloc (.cells #[.int .i64 zat, .int .i64 K, .string zl, .slice zsa zsn zsc, .string znm, .slice zaa zan zac, .slice zba zbn zbc, .slice zra zrn zrc] 61)).alloc (.cells #[.int .i64 0, .int .i64 0, .int .i64 1, .int .i64 1, .int .i64 0, .int .i64 16, .int .i64 16, .int .i64 1] 171)).alloc (.cells #[.int .i64 0, .int .i64 1, .int .i64 2, .int .i64 0, .int .i64 1, .int .i64 1, .int .i64 1, .int .i64 0] 171)) = W0 at K0 ⊢
   have c1 : W0.cell? ⟨w.heap.size, 1, none⟩ = some (.int .i64 K) := cell_at (K0.out.get 2 rfl) 1
   go_quiet (fail)
   go_wp2
   go_ret
   exact ⟨rfl, below_next K0.out.1 (below_drewN _ _)⟩
 · have hd1 : decide (K < 1) = false := decide_eq_false (by omega)
   have hd2 : decide (7 < K) = true := decide_eq_true hK
   go_enter Tryz.func105, Tryz.ntmps105
   go_upto_region 3 with fail
   generalize (((w.alloc (.cells #[.int .i64 zat, .int .i64 K, .string zl, .slice zsa zsn zsc, .string znm, .slice zaa zan zac, .slice zba zbn zbc, .slice zra zrn zrc] 61)).alloc (.cells #[.int .i64 0, .int .i64 0, .int .i64 1, .int .i64 1, .int .i64 0, .int .i64 16, .int .i64 16, .int .i64 1] 171)).alloc (.cells #[.int .i64 0, .int .i64 1, .int .i64 2, .int .i64 0, .int .i64 1, .int .i64 1, .int .i64 1, .int .i64 0] 171)) = W0 at K0 ⊢
   have c1 : W0.cell? ⟨w.heap.size, 1, none⟩ = some (.int .i64 K) := cell_at (K0.out.get 2 rfl) 1
   go_quiet (fail)
   go_wp2
   go_ret
   exact ⟨rfl, below_next K0.out.1 (below_drewN _ _)⟩
end Go.Proofs.YtlppbgmcoknliaaGreatDoor
