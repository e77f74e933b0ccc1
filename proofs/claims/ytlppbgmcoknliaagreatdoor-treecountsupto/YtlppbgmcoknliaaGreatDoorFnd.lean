/-
  The walks of Find and Block.
-/
import Derived.Test.YtlppbgmcoknliaaGreatDoorIdx2
namespace Go.Proofs.YtlppbgmcoknliaaGreatDoor
set_option linter.unusedVariables false
open Go.RowKit

set_option maxHeartbeats 400000 in
theorem find_one (x : VarD) (B : Nat) (s : ByteArray) (w : World) (hB : w.cell? ⟨B, 0, none⟩ = some (.string s)) (hlt : B < w.heap.size) :
 Calls Tryz.prog 78 #[.agg #[.string x.name, .string x.type], .pointer (some ⟨B, 0, none⟩)] w fun e w' => e = .returned (.bool (bq x.name s)) ∧ Below w.heap.size w w' := by
 have hb := hidIt (below_new w (.cells #[.string x.name, .string x.type] 52))
 have hB2 : (w.alloc (.cells #[.string x.name, .string x.type] 52)).cell? ⟨B, 0, none⟩ = some (.string s) := by rw [hb.out.cell (p := ⟨B, 0, none⟩) hlt]; exact hB
 clear hB hlt
 simp only [bq]
 go_enter Tryz.func78, Tryz.ntmps78
 go_wp2
 go_ret
 exact ⟨rfl, hb.out⟩
set_option maxHeartbeats 400000 in
theorem find_any (a : Option Addr) (xs : List VarD) (c : Nat) (s : ByteArray) (w : World) (h1 : Vrs w a xs) :
 Calls Tryz.prog 30 #[.slice a xs.length c, .string s] w fun e w' => e = .returned (.int .i64 (idxL (fun v => bq v.name s) xs)) ∧ Below w.heap.size w w' := by
 have hb := hidIt (below_new w (.cells #[.string s] 9))
 have H1 := hidIt (heap_alloc_new w (.cells #[.string s] 9))
 have c1 : Hid (∀ W, Below w.heap.size w W → W.heap[w.heap.size]? = some (.cells #[.string s] 9 (0, 0)) → Calls Tryz.prog 77 #[.slice a xs.length c, .func (.func 78) #[] #[.pointer (some ⟨w.heap.size, 0, none⟩)]] W fun e w' => e = .returned (.int .i64 (idxL (fun v => bq v.name s) xs)) ∧ Below W.heap.size W w') := hidIt fun W hW hh =>
  idx_var a xs c 78 #[.pointer (some ⟨w.heap.size, 0, none⟩)] (fun v => bq v.name s) W (fun args w => by kernel_rfl) (h1.on hW) fun W2 x hx hW2 =>
   find_one x w.heap.size s W2 (cell_at (heap_on hh hW2) 0) (Array.getElem?_eq_some_iff.1 (heap_on hh hW2)).1
 clear h1
 generalize xs.length = n at *
 generalize idxL (fun v => bq v.name s) xs = R at *
 go_enter Tryz.func30, Tryz.ntmps30
 go_wp2_with (go_at_call 77; refine (c1.out _ hb.out H1.out).mono ?_; rintro e w' ⟨rfl, hb'⟩)
 go_ret
 exact ⟨rfl, below_next hb.out hb'⟩

set_option maxHeartbeats 400000 in
theorem block_one (x : BlockX) (B : Nat) (s : ByteArray) (w : World) (hB : w.cell? ⟨B, 0, none⟩ = some (.string s)) (hlt : B < w.heap.size) :
 Calls Tryz.prog 80 #[.agg #[.int .i64 x.at_, .string x.name, .slice x.sa x.stmts.length x.sc, .int .i64 x.term.at_, .int .i64 x.term.kind, .string x.term.to.loc, .slice x.term.to.sa x.term.to.steps.length x.term.to.sc, .string x.term.name, .slice x.term.aa x.term.args.length x.term.ac, .slice x.term.ba x.term.blocks.length x.term.bc, .slice x.term.ra x.term.arms.length x.term.rc], .pointer (some ⟨B, 0, none⟩)] w fun e w' => e = .returned (.bool (bq x.name s)) ∧ Below w.heap.size w w' := by
 have hb := hidIt (below_new w (.cells #[.int .i64 x.at_, .string x.name, .slice x.sa x.stmts.length x.sc, .int .i64 x.term.at_, .int .i64 x.term.kind, .string x.term.to.loc, .slice x.term.to.sa x.term.to.steps.length x.term.to.sc, .string x.term.name, .slice x.term.aa x.term.args.length x.term.ac, .slice x.term.ba x.term.blocks.length x.term.bc, .slice x.term.ra x.term.arms.length x.term.rc] 64))
 have hB2 : (w.alloc (.cells #[.int .i64 x.at_, .string x.name, .slice x.sa x.stmts.length x.sc, .int .i64 x.term.at_, .int .i64 x.term.kind, .string x.term.to.loc, .slice x.term.to.sa x.term.to.steps.length x.term.to.sc, .string x.term.name, .slice x.term.aa x.term.args.length x.term.ac, .slice x.term.ba x.term.blocks.length x.term.bc, .slice x.term.ra x.term.arms.length x.term.rc] 64)).cell? ⟨B, 0, none⟩ = some (.string s) := by rw [hb.out.cell (p := ⟨B, 0, none⟩) hlt]; exact hB
 clear hB hlt
 simp only [bq]
 go_enter Tryz.func80, Tryz.ntmps80
 go_wp2
 go_ret
 exact ⟨rfl, hb.out⟩
set_option maxHeartbeats 400000 in
theorem block_any (f : FuncX) (s : ByteArray) (w : World) (h1 : f.At w) :
 Calls Tryz.prog 32 #[.agg #[.int .i64 f.at_, .string f.name, .slice f.pa f.params.length f.pc, .slice f.la f.locals.length f.lc, .string f.result, .slice f.ba f.blocks.length f.bc], .string s] w fun e w' => e = .returned (.int .i64 (idxL (fun v => bq v.name s) f.blocks)) ∧ Below w.heap.size w w' := by
 have hb := hidIt (below_next (below_new w (.cells #[.int .i64 f.at_, .string f.name, .slice f.pa f.params.length f.pc, .slice f.la f.locals.length f.lc, .string f.result, .slice f.ba f.blocks.length f.bc] 45)) (below_new _ (.cells #[.string s] 9)))
 obtain ⟨hh1, hh2⟩ := two_at (w := w) (cs := #[.int .i64 f.at_, .string f.name, .slice f.pa f.params.length f.pc, .slice f.la f.locals.length f.lc, .string f.result, .slice f.ba f.blocks.length f.bc]) (ds := #[.string s]) (t := 45) (u := 9) rfl rfl (Below.refl _ _)
 have H2 := hidIt hh2
 have c1 : Hid (∀ W, Below w.heap.size w W → W.heap[w.heap.size + 1]? = some (.cells #[.string s] 9 (0, 0)) → Calls Tryz.prog 79 #[.slice f.ba f.blocks.length f.bc, .func (.func 80) #[] #[.pointer (some ⟨w.heap.size + 1, 0, none⟩)]] W fun e w' => e = .returned (.int .i64 (idxL (fun v => bq v.name s) f.blocks)) ∧ Below W.heap.size W w') := hidIt fun W hW hh =>
  idx_block f.ba f.blocks f.bc 80 #[.pointer (some ⟨w.heap.size + 1, 0, none⟩)] (fun v => bq v.name s) W (fun args w => by kernel_rfl) (h1.2.2.on hW) fun W2 x hx hW2 =>
   block_one x (w.heap.size + 1) s W2 (cell_at (heap_on hh hW2) 0) (Array.getElem?_eq_some_iff.1 (heap_on hh hW2)).1
 clear h1 hh1 hh2
 generalize idxL (fun v => bq v.name s) f.blocks = R at *
 go_enter Tryz.func32, Tryz.ntmps32
 go_wp2_with (go_at_call 79; refine (c1.out _ hb.out H2.out).mono ?_; rintro e w' ⟨rfl, hb'⟩)
 go_ret
 exact ⟨rfl, below_next hb.out hb'⟩
end Go.Proofs.YtlppbgmcoknliaaGreatDoor
