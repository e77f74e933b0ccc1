/-
  The walk of TreeRight.
-/
import Derived.Test.YtlppbgmcoknliaaGreatDoorRRi2
import Derived.Test.YtlppbgmcoknliaaGreatDoorGre
import Derived.Test.YtlppbgmcoknliaaGreatDoorRgt3
import Derived.Test.YtlppbgmcoknliaaGreatDoorAlv2
import Derived.Deep.RegionHeld3
namespace Go.Proofs.YtlppbgmcoknliaaGreatDoor
set_option linter.unusedVariables false
open Go.RowKit

theorem fit_s5 {s : ByteArray} (h : szS s ≤ 1048576) : fitS s := by
 have h1 : s.size + 1 ≤ 1048576 := h
 show s.size ≤ _
 omega
theorem fit_in {α : Type} {f : α → Nat} {P : α → Prop} {l : List α} (hl : szL f l ≤ 1048576) (h : ∀ x, f x ≤ 1048576 → P x) : ∀ x ∈ l, P x := fun x hx => h x (Nat.le_trans (szL_mem (f := f) hx) hl)
theorem fit_var {v : VarD} (h : v.sz ≤ 1048576) : v.Fit := by
 unfold VarD.sz at h
 exact ⟨fit_s5 (by omega), fit_s5 (by omega)⟩
theorem fit_arm {v : ArmD} (h : v.sz ≤ 1048576) : v.Fit := by
 unfold ArmD.sz at h
 exact ⟨fit_s5 (by omega), fit_s5 (by omega), fit_s5 (by omega)⟩
theorem fit_stmt {v : StmtD} (h : v.sz ≤ 1048576) : v.Fit := by
 unfold StmtD.sz at h
 exact ⟨fit_place (by omega), fit_s5 (by omega), fit_s5 (by omega), fit_in (f := PlaceD.sz) (by omega) fun x hx => fit_place hx⟩
theorem fit_term {v : TermD} (h : v.sz ≤ 1048576) : v.Fit := by
 unfold TermD.sz at h
 exact ⟨fit_place (by omega), fit_s5 (by omega), fit_in (f := PlaceD.sz) (by omega) fun x hx => fit_place hx, fit_in (f := szS) (by omega) fun x hx => fit_s5 hx, fit_in (f := ArmD.sz) (by omega) fun x hx => fit_arm hx⟩
theorem fit_block {v : BlockD} (h : v.sz ≤ 1048576) : v.Fit := by
 unfold BlockD.sz at h
 exact ⟨fit_s5 (by omega), fit_in (f := StmtD.sz) (by omega) fun x hx => fit_stmt hx, fit_term (by omega)⟩
theorem fit_func {v : FuncD} (h : v.sz ≤ 1048576) : v.Fit := by
 unfold FuncD.sz at h
 exact ⟨fit_s5 (by omega), fit_s5 (by omega), fit_in (f := VarD.sz) (by omega) fun x hx => fit_var hx, fit_in (f := VarD.sz) (by omega) fun x hx => fit_var hx, fit_in (f := BlockD.sz) (by omega) fun x hx => fit_block hx⟩
theorem fit_prog {v : ProgD} (h : v.sz ≤ 1048576) : v.Fit := by
 unfold ProgD.sz at h
 refine ⟨fit_in (f := StructD.sz) (by omega) fun x hx => ?_, fit_in (f := EnumD.sz) (by omega) fun x hx => ?_, fit_in (f := FuncD.sz) (by omega) fun x hx => fit_func hx⟩
 · unfold StructD.sz at hx
   exact ⟨fit_s5 (by omega), fit_in (f := VarD.sz) (by omega) fun x hx => fit_var hx⟩
 · unfold EnumD.sz at hx
   exact ⟨fit_s5 (by omega), fit_in (f := VarD.sz) (by omega) fun x hx => fit_var hx⟩

set_option maxHeartbeats 8000000 in
set_option maxRecDepth 100000 in
theorem treeright_any (p : ProgX) (w : World) (hp : p.Ok w) (hz : p.d.sz ≤ 1048576) :
 Calls Tryz.prog 4 #[.agg #[.slice p.sa p.structs.length p.sc, .slice p.ea p.enums.length p.ec, .slice p.fa p.funcs.length p.fc]] w fun e w' => e = .returned (.bool true) ∧ Below w.heap.size w w' := by
 have hf : p.d.Fit := fit_prog hz
 have C9 : Hid (∀ W, Calls Tryz.prog 9 #[] W fun e w' => e = .returned (.bool true) ∧ Below W.heap.size W w') := hidIt fun W => alive_any W
 have C19 : Hid (∀ W, Below w.heap.size w W → Calls Tryz.prog 19 #[.agg #[.slice p.sa p.structs.length p.sc, .slice p.ea p.enums.length p.ec, .slice p.fa p.funcs.length p.fc]] W fun e w' => e = .returned (.bool (greatB p.d)) ∧ Below W.heap.size W w') := hidIt fun W hW => great_any p W (hp.on hW) hz
 have C20 : Hid (∀ W, Below w.heap.size w W → Calls Tryz.prog 20 #[.agg #[.slice p.sa p.structs.length p.sc, .slice p.ea p.enums.length p.ec, .slice p.fa p.funcs.length p.fc]] W fun e w' => e = .returned (.bool (progR p.d)) ∧ Below W.heap.size W w') := hidIt fun W hW => right_any p W (hp.1.on hW) hf
 have C21 : Hid (∀ W, Below w.heap.size w W → Calls Tryz.prog 21 #[.agg #[.slice p.sa p.structs.length p.sc, .slice p.ea p.enums.length p.ec, .slice p.fa p.funcs.length p.fc]] W fun e w' => e = .returned (.bool (progR p.d)) ∧ Below W.heap.size W w') := hidIt fun W hW => docright_any p W (hp.1.on hW) hf
 have M : Hid (PM w (.slice p.sa p.structs.length p.sc) (.slice p.ea p.enums.length p.ec) (.slice p.fa p.funcs.length p.fc) (w.alloc (.cells #[.slice p.sa p.structs.length p.sc, .slice p.ea p.enums.length p.ec, .slice p.fa p.funcs.length p.fc] 36))) := hidIt ⟨below_new w _, heap_alloc_new w _⟩
 clear hp hz hf
 generalize greatB p.d = G at C19
 generalize progR p.d = V at C20 C21
 go_enter Tryz.func4, Tryz.ntmps4
 go_upto_region 1 with fail
 generalize w.alloc (.cells #[.slice p.sa p.structs.length p.sc, .slice p.ea p.enums.length p.ec, .slice p.fa p.funcs.length p.fc] 36) = W0 at M ⊢
 go_upto_region 3 with (go_at_call 9; refine (C9.out _).mono ?_; rintro e y ⟨rfl, hq⟩; have M := hidIt (M.out.on hq); clear hq)
 have sw : y.cell? ⟨w.heap.size, 0, none⟩ = some (.slice p.sa p.structs.length p.sc) ∧ y.cell? ⟨w.heap.size, 1, none⟩ = some (.slice p.ea p.enums.length p.ec) ∧ y.cell? ⟨w.heap.size, 2, none⟩ = some (.slice p.fa p.funcs.length p.fc) := M.out.cells
 have M := hidIt (M.out.on (Below.refl _ _).drew)
 clear C9
 cases G with
 | true =>
  as_aux_lemma =>
  refine wp_region_held_drew (S := (fun W => W.cell? ⟨w.heap.size, 0, none⟩ = some (.slice p.sa p.structs.length p.sc) ∧ W.cell? ⟨w.heap.size, 1, none⟩ = some (.slice p.ea p.enums.length p.ec) ∧ W.cell? ⟨w.heap.size, 2, none⟩ = some (.slice p.fa p.funcs.length p.fc))) (by kernel_rfl) sw (fun hHeld => ?_)
  clear sw
  refine wpAnyH_take (i := 0) (v := ?vv0) rfl (by kernel_rfl) (by kernel_rfl) (by kernel_rfl) (fun _ _ _ h => h) (Or.inl ⟨by rfl, ?yy0⟩) (by assumption) ?rr0
  case yy0 => intro w hSw; (try dsimp only at hSw); go_simp; first | done | with_reducible rfl
  (try simp only [Act.put, List.getElem_toArray, List.getElem_cons_zero, List.setIfInBounds_toArray, List.set_cons_zero, List.set_cons_succ])
  refine wpAnyH_ready (rs := [1]) (by kernel_rfl) (by simp) ?_
  refine AllReadyH.cons rfl (fun K hK => ?_) AllReadyH.nil
  go_simp
  go_at_call 19
  refine (C19.out _ M.out.bel).mono ?_
  rintro e y ⟨rfl, hq⟩
  have M := hidIt (M.out.on hq)
  have sS : y.cell? ⟨w.heap.size, 0, none⟩ = some (.slice p.sa p.structs.length p.sc) ∧ y.cell? ⟨w.heap.size, 1, none⟩ = some (.slice p.ea p.enums.length p.ec) ∧ y.cell? ⟨w.heap.size, 2, none⟩ = some (.slice p.fa p.funcs.length p.fc) := M.out.cells
  clear hq
  refine hK.out _ _ sS (fun hHeld => ?_)
  clear hK K
  (try simp only [Act.put, List.getElem_toArray, List.getElem_cons_succ, List.getElem_cons_zero, List.setIfInBounds_toArray, List.set_cons_zero, List.set_cons_succ])
  refine wpAnyH_take (i := 2) (v := ?vv2) rfl (by kernel_rfl) (by kernel_rfl) (by kernel_rfl) (fun _ _ _ h => h) (Or.inl ⟨by rfl, ?yy2⟩) (by assumption) ?rr2
  case yy2 => intro w hSw; (try dsimp only at hSw); go_simp; first | done | with_reducible rfl
  (try simp only [Act.put, List.getElem_toArray, List.getElem_cons_succ, List.getElem_cons_zero, List.setIfInBounds_toArray, List.set_cons_zero, List.set_cons_succ])
  refine wpAnyH_take (i := 3) (v := undef) rfl (by kernel_rfl) (by kernel_rfl) (by kernel_rfl) (fun _ _ _ h => h) (Or.inr ⟨by rfl, rfl⟩) (by assumption) ?_
  (try simp only [Act.put, List.getElem_toArray, List.getElem_cons_succ, List.getElem_cons_zero, List.setIfInBounds_toArray, List.set_cons_zero, List.set_cons_succ])
  refine wpAnyH_take (i := 5) (v := undef) rfl (by kernel_rfl) (by kernel_rfl) (by kernel_rfl) (fun _ _ _ h => h) (Or.inr ⟨by rfl, rfl⟩) (by assumption) ?_
  (try simp only [Act.put, List.getElem_toArray, List.getElem_cons_succ, List.getElem_cons_zero, List.setIfInBounds_toArray, List.set_cons_zero, List.set_cons_succ])
  refine wpAnyH_ready (rs := [4]) (by kernel_rfl) (by simp) ?_
  refine AllReadyH.cons rfl (fun K hK => ?_) AllReadyH.nil
  go_simp
  refine hK.out _ _ (by assumption) (fun hHeld => ?_)
  clear hK K
  (try simp only [Act.put, List.getElem_toArray, List.getElem_cons_succ, List.getElem_cons_zero, List.setIfInBounds_toArray, List.set_cons_zero, List.set_cons_succ])
  refine wpAnyH_ready (rs := [6]) (by kernel_rfl) (by simp) ?_
  refine AllReadyH.cons rfl (fun K hK => ?_) AllReadyH.nil
  go_simp
  refine hK.out _ _ (by assumption) (fun hHeld => ?_)
  clear hK K
  (try simp only [Act.put, List.getElem_toArray, List.getElem_cons_succ, List.getElem_cons_zero, List.setIfInBounds_toArray, List.set_cons_zero, List.set_cons_succ])
  refine wpAnyH_take (i := 7) (v := undef) rfl (by kernel_rfl) (by kernel_rfl) (by kernel_rfl) (fun _ _ _ h => h) (Or.inr ⟨by rfl, rfl⟩) (by assumption) ?_
  (try simp only [Act.put, List.getElem_toArray, List.getElem_cons_succ, List.getElem_cons_zero, List.setIfInBounds_toArray, List.set_cons_zero, List.set_cons_succ])
  refine wpAnyH_take (i := 8) (v := ?vv8) rfl (by kernel_rfl) (by kernel_rfl) (by kernel_rfl) (fun _ _ _ h => h) (Or.inl ⟨by rfl, ?yy8⟩) (by assumption) ?rr8
  case yy8 => intro w hSw; (try dsimp only at hSw); go_simp; first | done | with_reducible rfl
  (try simp only [Act.put, List.getElem_toArray, List.getElem_cons_succ, List.getElem_cons_zero, List.setIfInBounds_toArray, List.set_cons_zero, List.set_cons_succ])
  refine wpAnyH_take (i := 9) (v := ?vv9) rfl (by kernel_rfl) (by kernel_rfl) (by kernel_rfl) (fun _ _ _ h => h) (Or.inl ⟨by rfl, ?yy9⟩) (by assumption) ?rr9
  case yy9 => intro w hSw; (try dsimp only at hSw); go_simp; first | done | with_reducible rfl
  (try simp only [Act.put, List.getElem_toArray, List.getElem_cons_succ, List.getElem_cons_zero, List.setIfInBounds_toArray, List.set_cons_zero, List.set_cons_succ])
  refine wpAnyH_done (by kernel_rfl) ?_ _
  (try simp only [Act.put, List.getElem_toArray, List.getElem_cons_succ, List.getElem_cons_zero, List.setIfInBounds_toArray])
  go_wp2
  go_ret
  exact ⟨rfl, M.out.bel⟩
 | false =>
  as_aux_lemma =>
  cases V <;> (
  go_region_held3 (fun W => W.cell? ⟨w.heap.size, 0, none⟩ = some (.slice p.sa p.structs.length p.sc) ∧ W.cell? ⟨w.heap.size, 1, none⟩ = some (.slice p.ea p.enums.length p.ec) ∧ W.cell? ⟨w.heap.size, 2, none⟩ = some (.slice p.fa p.funcs.length p.fc)) (go_keep)
   (first
   | (go_at_call 19; refine (C19.out _ M.out.bel).mono ?_; rintro e y ⟨rfl, hq⟩; have M := hidIt (M.out.on hq); have sS : y.cell? ⟨w.heap.size, 0, none⟩ = some (.slice p.sa p.structs.length p.sc) ∧ y.cell? ⟨w.heap.size, 1, none⟩ = some (.slice p.ea p.enums.length p.ec) ∧ y.cell? ⟨w.heap.size, 2, none⟩ = some (.slice p.fa p.funcs.length p.fc) := M.out.cells; clear hq)
   | (go_at_call 20; refine (C20.out _ M.out.bel).mono ?_; rintro e y ⟨rfl, hq⟩; have M := hidIt (M.out.on hq); have sS : y.cell? ⟨w.heap.size, 0, none⟩ = some (.slice p.sa p.structs.length p.sc) ∧ y.cell? ⟨w.heap.size, 1, none⟩ = some (.slice p.ea p.enums.length p.ec) ∧ y.cell? ⟨w.heap.size, 2, none⟩ = some (.slice p.fa p.funcs.length p.fc) := M.out.cells; clear hq)
   | (go_at_call 21; refine (C21.out _ M.out.bel).mono ?_; rintro e y ⟨rfl, hq⟩; have M := hidIt (M.out.on hq); have sS : y.cell? ⟨w.heap.size, 0, none⟩ = some (.slice p.sa p.structs.length p.sc) ∧ y.cell? ⟨w.heap.size, 1, none⟩ = some (.slice p.ea p.enums.length p.ec) ∧ y.cell? ⟨w.heap.size, 2, none⟩ = some (.slice p.fa p.funcs.length p.fc) := M.out.cells; clear hq))
  go_wp2
  go_ret
  exact ⟨rfl, M.out.bel⟩)
end Go.Proofs.YtlppbgmcoknliaaGreatDoor
