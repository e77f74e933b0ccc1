/-
  alive: it answers true.
-/
import Derived.Test.YtbjofdijhcdmaaaStage
namespace Go.Proofs.Ytbjofdijhcdmaaa
set_option linter.unusedVariables false
open Go.RowKit Go.Shelf
attribute [local go_sem] Oper.semAt_some

section
variable {w0 W : World} {Ex : Nat → Prop} {A : Nat}
theorem k1 (h : Stage w0 Ex A (newSl 4) W) : Calls Try.prog 15 #[.pointer (some ⟨A, 0, none⟩), .int .i64 2] W fun e w' => e = .returned (.tuple #[.int .u64 4611686018427387904, .int .i64 0]) ∧ Stage w0 Ex A S1 w' ∧ Held Ex W w' := by
  have := h.did (fun fp hR => get_any hR i0.1 (i0.2.mono (by omega)) 2)
  rw [r1] at this
  exact this
theorem k2 (h : Stage w0 Ex A S1 W) : Calls Try.prog 15 #[.pointer (some ⟨A, 0, none⟩), .int .i64 3] W fun e w' => e = .returned (.tuple #[.int .u64 0, .int .i64 13]) ∧ Stage w0 Ex A S1 w' ∧ Held Ex W w' := by
  have := h.did (fun fp hR => get_any hR i1.1 (i1.2.mono (by omega)) 3)
  rw [r2] at this
  exact this
theorem k3 (h : Stage w0 Ex A S1 W) : Calls Try.prog 20 #[.pointer (some ⟨A, 0, none⟩), .int .u64 4611686018427387904, .int .i64 1] W fun e w' => e = .returned (.tuple #[.int .u64 4611686018427387905, .int .i64 0]) ∧ W = w' := by
  obtain ⟨fp, hR⟩ := h.rep
  have := off_any hR i1.1 (i1.2.mono (by omega)) 4611686018427387904 1 (by omega) (by omega)
  rw [r3] at this
  exact this
theorem k4 (h : Stage w0 Ex A S1 W) : Calls Try.prog 16 #[.pointer (some ⟨A, 0, none⟩), .int .u64 4611686018427387905, .int .i64 7] W fun e w' => e = .returned (.int .i64 0) ∧ Stage w0 Ex A S2 w' ∧ Held Ex W w' := by
  have := h.did (fun fp hR => store_any hR i1.1 (i1.2.mono (by omega)) 4611686018427387905 7 (by omega) (by omega))
  rw [r4] at this
  exact this
theorem k5 (h : Stage w0 Ex A S2 W) : Calls Try.prog 18 #[.pointer (some ⟨A, 0, none⟩), .int .u64 4611686018427387905] W fun e w' => e = .returned (.tuple #[.int .i64 7, .int .i64 0]) ∧ W = w' := by
  obtain ⟨fp, hR⟩ := h.rep
  have := load_any hR i2.1 (i2.2.mono (by omega)) 4611686018427387905 (by omega) (by omega)
  rw [r5] at this
  exact this
theorem k6 (h : Stage w0 Ex A S2 W) : Calls Try.prog 18 #[.pointer (some ⟨A, 0, none⟩), .int .u64 4611686018427387904] W fun e w' => e = .returned (.tuple #[.int .i64 0, .int .i64 15]) ∧ W = w' := by
  obtain ⟨fp, hR⟩ := h.rep
  have := load_any hR i2.1 (i2.2.mono (by omega)) 4611686018427387904 (by omega) (by omega)
  rw [r6] at this
  exact this
theorem k7 (h : Stage w0 Ex A S2 W) : Calls Try.prog 17 #[.pointer (some ⟨A, 0, none⟩), .int .u64 4611686018427387905] W fun e w' => e = .returned (.int .i64 11) ∧ Stage w0 Ex A S2 w' ∧ Held Ex W w' := by
  have := h.did (fun fp hR => free_any hR i2.1 (i2.2.mono (by omega)) 4611686018427387905 (by omega) (by omega))
  rw [r7] at this
  exact this
theorem k8 (h : Stage w0 Ex A S2 W) : Calls Try.prog 17 #[.pointer (some ⟨A, 0, none⟩), .int .u64 4611686018427387904] W fun e w' => e = .returned (.int .i64 0) ∧ Stage w0 Ex A S3 w' ∧ Held Ex W w' := by
  have := h.did (fun fp hR => free_any hR i2.1 (i2.2.mono (by omega)) 4611686018427387904 (by omega) (by omega))
  rw [r8] at this
  exact this
theorem k9 (h : Stage w0 Ex A S3 W) : Calls Try.prog 17 #[.pointer (some ⟨A, 0, none⟩), .int .u64 4611686018427387904] W fun e w' => e = .returned (.int .i64 14) ∧ Stage w0 Ex A S3 w' ∧ Held Ex W w' := by
  have := h.did (fun fp hR => free_any hR i3.1 (i3.2.mono (by omega)) 4611686018427387904 (by omega) (by omega))
  rw [r9] at this
  exact this
theorem k10 (h : Stage w0 Ex A S3 W) : Calls Try.prog 15 #[.pointer (some ⟨A, 0, none⟩), .int .i64 1] W fun e w' => e = .returned (.tuple #[.int .u64 4611686022722355200, .int .i64 0]) ∧ Stage w0 Ex A S4 w' ∧ Held Ex W w' := by
  have := h.did (fun fp hR => get_any hR i3.1 (i3.2.mono (by omega)) 1)
  rw [r10] at this
  exact this
theorem k11 (h : Stage w0 Ex A S4 W) : Calls Try.prog 18 #[.pointer (some ⟨A, 0, none⟩), .int .u64 4611686022722355201] W fun e w' => e = .returned (.tuple #[.int .i64 0, .int .i64 12]) ∧ W = w' := by
  obtain ⟨fp, hR⟩ := h.rep
  have := load_any hR i4.1 (i4.2.mono (by omega)) 4611686022722355201 (by omega) (by omega)
  rw [r11] at this
  exact this
theorem k13 {fp : Nat → Prop} (hR : Rep W A S2 fp) : Calls Try.prog 23 #[.pointer (some ⟨A, 0, none⟩), .int .u64 4611686018427387905] W fun e w' => e = .returned (.tuple #[.int .i64 2, .int .i64 0]) ∧ W = w' := by
  have := size_any hR i2.1 (i2.2.mono (by omega)) 4611686018427387905 (by omega) (by omega)
  rw [r13] at this
  exact this
theorem k14 {fp : Nat → Prop} (hR : Rep W A S2 fp) : Calls Try.prog 21 #[.pointer (some ⟨A, 0, none⟩), .int .u64 4611686018427387905] W fun e w' => e = .returned (.int .i64 0) ∧ Kp fp W w' := by
  have := blank_any hR i2.1 (i2.2.mono (by omega)) 4611686018427387905 (by omega) (by omega)
  rw [r14] at this
  exact this.mono fun e w' h => ⟨h.1, h.2.2⟩
theorem k15 {fp : Nat → Prop} (hR : Rep W A S4 fp) : Calls Try.prog 19 #[.pointer (some ⟨A, 0, none⟩)] W fun e w' => e = .returned (.int .i64 1) ∧ W = w' := live_any hR
theorem k16 {fp : Nat → Prop} (hR : Rep W A S4 fp) : Calls Try.prog 22 #[.pointer (some ⟨A, 0, none⟩)] W fun e w' => e = .returned (.int .i64 1) ∧ W = w' := used_any hR
theorem k17 {fp : Nat → Prop} (hR : Rep W A S2 fp) : Calls Try.prog 19 #[.pointer (some ⟨A, 0, none⟩)] W fun e w' => e = .returned (.int .i64 1) ∧ W = w' := live_any hR
end

set_option maxRecDepth 100000 in
set_option maxHeartbeats 4000000 in
theorem alive_in (n : Nat) (hn : Hid (3 ≤ n)) (w : World) : CallsIn Fence.wide n Try.prog 8 #[] w fun e w' => e = .returned (.bool true) ∧ Below w.heap.size w w' := by
  refine callsIn_of_wp_marks Try.func8 rfl trivial ?_ rfl
  simp only [Try.ntmps8, List.size_toArray, List.length_nil, Nat.reduceSub, Array.replicate_succ, Array.replicate_zero, List.push_toArray, List.append_toArray, List.nil_append, List.cons_append]
  gi_wp2_with fail
  refine at_wide ((new_any 4 _ (by omega)).mono ?_)
  rintro e w1 ⟨rfl, hR, hk⟩
  obtain ⟨hS, hH⟩ := Stage.new (w0 := w) (Ex := fun k => k = w.heap.size) ((Below.refl _ w).alloc (Nat.le_refl _) _) (fun k he => by subst he; simp) hR hk
  simp only [World.size_alloc] at hS
  have cR : w1.cell? ⟨w.heap.size, 0, none⟩ = some (.bool false) := hH.cell rfl (by simp)
  have zR : w1.frozen? ⟨w.heap.size, 0, none⟩ = false := hH.frozen rfl (by simp)
  have HS1 := hidIt hS
  clear hR hk hS hH
  gi_wp2_with fail
  refine at_wide ((new_err (-1) _ (by omega)).mono ?_)
  rintro e w' ⟨rfl, rfl⟩
  gi_wp2_with fail
  refine at_wide ((k1 HS1.out).mono ?_)
  rintro e w2 ⟨rfl, hS, hH⟩
  replace cR := hH.cell rfl cR
  replace zR := hH.frozen rfl zR
  have HS2 := hidIt (hS.box (.cells #[.int .u64 4611686018427387904] 45))
  have hlt : w.heap.size < w2.heap.size := World.block_lt_of_cell? w2 _ cR
  clear hS hH HS1
  gi_wp2_with fail
  refine at_wide ((k2 HS2.out).mono ?_)
  rintro e w3 ⟨rfl, hS, hH⟩
  replace cR := hH.cell (.inl rfl) ((World.cell?_of_block (w := w2) (Below.heap_alloc w2 _ _ hlt)).trans cR)
  replace zR := hH.frozen (.inl rfl) ((World.frozen?_of_block (w := w2) (Below.heap_alloc w2 _ _ hlt)).trans zR)
  have cA : w3.cell? ⟨w2.heap.size, 0, none⟩ = some (.int .u64 4611686018427387904) := hH.cell (.inr rfl) (by simp)
  have HS3 := hidIt hS
  clear hS hH HS2
  gi_wp2_with fail
  refine at_wide ((k3 HS3.out).mono ?_)
  rintro e w' ⟨rfl, rfl⟩
  gi_wp2_with fail
  refine at_wide ((k4 HS3.out).mono ?_)
  rintro e w4 ⟨rfl, hS, hH⟩
  replace cR := hH.cell (.inl rfl) cR
  replace zR := hH.frozen (.inl rfl) zR
  replace cA := hH.cell (.inr rfl) cA
  have HS4 := hidIt hS
  have hlt4 : w.heap.size < w4.heap.size := World.block_lt_of_cell? w4 _ cR
  clear hS hH HS3
  gi_wp2_with fail
  refine at_wide ((k5 HS4.out).mono ?_)
  rintro e w' ⟨rfl, rfl⟩
  gi_wp2_with fail
  refine at_wide ((k6 HS4.out).mono ?_)
  rintro e w' ⟨rfl, rfl⟩
  gi_wp2_with fail
  obtain ⟨fp4, hR4⟩ := HS4.out.rep
  refine at_wide ((clone_any hR4 i2.1 (i2.2.mono (by omega))).mono ?_)
  rintro e w5 ⟨C, rfl, hC1, hRC, hk5⟩
  obtain ⟨hS, hH⟩ := HS4.out.cloned hk5
  replace cR := hH.cell (.inl rfl) cR
  replace zR := hH.frozen (.inl rfl) zR
  replace cA := hH.cell (.inr rfl) cA
  have HS5 := hidIt hS
  have HC5 := hidIt hRC
  clear hS hH HS4 hk5 hRC hR4 fp4
  gi_wp2_with fail
  refine at_wide ((k7 HS5.out).mono ?_)
  rintro e w6 ⟨rfl, hS, hH⟩
  replace cR := hH.cell (.inl (.inl rfl)) cR
  replace zR := hH.frozen (.inl (.inl rfl)) zR
  replace cA := hH.cell (.inl (.inr rfl)) cA
  have HC6 := hidIt (HC5.out.frame hH.1 fun k hk => hH.2 k (.inr hk))
  have HS6 := hidIt hS
  clear hS hH HS5 HC5
  gi_wp2_with fail
  refine at_wide ((k8 HS6.out).mono ?_)
  rintro e w7 ⟨rfl, hS, hH⟩
  replace cR := hH.cell (.inl (.inl rfl)) cR
  replace zR := hH.frozen (.inl (.inl rfl)) zR
  replace cA := hH.cell (.inl (.inr rfl)) cA
  have HC7 := hidIt (HC6.out.frame hH.1 fun k hk => hH.2 k (.inr hk))
  have HS7 := hidIt hS
  clear hS hH HS6 HC6
  gi_wp2_with fail
  refine at_wide ((k9 HS7.out).mono ?_)
  rintro e w8 ⟨rfl, hS, hH⟩
  replace cR := hH.cell (.inl (.inl rfl)) cR
  replace zR := hH.frozen (.inl (.inl rfl)) zR
  replace cA := hH.cell (.inl (.inr rfl)) cA
  have HC8 := hidIt (HC7.out.frame hH.1 fun k hk => hH.2 k (.inr hk))
  have HS8 := hidIt hS
  clear hS hH HS7 HC7
  gi_wp2_with fail
  refine at_wide ((k10 HS8.out).mono ?_)
  rintro e w9 ⟨rfl, hS, hH⟩
  replace cR := hH.cell (.inl (.inl rfl)) cR
  replace zR := hH.frozen (.inl (.inl rfl)) zR
  replace cA := hH.cell (.inl (.inr rfl)) cA
  have HC9 := hidIt (HC8.out.frame hH.1 fun k hk => hH.2 k (.inr hk))
  have HS9 := hidIt hS
  clear hS hH HS8 HC8
  gi_wp2_with fail
  refine at_wide ((k11 HS9.out).mono ?_)
  rintro e w' ⟨rfl, rfl⟩
  have HB9 := hidIt HS9.out.below
  gi_wp2_with fail
  refine at_wide ((all_any _ _).mono ?_)
  rintro e w' ⟨rfl, rfl⟩
  gi_wp2_with fail
  have hM : ((w9.alloc (.cells #[.int .i64 0] 3)).alloc (.cells #[.pointer (some ⟨C, 0, none⟩)] 27)).cell? ⟨w9.heap.size, 0, none⟩ = some (.int .i64 0) := by simp
  have hMf : ((w9.alloc (.cells #[.int .i64 0] 3)).alloc (.cells #[.pointer (some ⟨C, 0, none⟩)] 27)).frozen? ⟨w9.heap.size, 0, none⟩ = false := by simp
  have hBx : ((w9.alloc (.cells #[.int .i64 0] 3)).alloc (.cells #[.pointer (some ⟨C, 0, none⟩)] 27)).cell? ⟨w9.heap.size + 1, 0, none⟩ = some (.pointer (some ⟨C, 0, none⟩)) := by simp
  have hB0 : Below w9.heap.size w9 ((w9.alloc (.cells #[.int .i64 0] 3)).alloc (.cells #[.pointer (some ⟨C, 0, none⟩)] 27)) := ((Below.refl _ w9).alloc (Nat.le_refl _) _).alloc (by simp) _
  have hRC0 : Rep ((w9.alloc (.cells #[.int .i64 0] 3)).alloc (.cells #[.pointer (some ⟨C, 0, none⟩)] 27)) C S2 (fun k => w4.heap.size ≤ k ∧ k < w5.heap.size) := HC9.out.frame hB0.size fun k hk => hB0.block k (HC9.out.lt k hk)
  have hSeq := all1_stops (n - 1) (w9.heap.size + 1) (w9.heap.size + 1) C S2 _ [(4611686018427387904, 2)] r12 _ hBx hRC0 i2.1 (i2.2.mono (by omega)) (by simp)
  have h1n : 1 ≤ n := by have := hn.out; omega
  apply wpIn_rangeFunc_ownF (F := Fence.wide) rfl h1n (gf := 44) (lb := #[.pointer (some ⟨w9.heap.size + 1, 0, none⟩)]) rfl trivial (enters_of Try.func44 (by kernel_rfl) rfl) hSeq KpC.t (KpC.b (w := ((w9.alloc (.cells #[.int .i64 0] 3)).alloc (.cells #[.pointer (some ⟨C, 0, none⟩)] 27)))) (Below.refl _ _) (fun _ => rfl)
    (fun pre W => (W.cell? ⟨w9.heap.size, 0, none⟩ = some (.int .i64 pre.length) ∧ W.frozen? ⟨w9.heap.size, 0, none⟩ = false) ∧ Below w9.heap.size w9 W)
    (fun _ _ _ => False)
    (OwnFrom.and (Own.from (fun s A B row hs hg hr => ⟨cell_kept hs.1 hg hr, (frozen_kept hs.1 hg hr).trans hs.2⟩) _) (ownFrom_below (Nat.le_refl _) (by simp; omega)))
    (fun _ _ _ _ _ hs _ _ => hs)
    ⟨⟨hM, hMf⟩, hB0⟩
  case hassign =>
    intro l x W K hK
    have HK := hidIt hK
    clear hK
    simp only [encEl]
    gi_wp2
    exact HK.out
  case hbody =>
    rintro l pre ⟨⟨x1, x2⟩, hx⟩ W ⟨⟨hc, hf⟩, hB⟩ hlen
    simp only [List.mem_singleton, Prod.mk.injEq] at hx
    obtain ⟨rfl, rfl⟩ := hx
    have hp : pre = [] := List.eq_nil_of_length_eq_zero (by simp at hlen; simp [hlen])
    subst hp
    have cA' : W.cell? ⟨w2.heap.size, 0, none⟩ = some (.int .u64 4611686018427387904) := (hB.cell (p := ⟨w2.heap.size, 0, none⟩) (World.block_lt_of_cell? w9 _ cA)).trans cA
    have HB := hidIt hB
    clear hB hSeq hRC0 hM hMf hBx hB0 cA cR zR HC9 HS9 HB9
    simp only [List.length_nil] at hc
    gi_wp2
    refine ⟨KeepsOthers.setCell _ _ _, ⟨Nat.le_of_eq (size_setCell' _ _ _).symm, fun k cs t fr hk hcs => ?_⟩, ⟨?_, ?_⟩, HB.out.setCell (p := ⟨w9.heap.size, 0, none⟩) (Nat.le_refl _) _⟩
    · rw [heap_setCell_other W ⟨w9.heap.size, 0, none⟩ k _ (show k ≠ w9.heap.size by omega)]
      exact hcs
    · exact World.cell?_setCell_same' _ _ _ (by rw [hc]; rfl)
    · rw [World.frozen?_setCell]
      exact hf
  case hdone =>
    rintro D xs W hD rfl ⟨⟨hc, hf⟩, hB⟩ hK
    have hDs : w9.heap.size < D := by simp at hD; omega
    have hRC : Rep W C S2 (fun k => w4.heap.size ≤ k ∧ k < w5.heap.size) := HC9.out.frame hB.size fun k hk => hB.block k (HC9.out.lt k hk)
    obtain ⟨fpS, hRS9⟩ := HS9.out.rep
    have hRS : Rep W (w.heap.size + 1) S4 fpS := hRS9.frame hB.size fun k hk => hB.block k (hRS9.lt k hk)
    have cA' : W.cell? ⟨w2.heap.size, 0, none⟩ = some (.int .u64 4611686018427387904) := (hB.cell (p := ⟨w2.heap.size, 0, none⟩) (World.block_lt_of_cell? w9 _ cA)).trans cA
    have hRlt : w.heap.size < w9.heap.size := World.block_lt_of_cell? w9 _ cR
    have cR' : W.cell? ⟨w.heap.size, 0, none⟩ = some (.bool false) := (hB.cell (p := ⟨w.heap.size, 0, none⟩) hRlt).trans cR
    have zR' : W.frozen? ⟨w.heap.size, 0, none⟩ = false := (hB.frozen (p := ⟨w.heap.size, 0, none⟩) hRlt).trans zR
    have hc' : W.cell? ⟨w9.heap.size, 0, none⟩ = some (.int .i64 1) := hc
    have hWD : D < W.heap.size := lt_of_block hK
    have hBw : Below w.heap.size w W := HB9.out.trans (hB.mono (by omega))
    have HKD := hidIt hK
    have HBw := hidIt hBw
    have HRC := hidIt hRC
    have HRS := hidIt hRS
    have hfpC : Hid (∀ k, w4.heap.size ≤ k ∧ k < w5.heap.size → k < w9.heap.size) := fun k hk => HC9.out.lt k hk
    clear hB hK hBw hRC hRS hRS9 hSeq hRC0 hM hMf hBx hB0 cA cR zR HC9 HS9 HB9 hc hf hD h1n
    gi_wp2_with fail
    refine at_wide ((k13 HRC.out).mono ?_)
    rintro e w' ⟨rfl, rfl⟩
    gi_wp2_with fail
    refine at_wide ((k15 HRS.out).mono ?_)
    rintro e w' ⟨rfl, rfl⟩
    gi_wp2_with fail
    refine at_wide ((k16 HRS.out).mono ?_)
    rintro e w' ⟨rfl, rfl⟩
    gi_wp2_with fail
    refine at_wide ((k17 HRC.out).mono ?_)
    rintro e w' ⟨rfl, rfl⟩
    gi_wp2_with fail
    refine at_wide ((k14 HRC.out).mono ?_)
    rintro e wz ⟨rfl, hkz⟩
    have cRz : wz.cell? ⟨w.heap.size, 0, none⟩ = some (.bool false) := hkz.cell cR' (fun h => by have := h.1; simp only at this; omega)
    have zRz : wz.frozen? ⟨w.heap.size, 0, none⟩ = false := (World.frozen?_of_block (w := W) (hkz.block w.heap.size (World.block_lt_of_cell? W _ cR') (fun h => by have := h.1; omega))).trans zR'
    have hKz : wz.heap[D]? = some (.deferred (some [])) := (hkz.block D hWD (fun h => by have := hfpC.out D h; omega)).trans HKD.out
    have hBz : Below w.heap.size w wz := HBw.out.trans (hkz.below HBw.out.size fun k hk => by have := hk.1; omega)
    have HKz := hidIt hKz
    have HBz := hidIt hBz
    clear hkz hKz hBz HKD HBw HRC HRS hfpC cR' zR' cA' hc'
    gi_wp2
    have hK' := (KeepsOthers.setCell wz ⟨w.heap.size, 0, none⟩ (.bool true)).same D _ HKz.out rfl
    refine ⟨by simp, .inl ⟨_, _, rfl, run_takeDeferred hK', ?_⟩⟩
    have hc5 := cell_kept (World.cell?_setCell_same' wz ⟨w.heap.size, 0, none⟩ (.bool true) (by rw [cRz]; rfl)) (grownBy_putObj' _ D (.deferred none)) (fun r e => by cases e; exact ⟨_, hK', rfl⟩)
    refine ⟨.bool true, ?_, rfl, (HBz.out.setCell (p := ⟨w.heap.size, 0, none⟩) (Nat.le_refl _) _).trans (belowK_b (w := w) (Nat.le_refl _) _ D _ _ (by omega) hK' rfl rfl)⟩
    simp [results, Try.f8, go_sem, hc5]
  case hstop =>
    rintro D c pre W _ _ h _
    exact h.elim
end Go.Proofs.Ytbjofdijhcdmaaa
