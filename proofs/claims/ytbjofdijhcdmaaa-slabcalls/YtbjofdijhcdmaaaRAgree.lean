/-
  The walk of agree: the slab has what the document's slab has.
-/
import Derived.Test.YtbjofdijhcdmaaaRAll
import Derived.Test.YtbjofdijhcdmaaaBuilt
namespace Go.Proofs.Ytbjofdijhcdmaaa
set_option linter.unusedVariables false
open Go.RowKit Go.Shelf
attribute [local go_sem] Oper.semAt_some

theorem prefix_at {L : List (Int × Int)} {pre : List (El L)} {x : El L} (h : pre ++ [x] <+: L.attach) (hl : pre.length < L.length) : x.1 = L[pre.length] := by
  obtain ⟨t, ht⟩ := h
  have h1 : (pre ++ [x] ++ t)[pre.length]? = some x := by simp
  rw [ht] at h1
  simp [hl] at h1
  rw [← h1]

set_option maxRecDepth 100000 in
set_option maxHeartbeats 8000000 in
theorem agree_in (n : Nat) (hn : Hid (3 ≤ n)) {w : World} {A R N : Nat} {st : Sl} {rs : RS} {fS fR : Nat → Prop} (hS : Rep w A st fS) (hR : RRep w R rs fR) (sim : Sim N st rs) (hv : Inv st) (hm : Small st N) (hN : N ≤ 800000) :
    CallsIn Fence.wide n Try.prog 12 #[.pointer (some ⟨A, 0, none⟩), .pointer (some ⟨R, 0, none⟩)] w fun e w' => e = .returned (.bool true) ∧ Below w.heap.size w w' := by
  have hok := sim.ok hv hm (by omega)
  have hB0 : Below w.heap.size w (w.alloc (.cells #[.bool false] 4)) := (Below.refl _ w).alloc (Nat.le_refl _) _
  have hR0 : RRep (w.alloc (.cells #[.bool false] 4)) R rs fR := hR.frame hB0.size fun k hk => hB0.block k (hR.lt k hk)
  have c32 := hidIt (rall_any hR0 hok)
  rw [sim_all sim hv] at c32
  have hLl : (pcs st.ents 0).length ≤ 900000 := by
    rw [pcs_length]
    have := List.countP_le_length (p := taken) (l := st.ents)
    have := hm.ents
    omega
  obtain ⟨L, hLp⟩ : ∃ L, Hid (pcs st.ents 0 = L) := ⟨_, hidIt rfl⟩
  rw [hLp.out] at c32 hLl
  have HSl := hidIt hS
  have HRf := hidIt hR
  have Hsim := hidIt sim
  have Hv := hidIt hv
  have Hm := hidIt hm
  have Hok := hidIt hok
  have cr0 : (w.alloc (.cells #[.bool false] 4)).cell? ⟨w.heap.size, 0, none⟩ = some (.bool false) := by simp
  have zr0 : (w.alloc (.cells #[.bool false] 4)).frozen? ⟨w.heap.size, 0, none⟩ = false := by simp
  have Hcr0 := hidIt (And.intro cr0 zr0)
  have HB0 := hidIt hB0
  clear hS hR sim hv hm hok hR0 cr0 zr0 hB0
  refine callsIn_of_wp_marks Try.func12 rfl trivial ?_ rfl
  simp only [Try.ntmps12, List.size_toArray, List.length_cons, List.length_nil, Nat.reduceAdd, Nat.reduceSub, Array.replicate_succ, Array.replicate_zero, List.push_toArray, List.append_toArray, List.nil_append, List.cons_append]
  gi_wp2_with fail
  refine at_wide (c32.out.mono ?_)
  rintro e w1 ⟨va, vs, rfl, hT⟩
  obtain ⟨aa, ca, rfl, hga, _⟩ := own_shape hT.ra
  obtain ⟨az, cz, rfl, hgs, _⟩ := own_shape hT.rs
  have hk1 := hT.kp
  have hlt1 : w.heap.size < w1.heap.size := by have := hk1.size; simp at this; omega
  have hK2 : Kp (fun _ => False) w1 ((w1.alloc (.cells #[.slice aa L.length ca] 34)).alloc (.cells #[.slice az L.length cz] 41)) := ((Kp.refl _ _).al _).al _
  have hKw : Kp (fun _ => False) w ((w1.alloc (.cells #[.slice aa L.length ca] 34)).alloc (.cells #[.slice az L.length cz] 41)) := ((Kp.alloc _ w _).trans' hk1).trans' hK2
  have cR : ((w1.alloc (.cells #[.slice aa L.length ca] 34)).alloc (.cells #[.slice az L.length cz] 41)).cell? ⟨w.heap.size, 0, none⟩ = some (.bool false) := hK2.cell (p := ⟨w.heap.size, 0, none⟩) (hk1.cell (p := ⟨w.heap.size, 0, none⟩) Hcr0.out.1 id) id
  have zR : ((w1.alloc (.cells #[.slice aa L.length ca] 34)).alloc (.cells #[.slice az L.length cz] 41)).frozen? ⟨w.heap.size, 0, none⟩ = false := (World.frozen?_of_block (w := w1) (hK2.block _ hlt1 id)).trans ((World.frozen?_of_block (w := w.alloc _) (hk1.block _ (by simp) id)).trans Hcr0.out.2)
  have cA : ((w1.alloc (.cells #[.slice aa L.length ca] 34)).alloc (.cells #[.slice az L.length cz] 41)).cell? ⟨w1.heap.size, 0, none⟩ = some (.slice aa L.length ca) := by simp
  have cS : ((w1.alloc (.cells #[.slice aa L.length ca] 34)).alloc (.cells #[.slice az L.length cz] 41)).cell? ⟨w1.heap.size + 1, 0, none⟩ = some (.slice az L.length cz) := by simp
  have rA := hK2.row hT.ra
  have rS := hK2.row hT.rs
  have HrA := hidIt rA
  have HrS := hidIt rS
  have hSz : w1.heap.size + 1 < ((w1.alloc (.cells #[.slice aa L.length ca] 34)).alloc (.cells #[.slice az L.length cz] 41)).heap.size := by simp
  have Hz : Hid (((w1.alloc (.cells #[.slice aa L.length ca] 34)).alloc (.cells #[.slice az L.length cz] 41)).heap.size = w1.heap.size + 1 + 1) := by show _ = _; simp
  have HKw := hidIt hKw
  clear hT hk1 hK2 rA rS Hcr0 HB0 c32 hKw
  gi_wp2_with fail
  generalize ((w1.alloc (.cells #[.slice aa L.length ca] 34)).alloc (.cells #[.slice az L.length cz] 41)) = w9 at *
  refine at_wide ((all_any _ _).mono ?_)
  rintro e w' ⟨rfl, rfl⟩
  gi_wp2_with fail
  have hM : ((w9.alloc (.cells #[.int .i64 0] 3)).alloc (.cells #[.pointer (some ⟨A, 0, none⟩)] 27)).cell? ⟨w9.heap.size, 0, none⟩ = some (.int .i64 0) := by simp
  have hMf : ((w9.alloc (.cells #[.int .i64 0] 3)).alloc (.cells #[.pointer (some ⟨A, 0, none⟩)] 27)).frozen? ⟨w9.heap.size, 0, none⟩ = false := by simp
  have hBx : ((w9.alloc (.cells #[.int .i64 0] 3)).alloc (.cells #[.pointer (some ⟨A, 0, none⟩)] 27)).cell? ⟨w9.heap.size + 1, 0, none⟩ = some (.pointer (some ⟨A, 0, none⟩)) := by simp
  have hB0 : Below w9.heap.size w9 ((w9.alloc (.cells #[.int .i64 0] 3)).alloc (.cells #[.pointer (some ⟨A, 0, none⟩)] 27)) := ((Below.refl _ w9).alloc (Nat.le_refl _) _).alloc (by simp) _
  have hS9 : Rep w9 A st fS := HSl.out.other HKw.out (fun _ _ h => h)
  have hR9 : RRep w9 R rs fR := HRf.out.other HKw.out (fun _ _ h => h)
  have HS9 := hidIt hS9
  have HR9 := hidIt hR9
  have hS0 : Rep ((w9.alloc (.cells #[.int .i64 0] 3)).alloc (.cells #[.pointer (some ⟨A, 0, none⟩)] 27)) A st fS := hS9.frame hB0.size fun k hk => hB0.block k (hS9.lt k hk)
  have hSeq := all1_stops (n - 1) (w9.heap.size + 1) (w9.heap.size + 1) A st _ L hLp.out _ hBx hS0 Hv.out (Hm.out.mono (by omega)) (by simp)
  have h1n : 1 ≤ n := by have := hn.out; omega
  clear hS9 hR9 HSl HRf
  apply wpIn_rangeFunc_ownF (F := Fence.wide) rfl h1n (gf := 44) (lb := #[.pointer (some ⟨w9.heap.size + 1, 0, none⟩)]) rfl trivial (enters_of Try.func44 (by kernel_rfl) rfl) hSeq KpC.t (KpC.b (w := ((w9.alloc (.cells #[.int .i64 0] 3)).alloc (.cells #[.pointer (some ⟨A, 0, none⟩)] 27)))) (Below.refl _ _) (fun _ => rfl)
    (fun pre W => (W.cell? ⟨w9.heap.size, 0, none⟩ = some (.int .i64 pre.length) ∧ W.frozen? ⟨w9.heap.size, 0, none⟩ = false) ∧ Below w9.heap.size w9 W)
    (fun _ pre _ => ¬ (pre <+: L.attach))
    (OwnFrom.and (Own.from (fun s A B row hs hg hr => ⟨cell_kept hs.1 hg hr, (frozen_kept hs.1 hg hr).trans hs.2⟩) _) (ownFrom_below (Nat.le_refl _) (by simp; omega)))
    (fun _ _ _ _ _ hs _ _ => hs)
    ⟨⟨hM, hMf⟩, hB0⟩
  case hassign =>
    intro l x W K hK
    have HK := hidIt hK
    clear hK
    simp only [encEl]
    gi_wp2
    exact HK.out
  case hbody =>
    rintro l pre ⟨⟨x1, x2⟩, hx⟩ W ⟨⟨hc, hf⟩, hB⟩ hlen
    have Hpre : Hid (pre ++ [⟨(x1, x2), hx⟩] <+: L.attach → (x1, x2) = L[pre.length]) := fun h => prefix_at h hlen
    have cA' : W.cell? ⟨w1.heap.size, 0, none⟩ = some (.slice aa L.length ca) := (hB.cell (p := ⟨w1.heap.size, 0, none⟩) (World.block_lt_of_cell? w9 _ cA)).trans cA
    have cS' : W.cell? ⟨w1.heap.size + 1, 0, none⟩ = some (.slice az L.length cz) := (hB.cell (p := ⟨w1.heap.size + 1, 0, none⟩) (World.block_lt_of_cell? w9 _ cS)).trans cS
    have cR' : W.cell? ⟨w.heap.size, 0, none⟩ = some (.bool false) := (hB.cell (p := ⟨w.heap.size, 0, none⟩) (World.block_lt_of_cell? w9 _ cR)).trans cR
    have zR' : W.frozen? ⟨w.heap.size, 0, none⟩ = false := (hB.frozen (p := ⟨w.heap.size, 0, none⟩) (World.block_lt_of_cell? w9 _ cR)).trans zR
    obtain ⟨ga, rfl⟩ := hga (by omega)
    obtain ⟨gz, rfl⟩ := hgs (by omega)
    have e1 : w9.cell? ⟨ga, pre.length, none⟩ = some (.int .u64 L[pre.length].1) := (HrA.out.cellAt pre.length (by omega)).trans (by simp [hlen])
    have e2 : w9.cell? ⟨gz, pre.length, none⟩ = some (.int .i64 L[pre.length].2) := (HrS.out.cellAt pre.length (by omega)).trans (by simp [hlen])
    have e1' := (hB.cell (p := ⟨ga, pre.length, none⟩) (World.block_lt_of_cell? w9 _ e1)).trans e1
    have e2' := (hB.cell (p := ⟨gz, pre.length, none⟩) (World.block_lt_of_cell? w9 _ e2)).trans e2
    have HB := hidIt hB
    have Hcf := hidIt (And.intro hc hf)
    rw [Hz.out] at hc hf
    clear hB hSeq hS0 hM hMf hBx hB0 cA cR zR cS HS9 HR9 e1 e2 HrA HrS Hok
    generalize L[pre.length] = y at e1' e2' Hpre
    obtain ⟨y1, y2⟩ := y
    simp only at e1' e2'
    have hli : (pre.length : Int) < (L.length : Int) := by omega
    by_cases h1 : x1 = y1
    · by_cases h2 : x2 = y2
      · subst h1 h2
        clear Hpre
        gi_wp2
        rw [← Hz.out]
        refine ⟨KeepsOthers.setCell _ _ _, ⟨Nat.le_of_eq (size_setCell' _ _ _).symm, fun k cs t fr hk hcs => ?_⟩, ⟨?_, ?_⟩, HB.out.setCell (p := ⟨w9.heap.size, 0, none⟩) (Nat.le_refl _) _⟩
        · rw [heap_setCell_other W ⟨w9.heap.size, 0, none⟩ k _ (show k ≠ w9.heap.size by omega)]
          exact hcs
        · rw [List.length_append, List.length_singleton]
          exact World.cell?_setCell_same' _ _ _ (by rw [Hcf.out.1]; rfl)
        · rw [World.frozen?_setCell]
          exact Hcf.out.2
      · have hb1 : (x1 == y1) = true := by simp [h1]
        have hb2 : (x2 == y2) = false := by simp [h2]
        have hb3 : (x2 != y2) = true := by simp [h2]
        gi_wp2
        refine ⟨KeepsOthers.setCell _ _ _, fun h => h2 ?_⟩
        have := Hpre.out h
        injection this
    · have hb1 : (x1 == y1) = false := by simp [h1]
      gi_wp2
      refine ⟨KeepsOthers.setCell _ _ _, fun h => h1 ?_⟩
      have := Hpre.out h
      injection this
  case hdone =>
    rintro D xs W hD rfl ⟨⟨hc, hf⟩, hB⟩ hK
    have hDs : w9.heap.size < D := by simp at hD; omega
    have hRS : Rep W A st fS := HS9.out.frame hB.size fun k hk => hB.block k (HS9.out.lt k hk)
    have hRR : RRep W R rs fR := HR9.out.frame hB.size fun k hk => hB.block k (HR9.out.lt k hk)
    have cA' : W.cell? ⟨w1.heap.size, 0, none⟩ = some (.slice aa L.length ca) := (hB.cell (p := ⟨w1.heap.size, 0, none⟩) (World.block_lt_of_cell? w9 _ cA)).trans cA
    have cR' : W.cell? ⟨w.heap.size, 0, none⟩ = some (.bool false) := (hB.cell (p := ⟨w.heap.size, 0, none⟩) (World.block_lt_of_cell? w9 _ cR)).trans cR
    have zR' : W.frozen? ⟨w.heap.size, 0, none⟩ = false := (hB.frozen (p := ⟨w.heap.size, 0, none⟩) (World.block_lt_of_cell? w9 _ cR)).trans zR
    rw [Hz.out, List.length_attach] at hc
    have hw9 : w.heap.size ≤ w9.heap.size := HKw.out.size
    have HBw : Hid (Below w.heap.size w W) := (HKw.out.below (Nat.le_refl _) (fun _ h => h.elim)).trans (hB.mono hw9)
    have c19 := hidIt (live_any hRS)
    have c22 := hidIt (used_any hRS)
    have c33 := rlive_any hRR Hok.out.len
    have c34 := rused_any hRR Hok.out.len (fun p hp => (Hok.out.piece p hp).2.2.2.1)
    rw [Hsim.out.live] at c33
    rw [Hsim.out.used] at c34
    have C33 := hidIt c33
    have C34 := hidIt c34
    have HKD := hidIt hK
    clear hB hK hRS hRR hSeq hS0 hM hMf hBx hB0 cA cR zR cS HS9 HR9 HrA HrS hf hD h1n c33 c34
    generalize st.live = lv at c19 C33
    generalize st.used = us at c22 C34
    gi_wp2_with fail
    refine at_wide (c19.out.mono ?_)
    rintro e w' ⟨rfl, rfl⟩
    gi_wp2_with fail
    refine at_wide (C33.out.mono ?_)
    rintro e w' ⟨rfl, rfl⟩
    gi_wp2_with fail
    refine at_wide (c22.out.mono ?_)
    rintro e w' ⟨rfl, rfl⟩
    gi_wp2_with fail
    refine at_wide (C34.out.mono ?_)
    rintro e w' ⟨rfl, rfl⟩
    clear c19 c22 C33 C34
    gi_wp2
    have hK' := (KeepsOthers.setCell W ⟨w.heap.size, 0, none⟩ (.bool true)).same D _ HKD.out rfl
    refine ⟨by simp, .inl ⟨_, _, rfl, run_takeDeferred hK', ?_⟩⟩
    have hc5 := cell_kept (World.cell?_setCell_same' W ⟨w.heap.size, 0, none⟩ (.bool true) (by rw [cR']; rfl)) (grownBy_putObj' _ D (.deferred none)) (fun r e => by cases e; exact ⟨_, hK', rfl⟩)
    refine ⟨.bool true, ?_, rfl, (HBw.out.setCell (p := ⟨w.heap.size, 0, none⟩) (Nat.le_refl _) _).trans (belowK_b (w := w) (Nat.le_refl _) _ D _ _ (by omega) hK' rfl rfl)⟩
    simp [results, Try.f12, go_sem, hc5]
  case hstop =>
    rintro D c pre W _ hp h _
    exact absurd hp h
theorem agree_any {w : World} {A R N : Nat} {st : Sl} {rs : RS} {fS fR : Nat → Prop} (hS : Rep w A st fS) (hR : RRep w R rs fR) (sim : Sim N st rs) (hv : Inv st) (hm : Small st N) (hN : N ≤ 800000) :
    Calls Try.prog 12 #[.pointer (some ⟨A, 0, none⟩), .pointer (some ⟨R, 0, none⟩)] w fun e w' => e = .returned (.bool true) ∧ Below w.heap.size w w' :=
  callsIn_wide.1 (agree_in 3 (Nat.le_refl 3) hS hR sim hv hm hN)
end Go.Proofs.Ytbjofdijhcdmaaa
