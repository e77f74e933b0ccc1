/-
  The document's slab: Copy.
-/
import Derived.Test.YtbjofdijhcdmaaaRGetH
import Derived.Deep.LoopGhost
import Derived.Deep.DeepCutAuto
namespace Go.Proofs.Ytbjofdijhcdmaaa
set_option linter.unusedVariables false
open Go.RowKit

theorem Kp.setNew {w w1 : World} (h : Kp (fun _ => False) w w1) {b : Nat} (hb : w.heap.size ≤ b) (j : Nat) (v : Value) : Kp (fun _ => False) w (w1.setCell ⟨b, j, none⟩ v) :=
  ⟨h.os, h.tape, h.output, by have := h.size; simp [World.setCell]; exact this, fun k hk _ => (heap_setCell_other w1 ⟨b, j, none⟩ k v (show k ≠ b by omega)).trans (h.block k hk id)⟩
/-- What is appended to a row that was laid just now. -/
theorem grow_new {W w1 : World} {e : TypeId} {v1 : Value} {n : Nat} {xs : List Value} {Wx : World} {b : Nat} (hb : W.heap.size ≤ b) (hk : Kp (fun _ => False) W Wx) (ho : w1.ownsRow 0 e 1 v1 n xs) (hg : Wx.grownBy w1 (Value.slice (some ⟨b, 0, none⟩) 0 0).ownBlock) (hf : freshOr Wx (.slice (some ⟨b, 0, none⟩) 0 0) v1) :
    Kp (fun _ => False) W w1 ∧ w1.ownsRow 0 e 1 v1 n xs ∧ (∀ k, v1.ownBlock = some k → W.heap.size ≤ k) ∧ ∃ a c, v1 = .slice a n c := by
  have hB : ∀ k, (Value.slice (some ⟨b, 0, none⟩) 0 0).ownBlock = some k → W.heap.size ≤ k := fun k hk' => by simp [Value.ownBlock] at hk'; omega
  obtain ⟨a, c, rfl, _⟩ := own_shape ho
  exact ⟨hk.gr hg hB, ho, hf.new hk.size hB, a, c, rfl⟩

/-- A copy whose first k pieces are laid. -/
def CI (w wr : World) (C : Nat) (rs : RS) (k : Nat) : Prop := RRep wr C { rs with ps := rs.ps.take k } (fun j => w.heap.size ≤ j ∧ j < wr.heap.size) ∧ Kp (fun _ => False) w wr
def RCopied (w : World) (rs : RS) (e : Ending) (w' : World) : Prop :=
  ∃ C, e = .returned (.pointer (some ⟨C, 0, none⟩)) ∧ w.heap.size ≤ C ∧ RRep w' C rs (fun k => w.heap.size ≤ k ∧ k < w'.heap.size) ∧ Kp (fun _ => False) w w'
theorem CI.start {w w1 : World} {rs : RS} {v1 : Value} (hk : Kp (fun _ => False) w w1) (ho : w1.ownsRow 0 3 1 v1 rs.free.length (freeCells rs.free)) (hn : ∀ k, v1.ownBlock = some k → w.heap.size ≤ k) :
    CI w (w1.alloc (.cells #[.int .i64 rs.room, .slice none 0 0, v1, .int .i64 rs.next] 72)) w1.heap.size rs 0 := by
  have hk2 := hk.al (.cells #[.int .i64 rs.room, .slice none 0 0, v1, .int .i64 rs.next] 72)
  have hz := hk.size
  refine ⟨⟨.slice none 0 0, v1, [], ?_⟩, hk2⟩
  exact
  { head := heap_alloc_new w1 _
    fpA := ⟨hz, by simp⟩
    fplt := fun k hk => hk.2
    prow := World.ownsRow_nil _ _ _ _
    fpP := fun k hk => by simp [Value.ownBlock] at hk
    free := ho.alloc _
    fpF := fun k hk' => ⟨hn k hk', by have := own_lt ho k hk'; simp; omega⟩
    data := ⟨fun i e he => by simp at he, fun i e he => by simp at he, fun i j u v _ he => by simp at he, fun i j u v _ he => by simp at he⟩
    ps := by simp }
theorem CI.next {w wr w3 : World} {C k : Nat} {rs rs' : RS} (h : CI w wr C rs k) (hd : RDid wr C { rs with ps := rs.ps.take (k + 1) } (fun j => w.heap.size ≤ j ∧ j < wr.heap.size) w3) : CI w w3 C rs (k + 1) := by
  have hz := h.2.size
  refine ⟨hd.1.mono (fun j hx => ?_) (fun j hj => hj.2), hd.2.os.trans h.2.os, hd.2.tape.trans h.2.tape, hd.2.output.trans h.2.output, Nat.le_trans hz hd.2.size, fun j hj _ => ?_⟩
  · have := hd.2.size
    rcases hx with hx | hx
    · exact ⟨hx.1, by omega⟩
    · exact ⟨by omega, hx.2⟩
  · exact (hd.2.block j (by omega) (fun e => by have := e.1; omega)).trans (h.2.block j hj id)

theorem copy_free {w Wx w1 : World} {A b : Nat} {rs : RS} {fp : Nat → Prop} {vp vf v1 : Value} {es : List PV} (h : RAt w A rs fp vp vf es) (hk : Kp (fun _ => False) w Wx) (hb : w.heap.size ≤ b) (ho : w1.ownsRow 0 3 1 v1 (0 + rs.free.length) ([] ++ freeCells rs.free)) (hg : Wx.grownBy w1 (Value.slice (some ⟨b, 0, none⟩) 0 0).ownBlock) (hf : freshOr Wx (.slice (some ⟨b, 0, none⟩) 0 0) v1) :
    (w1.cell? ⟨A, 0, none⟩ = some (.int .i64 rs.room) ∧ w1.cell? ⟨A, 2, none⟩ = some vf ∧ w1.cell? ⟨A, 3, none⟩ = some (.int .i64 rs.next)) ∧ (∃ a1 c1, v1 = .slice a1 rs.free.length c1) ∧
    Hid (CI w (w1.alloc (.cells #[.int .i64 rs.room, .slice none 0 0, v1, .int .i64 rs.next] 72)) w1.heap.size rs 0) := by
  rw [Nat.zero_add, List.nil_append] at ho
  obtain ⟨h1, h2, h3, a, c, rfl⟩ := grow_new hb hk ho hg hf
  obtain ⟨c0, _, c2, c3⟩ := (h.kp h1).cells
  exact ⟨⟨c0, c2, c3⟩, ⟨a, c, rfl⟩, CI.start h1 h2 h3⟩

theorem copy_laid {wr w1 w2 : World} {i0 i1 : Nat} {u v v1 v2 : Value} {vals : List Int} {has : List Bool} {fr : Bool}
    (k1 : Kp (fun _ => False) (wr.alloc (.cells #[.int .i64 i0, .int .i64 i1, u, v, .bool fr] 95)) w1) (o1 : w1.ownsRow 0 2 1 v1 vals.length (valCells vals)) (n1 : ∀ k, v1.ownBlock = some k → (wr.alloc (.cells #[.int .i64 i0, .int .i64 i1, u, v, .bool fr] 95)).heap.size ≤ k)
    (k2 : Kp (fun _ => False) (w1.setCell ⟨wr.heap.size, 2, none⟩ v1) w2) (o2 : w2.ownsRow 0 4 1 v2 has.length (hasCells has)) (n2 : ∀ k, v2.ownBlock = some k → (w1.setCell ⟨wr.heap.size, 2, none⟩ v1).heap.size ≤ k) :
    Hid (Laid wr (w2.setCell ⟨wr.heap.size, 3, none⟩ v2) wr.heap.size v1 v2 ⟨i0, i1, vals, has, fr⟩) := by
  have hb1 : w1.heap[wr.heap.size]? = some (.cells #[.int .i64 i0, .int .i64 i1, u, v, .bool fr] 95 (0, 0)) := (k1.block _ (by simp) id).trans (heap_alloc_new wr _)
  have hlt1 := lt_of_block hb1
  have hbx : (w1.setCell ⟨wr.heap.size, 2, none⟩ v1).heap[wr.heap.size]? = some (.cells #[.int .i64 i0, .int .i64 i1, v1, v, .bool fr] 95 (0, 0)) := by
    rw [heap_setCell_same w1 _ 2 _ 95 _ hb1]; rfl
  have hb2 : w2.heap[wr.heap.size]? = some (.cells #[.int .i64 i0, .int .i64 i1, v1, v, .bool fr] 95 (0, 0)) := (k2.block _ (lt_of_block hbx) id).trans hbx
  have hk1 : Kp (fun _ => False) wr w1 := (Kp.alloc _ wr _).trans' k1
  have hkx := hk1.setNew (Nat.le_refl _) 2 v1
  have hk2 := hkx.trans' k2
  have hk3 := hk2.setNew (Nat.le_refl _) 3 v2
  have hz1 := hk1.size
  have r1 : (w1.setCell ⟨wr.heap.size, 2, none⟩ v1).ownsRow 0 2 1 v1 vals.length (valCells vals) := ownsRow_of_block o1 fun k hk => heap_setCell_other w1 ⟨wr.heap.size, 2, none⟩ k v1 (fun e => own_ne o1 hb1 (by decide) (by rw [hk, show k = wr.heap.size from e]))
  have r2 := k2.row r1
  refine ⟨hk3, ?_, ?_, ?_, ?_, Nat.le_refl _, ?_⟩
  · exact ownsRow_of_block r2 fun k hk => heap_setCell_other w2 ⟨wr.heap.size, 3, none⟩ k v2 (fun e => own_ne r2 hb2 (by decide) (by rw [hk, show k = wr.heap.size from e]))
  · exact ownsRow_of_block o2 fun k hk => heap_setCell_other w2 ⟨wr.heap.size, 3, none⟩ k v2 (fun e => own_ne o2 hb2 (by decide) (by rw [hk, show k = wr.heap.size from e]))
  · intro k hk; have := n1 k hk; simp at this; omega
  · intro k hk; have := n2 k hk; simp at this; omega
  · rw [heap_setCell_same w2 _ 3 _ 95 _ hb2]; rfl

set_option maxRecDepth 100000 in
set_option maxHeartbeats 8000000 in
theorem rcopy_any {w : World} {A : Nat} {rs : RS} {fp : Nat → Prop} (h : RRep w A rs fp) (hok : ROk rs) :
    Calls Try.prog 14 #[.pointer (some ⟨A, 0, none⟩)] w (RCopied w rs) := by
  obtain ⟨vp, vf, es, h0⟩ := h
  obtain ⟨c0, c1, c2, c3⟩ := h0.cells
  have hAl := h0.fplt A h0.fpA
  obtain ⟨af, cf, hvf, _⟩ := own_shape h0.free
  subst hvf
  obtain ⟨ao, cap, hvp⟩ := h0.shape
  subst hvp
  have HR := hidIt h0
  have Hok := hidIt hok
  have hpl := hok.len
  have hfl := hok.free
  clear h0 hok
  go_enter Try.func14, Try.ntmps14
  go_upto_region 1 with fail
  go_cut [3] (fun q wx => ∃ C, q = .pointer (some ⟨C, 0, none⟩) ∧ Hid (CI w wx C rs 0))
  case first =>
    obtain ⟨i3, hi3, hz30, hz31, hz32⟩ := info_parts Try.info3
    go_region_law (first
      | (refine step_append_row _ rfl (.tmp 10) (.tmp 14) 41 rfl 3 i3 _ 1 8 Try.underlying41 hi3 hz30 hz31 hz32 rfl (by decide) _ 0 [] rfl (own_none (by first | exact new_at rfl rfl | exact new_at rfl (by first | (simp; done) | (simp; omega)))) _ rs.free.length (freeCells rs.free) rfl ((show Kp (fun _ => False) w _ from by repeat (first | exact Kp.refl _ _ | apply Kp.al | apply Kp.drew)).row HR.out.free) (freeCells_one _) (by unfold maxLen; omega) (by omega) ?_
         intro v1 w1 ho1 hg1 hf1
         obtain ⟨⟨e0, e2, e3⟩, ⟨a1, cp1, rfl⟩, HC⟩ := copy_free HR.out (by repeat (first | exact Kp.refl _ _ | apply Kp.al | apply Kp.drew)) (by first | exact Nat.le_refl _ | (simp; done)) ho1 hg1 hf1
         clear ho1 hg1 hf1))
    all_goals (go_wp2_with fail; go_meet; exact ⟨_, rfl, HC.out⟩)
  case rest =>
    obtain ⟨C, rfl, HC0⟩ := hcut
    clear c0 c2 c3 c1
    go_wp2
    go_loopg [4] (rs.ps.length) (fun gk i wr => ∃ k : Nat, k ≤ rs.ps.length ∧ gk = rs.ps.length - k ∧ i = .int .i64 k ∧ Hid (CI w wr C rs k))
    case atStart => exact ⟨0, Nat.zero_le _, rfl, rfl, HC0⟩
    case round =>
      clear HC0
      obtain ⟨k, hk, rfl, rfl, HC⟩ := hrel
      have hRr := HR.out.kp HC.out.2
      have c1 := hRr.cells.2.1
      by_cases hlt : k < rs.ps.length
      · obtain ⟨p, hp⟩ : ∃ p, rs.ps[k]? = some p := ⟨_, List.getElem?_eq_getElem hlt⟩
        obtain ⟨g, cap', hve⟩ := HR.out.pos hp
        simp only [Value.slice.injEq] at hve
        obtain ⟨rfl, _, rfl⟩ := hve
        obtain ⟨u, v, hu⟩ := HR.out.get hp
        obtain ⟨d0, d1, d2, d3, d4⟩ := hRr.cell hu
        have hou := (hRr.data.vals k _ hu).1
        have hov := (hRr.data.has k _ hu).1
        obtain ⟨au, cu, hus, _⟩ := own_shape hou
        obtain ⟨av, cv, hvs, _⟩ := own_shape hov
        simp only at hus hvs d0 d1 d2 d3 d4
        subst hus hvs
        obtain ⟨q1, q2, q3, q4, q5⟩ := Hok.out.piece p (List.mem_of_getElem? hp)
        have Hou := hidIt hou
        have Hov := hidIt hov
        have Hnx : Hid (({ rs with ps := rs.ps.take k ++ [p] } : RS) = { rs with ps := rs.ps.take (k + 1) }) := by
          show _ = _
          rw [List.take_succ_eq_append_getElem hlt, (List.getElem?_eq_some_iff.1 hp).2]
        obtain ⟨ix, age, vals, has, freed⟩ := p
        simp only at d0 d1 d2 d3 d4 q1 q2 q3 q4 q5 Hou Hov
        have hhl : has.length ≤ 4095 := by omega
        clear q5
        have hAr := hRr.fplt A hRr.fpA
        have hgr := hRr.fplt g (hRr.fpP g rfl)
        clear hp hRr hu hou hov
        have B0 : Hid (∀ w1, Kp (fun _ => False) (wr.alloc (.cells #[.int .i64 ix, .int .i64 age, .slice au vals.length cu, .slice av has.length cv, .bool freed] 95)) w1 → wr.heap.size < w1.heap.size ∧ w1.cell? ⟨wr.heap.size, 0, none⟩ = some (.int .i64 ix) ∧ w1.cell? ⟨wr.heap.size, 1, none⟩ = some (.int .i64 age) ∧ w1.cell? ⟨wr.heap.size, 2, none⟩ = some (.slice au vals.length cu) ∧ w1.cell? ⟨wr.heap.size, 3, none⟩ = some (.slice av has.length cv) ∧ w1.cell? ⟨wr.heap.size, 4, none⟩ = some (.bool freed) ∧ (∀ j, w1.frozen? ⟨wr.heap.size, j, none⟩ = false)) := fun w1 hk1 => by
          have hb1 := (hk1.block wr.heap.size (by simp) id).trans (heap_alloc_new wr _)
          refine ⟨lt_of_block hb1, ?_, ?_, ?_, ?_, ?_, fun j => ?_⟩
          all_goals first | (simp [World.cell?, hb1]; done) | (simp [World.frozen?, hb1]; done)
        obtain ⟨i2, hi2, hz20, hz21, hz22⟩ := info_parts Try.info2
        go_wp2_with (at_builtin; go_must (refine wpList_append_row _ rfl (.tmp 38) (.tmp 40) 92 rfl 2 i2 _ 1 8 Try.underlying92 hi2 hz20 hz21 hz22 rfl (by decide) _ 0 [] rfl (own_none (new_at rfl (by simp))) _ vals.length (valCells vals) rfl ((((Kp.refl _ _).al _).al _).row Hou.out) (valCells_one _) (by unfold maxLen; omega) (by omega) ?_))
        intro v1 w1 ho1 hg1 hf1
        obtain ⟨k1, o1, n1, a1, cp1, rfl⟩ := grow_new (W := wr.alloc (.cells #[.int .i64 ix, .int .i64 age, .slice au vals.length cu, .slice av has.length cv, .bool freed] 95)) (by simp) ((Kp.refl _ _).al _) ho1 hg1 hf1
        obtain ⟨hbl, e0, e1, e2, e3, e4, ez⟩ := B0.out w1 k1
        have K1 := hidIt k1
        have O1 := hidIt o1
        have N1 := hidIt n1
        have Hov1 := hidIt ((((Kp.alloc _ wr _).trans' k1).setNew (Nat.le_refl _) 2 (.slice a1 vals.length cp1)).row Hov.out)
        clear ho1 hg1 hf1 k1 o1 n1 hi2 hz20 hz21 hz22 Hou Hov c1 d0 d1 d2 d3 d4
        obtain ⟨i4, hi4, hz40, hz41, hz42⟩ := info_parts Try.info4
        go_wp2_with (at_builtin; go_must (refine wpList_append_row _ rfl (.tmp 43) (.tmp 45) 93 rfl 4 i4 _ 1 1 Try.underlying93 hi4 hz40 hz41 hz42 rfl (by decide) _ 0 [] rfl (own_none (new_at rfl (by simp))) _ has.length (hasCells has) rfl (((Kp.refl _ _).al _).row Hov1.out) (hasCells_one _) (by unfold maxLen; omega) (by omega) ?_))
        intro v2 w2 ho2 hg2 hf2
        obtain ⟨k2, o2, n2, a2, cp2, rfl⟩ := grow_new (W := w1.setCell ⟨wr.heap.size, 2, none⟩ (.slice a1 vals.length cp1)) (by simp) ((Kp.refl _ _).al _) ho2 hg2 hf2
        have HL := copy_laid K1.out O1.out N1.out k2 o2 n2
        clear ho2 hg2 hf2 o2 n2 hi4 hz40 hz41 hz42 Hov1
        have hkX : Kp (fun _ => False) wr (w2.setCell ⟨wr.heap.size, 3, none⟩ (.slice a2 has.length cp2)) := HL.out.kp
        have f0 : (w2.setCell ⟨wr.heap.size, 3, none⟩ (.slice a2 has.length cp2)).cell? ⟨wr.heap.size, 0, none⟩ = some (.int .i64 ix) := by simp [World.cell?, HL.out.cells, pcell]
        have f1 : (w2.setCell ⟨wr.heap.size, 3, none⟩ (.slice a2 has.length cp2)).cell? ⟨wr.heap.size, 1, none⟩ = some (.int .i64 age) := by simp [World.cell?, HL.out.cells, pcell]
        have f2 : (w2.setCell ⟨wr.heap.size, 3, none⟩ (.slice a2 has.length cp2)).cell? ⟨wr.heap.size, 2, none⟩ = some (.slice a1 vals.length cp1) := by simp [World.cell?, HL.out.cells, pcell]
        have f3 : (w2.setCell ⟨wr.heap.size, 3, none⟩ (.slice a2 has.length cp2)).cell? ⟨wr.heap.size, 3, none⟩ = some (.slice a2 has.length cp2) := by simp [World.cell?, HL.out.cells, pcell]
        have f4 : (w2.setCell ⟨wr.heap.size, 3, none⟩ (.slice a2 has.length cp2)).cell? ⟨wr.heap.size, 4, none⟩ = some (.bool freed) := by simp [World.cell?, HL.out.cells, pcell]
        have g3 : w2.cell? ⟨wr.heap.size, 3, none⟩ = some (.slice av has.length cv) := (k2.cell (p := ⟨wr.heap.size, 3, none⟩) ((World.cell?_setCell_other _ _ (a := ⟨wr.heap.size, 2, none⟩) (b := ⟨wr.heap.size, 3, none⟩) (by simp)).trans e3) id)
        have gz : w2.frozen? ⟨wr.heap.size, 3, none⟩ = false := (World.frozen?_of_block (w := w1.setCell ⟨wr.heap.size, 2, none⟩ (.slice a1 vals.length cp1)) (k2.block wr.heap.size (by simp; omega) id)).trans (by rw [World.frozen?_setCell]; exact ez 3)
        clear k2 e0 e1 e2 e3 e4 ez K1 O1 N1 B0
        have hCr : C < wr.heap.size := by
          obtain ⟨_, _, _, hx⟩ := HC.out.1
          exact hx.fpA.2
        obtain ⟨vpC, vfC, esC, hCR⟩ := HC.out.1
        have hel : esC.length = (rs.ps.take k).length := hCR.len
        have hel2 : esC.length = k := by rw [hel, List.length_take]; omega
        obtain ⟨aC, cC, hvC, _⟩ := own_shape hCR.prow
        subst hvC
        have gC := (hCR.kp hkX).cells.2.1
        have HCR := hidIt hCR
        have Hel := hidIt hel2
        have hCX : C < (w2.setCell ⟨wr.heap.size, 3, none⟩ (.slice a2 has.length cp2)).heap.size := Nat.lt_of_lt_of_le hCr hkX.size
        have HkX := hidIt hkX
        clear hCR hel hel2 hkX
        go_upto_region 8 with fail
        clear g3 gz
        generalize (w2.setCell ⟨wr.heap.size, 3, none⟩ (.slice a2 has.length cp2)) = X at *
        obtain ⟨i9, hi9, hz90, hz91, hz92⟩ := info_parts Try.info95
        go_region_law (first
          | (refine step_append_row _ rfl (.tmp 52) (.tmp 54) 70 rfl 95 i9 _ 5 72 Try.underlying70 hi9 hz90 hz91 hz92 rfl (by decide) _ esC.length (pcells esC) rfl (HCR.out.kp (HkX.out.trans' (by repeat (first | exact Kp.refl _ _ | apply Kp.al | apply Kp.drew)))).prow _ 1 _ rfl (own_five (cs := pcell (⟨ix, age, vals, has, freed⟩, _, _)) (by first | exact new_at rfl rfl | exact new_at rfl (by first | (simp; done) | (simp; omega))) rfl) (by simp [pcell, Value.oneCell']) (by rw [Hel.out]; unfold maxLen; omega) (by rw [Hel.out]; omega) ?_
             intro vp2 w4 ho4 hg4 hf4
             obtain ⟨⟨g2, cap2, rfl⟩, fC, fzC, hAb, ⟨y0, y1, y2, y3, y4⟩, HD⟩ := get_push (fp0 := fun j => w.heap.size ≤ j ∧ j < wr.heap.size) HCR.out HL (by repeat (first | exact Kp.refl _ _ | apply Kp.al | apply Kp.drew)) ho4 hg4 hf4 (Kp.refl _ _) (fun k hk => .inl hk) Hnx.out (fun j hj => hj.2)
             have HN := hidIt (CI.next (rs' := rs) HC.out (HD.out _ (Kp.refl _ _)))
             clear ho4 hg4 hf4 HD))
        all_goals
          clear HC HCR HL HkX f0 f1 f2 f3 f4 gC Hnx Hel
          go_wp2
          go_roundg (rs.ps.length - (k + 1))
          case measure => omega
          case rel => exact ⟨k + 1, by omega, rfl, by go_num, HN⟩
      · obtain rfl : k = rs.ps.length := by omega
        have HF : Hid (RCopied w rs (.returned (.pointer (some ⟨C, 0, none⟩))) wr) := by
          have hC := HC.out
          unfold CI at hC
          rw [List.take_length] at hC
          have hCl : w.heap.size ≤ C := by
            obtain ⟨_, _, _, hx⟩ := hC.1
            exact hx.fpA.1
          exact ⟨C, rfl, hCl, hC.1, hC.2⟩
        clear HC hRr
        go_wp2
        go_ret
        exact HF.out
end Go.Proofs.Ytbjofdijhcdmaaa
