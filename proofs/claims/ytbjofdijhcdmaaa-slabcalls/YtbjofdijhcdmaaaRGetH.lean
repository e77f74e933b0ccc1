/-
  The document's slab: Get.
-/
import Derived.Test.YtbjofdijhcdmaaaRTurn
namespace Go.Proofs.Ytbjofdijhcdmaaa
set_option linter.unusedVariables false
open Go.RowKit

theorem Try.info2 : (Try.prog.info? 2).map (fun i => (i.zero, i.size, i.bytes)) = some (some (.int .i64 0), 1, 8) := by kernel_rfl
theorem Try.info4 : (Try.prog.info? 4).map (fun i => (i.zero, i.size, i.bytes)) = some (some (.bool false), 1, 1) := by kernel_rfl
theorem Try.info95 : (Try.prog.info? 95).map (fun i => (i.zero, i.size, i.bytes)) = some (some (.agg #[.int .i64 0, .int .i64 0, .slice none 0 0, .slice none 0 0, .bool false]), 5, 72) := by kernel_rfl

theorem make92 (m : Nat) (hm : m ≤ 1000000) (wx : World) : Sem.run Try.prog (Instr.makeSlice 92 (.int .i64 (m : Int)) (.int .i64 (m : Int))) wx = .ok (.slice (some ⟨wx.heap.size, 0, none⟩) m m) (wx.alloc (.cells (madeCells #[.int .i64 0] m) 2)) := by
  obtain ⟨i, hi, hz0, hz1, hz2⟩ := info_parts Try.info2
  have hr := run_make (P := Try.prog) wx 92 2 i _ (by kernel_rfl) hi hz0 .i64 .i64 m m (by omega) (Int.le_refl _) (by rw [hz2]; omega) (by omega)
  rw [hz1] at hr
  simp only [Int.toNat_natCast, Nat.mul_one] at hr
  exact hr
theorem make93 (m : Nat) (hm : m ≤ 1000000) (wx : World) : Sem.run Try.prog (Instr.makeSlice 93 (.int .i64 (m : Int)) (.int .i64 (m : Int))) wx = .ok (.slice (some ⟨wx.heap.size, 0, none⟩) m m) (wx.alloc (.cells (madeCells #[.bool false] m) 4)) := by
  obtain ⟨i, hi, hz0, hz1, hz2⟩ := info_parts Try.info4
  have hr := run_make (P := Try.prog) wx 93 4 i _ (by kernel_rfl) hi hz0 .i64 .i64 m m (by omega) (Int.le_refl _) (by rw [hz2]; omega) (by omega)
  rw [hz1] at hr
  simp only [Int.toNat_natCast, Nat.mul_one] at hr
  exact hr

theorem madeOne (z : Value) (n : Nat) : (madeCells #[z] n).toList = List.replicate n z := by
  refine List.ext_getElem? fun k => ?_
  by_cases hk : k < n
  · rw [List.getElem?_replicate, if_pos hk]
    simp [madeCells, Nat.mod_one, hk]
  · rw [List.getElem?_eq_none (by rw [Array.length_toList, size_madeCells]; omega), List.getElem?_eq_none (by simp; omega)]

/-- A piece that was laid beside what is there: its struct at bp, its numbers u, its marks v. -/
structure Laid (W W1 : World) (bp : Nat) (u v : Value) (p : RP) : Prop where
  kp : Kp (fun _ => False) W W1
  vals : W1.ownsRow 0 2 1 u p.vals.length (valCells p.vals)
  has : W1.ownsRow 0 4 1 v p.has.length (hasCells p.has)
  nu : ∀ k, u.ownBlock = some k → W.heap.size ≤ k
  nv : ∀ k, v.ownBlock = some k → W.heap.size ≤ k
  np : W.heap.size ≤ bp
  cells : W1.heap[bp]? = some (.cells (pcell (p, u, v)).toArray 95 (0, 0))

theorem three_at {w W : World} {X Y Z : Obj} (h : ((((w.alloc X).alloc Y).alloc Z)).drew = W) :
    Kp (fun _ => False) w W ∧ W.heap[w.heap.size]? = some X ∧ W.heap[w.heap.size + 1]? = some Y ∧ W.heap[w.heap.size + 1 + 1]? = some Z ∧ W.heap.size = w.heap.size + 3 := by
  subst h
  refine ⟨(((Kp.refl _ _).al X).al Y).al Z |>.drew, ?_, ?_, ?_, by simp [World.drew]⟩
  · exact old_at (w := (w.alloc X).alloc Y) rfl (old_at (w := w.alloc X) rfl (new_at rfl rfl) (by simp)) (by simp; omega)
  · exact old_at (w := (w.alloc X).alloc Y) rfl (new_at (w := w.alloc X) rfl (by simp)) (by simp)
  · exact new_at (w := (w.alloc X).alloc Y) rfl (by simp)

theorem own_five {w : World} {b : Nat} {cs : List Value} (h : w.heap[b]? = some (.cells cs.toArray 95 (0, 0))) (hl : cs.length = 5) : w.ownsRow 0 95 5 (.slice (some ⟨b, 0, none⟩) 1 1) 1 cs :=
  ⟨by omega, .inr ⟨b, 1, cs.toArray, rfl, Nat.zero_le _, h, Nat.le_refl _, by unfold maxLen; omega, by simp [hl], by simp [List.take_of_length_le (show cs.length ≤ 1 * 5 by omega)]⟩⟩
theorem own_made {w : World} {b m : Nat} {e : TypeId} {z : Value} (hm : m ≤ 1000000) (h : w.heap[b]? = some (.cells (madeCells #[z] m) e (0, 0))) : w.ownsRow 0 e 1 (.slice (some ⟨b, 0, none⟩) m m) m (List.replicate m z) :=
  ⟨by simp, .inr ⟨b, m, _, rfl, Nat.zero_le _, h, Nat.le_refl _, by unfold maxLen; omega, by rw [size_madeCells]; omega, by rw [madeOne]; simp⟩⟩

theorem laid_of {w W : World} {bu bv bp m ix a : Nat} (hm : m ≤ 1000000) (hk : Kp (fun _ => False) w W) (hu : W.heap[bu]? = some (.cells (madeCells #[.int .i64 0] m) 2)) (hv : W.heap[bv]? = some (.cells (madeCells #[.bool false] m) 4))
    (hp : W.heap[bp]? = some (.cells #[.int .i64 ix, .int .i64 a, .slice (some ⟨bu, 0, none⟩) m m, .slice (some ⟨bv, 0, none⟩) m m, .bool false] 95)) (b1 : w.heap.size ≤ bu) (b2 : w.heap.size ≤ bv) (b3 : w.heap.size ≤ bp) :
    Hid (Laid w W bp (.slice (some ⟨bu, 0, none⟩) m m) (.slice (some ⟨bv, 0, none⟩) m m) ⟨ix, a, List.replicate m 0, List.replicate m false, false⟩) ∧
    W.cell? ⟨bp, 0, none⟩ = some (.int .i64 ix) ∧ W.cell? ⟨bp, 1, none⟩ = some (.int .i64 a) ∧ W.cell? ⟨bp, 2, none⟩ = some (.slice (some ⟨bu, 0, none⟩) m m) ∧ W.cell? ⟨bp, 3, none⟩ = some (.slice (some ⟨bv, 0, none⟩) m m) ∧ W.cell? ⟨bp, 4, none⟩ = some (.bool false) := by
  refine ⟨⟨hk, ?_, ?_, ?_, ?_, b3, ?_⟩, ?_, ?_, ?_, ?_, ?_⟩
  · simpa [valCells] using own_made hm hu
  · simpa [hasCells] using own_made hm hv
  · intro k hk; simp [Value.ownBlock] at hk; omega
  · intro k hk; simp [Value.ownBlock] at hk; omega
  · simpa [pcell] using hp
  all_goals simp [World.cell?, hp]

theorem get_push {w0 w W Wx w2 : World} {A bp : Nat} {rs rs' : RS} {fp0 fp : Nat → Prop} {vp vf u v vp2 : Value} {es : List PV} {p : RP} (h : RAt w A rs fp vp vf es) (hl : Hid (Laid w W bp u v p)) (hk : Kp (fun _ => False) W Wx)
    (ho : w2.ownsRow 0 95 5 vp2 (es.length + 1) (pcells es ++ pcell (p, u, v))) (hg : Wx.grownBy w2 vp.ownBlock) (hf : freshOr Wx vp vp2)
    (h0 : Kp fp0 w0 w) (hfp : ∀ k, fp k → ext fp0 w0 w k) (he : { rs with ps := rs.ps ++ [p] } = rs') (hlt0 : ∀ k, fp0 k → k < w0.heap.size) :
    (∃ g2 cap2, vp2 = .slice (some ⟨g2, 0, none⟩) (es.length + 1) cap2) ∧ w2.cell? ⟨A, 1, none⟩ = some vp ∧ w2.frozen? ⟨A, 1, none⟩ = false ∧ A < bp ∧
    (w2.cell? ⟨bp, 0, none⟩ = some (.int .i64 p.ix) ∧ w2.cell? ⟨bp, 1, none⟩ = some (.int .i64 p.age) ∧ w2.cell? ⟨bp, 2, none⟩ = some u ∧ w2.cell? ⟨bp, 3, none⟩ = some v ∧ w2.cell? ⟨bp, 4, none⟩ = some (.bool p.freed)) ∧
    Hid (∀ w3, Kp (fun _ => False) (w2.setCell ⟨A, 1, none⟩ vp2) w3 → RDid w0 A rs' fp0 w3) := by
  have hkx : Kp (fun _ => False) w Wx := hl.out.kp.trans' hk
  obtain ⟨hR, hK⟩ := h.push hkx (hk.row hl.out.vals) (hk.row hl.out.has) hl.out.nu hl.out.nv hg ho hf
  have hA : A < w.heap.size := h.fplt A h.fpA
  have hvA : vp.ownBlock ≠ some A := own_ne h.prow h.head (by decide)
  have hvb : vp.ownBlock ≠ some bp := fun e => by
    have := h.fplt bp (h.fpP bp e)
    have := hl.out.np
    omega
  have hA2 : w2.heap[A]? = w.heap[A]? := (hg.block A (Nat.lt_of_lt_of_le hA hkx.size) (fun e => hvA e.symm)).trans (hkx.block A hA id)
  have hbl : bp < W.heap.size := lt_of_block hl.out.cells
  have hb2 : w2.heap[bp]? = some (.cells (pcell (p, u, v)).toArray 95 (0, 0)) := (hg.block bp (Nat.lt_of_lt_of_le hbl hk.size) (fun e => hvb e.symm)).trans ((hk.block bp hbl id).trans hl.out.cells)
  obtain ⟨g2, cap2, hv2, _⟩ := own_pos ho (by omega)
  refine ⟨⟨g2, cap2, hv2⟩, (World.cell?_of_block (w := w) hA2).trans h.cells.2.1, (World.frozen?_of_block (w := w) hA2).trans (h.frz 1), by have := hl.out.np; omega, ⟨?_, ?_, ?_, ?_, ?_⟩, ?_⟩
  · simp [World.cell?, hb2, pcell]
  · simp [World.cell?, hb2, pcell]
  · simp [World.cell?, hb2, pcell]
  · simp [World.cell?, hb2, pcell]
  · simp [World.cell?, hb2, pcell]
  · intro w3 hk3
    have hR3 := hR.kp hk3
    have hK3 : Kp fp0 w0 w3 := h0.trans ((hK.trans' hk3.of_false).mono hfp)
    rw [he] at hR3
    refine ⟨⟨_, _, _, hR3.mono (fun k hx => ?_) (ext_lt hlt0 hK3.size)⟩, hK3⟩
    rcases hx with hx | hx
    · rcases hfp k hx with hx | hx
      · exact .inl hx
      · exact .inr ⟨hx.1, Nat.lt_of_lt_of_le hx.2 (hK.trans' hk3.of_false).size⟩
    · exact .inr ⟨Nat.le_trans h0.size hx.1, Nat.lt_of_lt_of_le hx.2 hk3.size⟩

end Go.Proofs.Ytbjofdijhcdmaaa
