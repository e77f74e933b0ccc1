/-
  Free in one word, by the data.
-/
import Derived.Test.YtbjofdijhcdmaaaFree
namespace Go.Proofs.Ytbjofdijhcdmaaa
set_option linter.unusedVariables false
open Go.RowKit

theorem free_any {w : World} {A : Nat} {st : Sl} {fp : Nat → Prop} (h : Rep w A st fp) (hv : Inv st) (hs : Small st 900000) (a : Int) (h0 : 0 ≤ a) (h1 : a < 18446744073709551616) :
    Calls Try.prog 17 #[.pointer (some ⟨A, 0, none⟩), .int .u64 a] w fun e w' => e = .returned (.int .i64 (mfree st a).2) ∧ Did w A (mfree st a).1 fp w' := by
  have h' := h
  obtain ⟨ve, vf, es, h⟩ := h
  have hs' : Small st 1000000000 := ⟨by have := hs.ents; omega, by have := hs.free; omega, fun e he => by have := hs.sizes e he; omega⟩
  by_cases hc : mfind st a = 0
  · obtain ⟨g, cap, e, gs, cs, gt, ct, s, rfl, he, hu, hcu, hcv, hp, hsl, hv1, hv2, _, _, hn1, hn2, hn3, hf⟩ := h.good hv hs' a h0 h1 hc
    by_cases hpl : plc a = 0
    · have em : mfree st a = ({ st with live := st.live - 1, used := st.used - e.slots.length, ents := st.ents.set (idx a) { e with slots := [] }, free := st.free ++ [idx a] }, 0) := by simp [mfree, hc, hpl, he]
      rw [em]
      rw [hpl] at hf
      obtain ⟨af, cf, rfl, _⟩ := own_shape h.free
      have hgA : g ≠ A := fun e => own_ne h.ents h.head (by decide) (by rw [← e]; rfl)
      have hle := le_sum st.ents (idx a) e he
      have hco := pos_count st.ents (idx a) e he (by omega)
      have hl1 := hv.live
      have hl2 := hv.live_le
      have hu1 := hv.used
      have hu2 := hv.fits
      have hu3 := hv.room
      have hR1 := h.setNum { st with live := st.live - 1 } 1 ((st.live : Int) - 1) rfl rfl (by simp; omega)
      have hR2 := hR1.setNum { st with live := st.live - 1, used := st.used - e.slots.length } 2 ((st.used : Int) - e.slots.length) rfl rfl (by simp; omega)
      have hR3 := hR2.setSlots (i := idx a) (w2 := (w.setCell ⟨A, 1, none⟩ (.int .i64 ((st.live : Int) - 1))).setCell ⟨A, 2, none⟩ (.int .i64 ((st.used : Int) - e.slots.length))) he hu (World.grownBy.refl _ _) [] (v' := .slice none 0 0) (World.ownsRow_nil _ _ _ _) (fun k hk => by simp [Value.ownBlock] at hk)
      have hK3 : Kp fp w (((w.setCell ⟨A, 1, none⟩ (.int .i64 ((st.live : Int) - 1))).setCell ⟨A, 2, none⟩ (.int .i64 ((st.used : Int) - e.slots.length))).setCell ⟨g, idx a * 2 + 1, none⟩ (.slice none 0 0)).drew :=
        (((Kp.setCell w (p := ⟨A, 1, none⟩) h.fpA _).trans' (Kp.setCell _ (p := ⟨A, 2, none⟩) h.fpA _)).trans' (Kp.setCell _ (p := ⟨g, idx a * 2 + 1, none⟩) (h.fpE g rfl) _)).drew
      generalize hW0 : (((w.setCell ⟨A, 1, none⟩ (.int .i64 ((st.live : Int) - 1))).setCell ⟨A, 2, none⟩ (.int .i64 ((st.used : Int) - e.slots.length))).setCell ⟨g, idx a * 2 + 1, none⟩ (.slice none 0 0)).drew = W at hK3
      have hWsz : W.heap.size = w.heap.size := by rw [← hW0]; simp [World.drew, World.setCell]
      have hRW : RepAt W A { st with live := st.live - 1, used := st.used - e.slots.length, ents := st.ents.set (idx a) { e with slots := [] } } fp (.slice (some ⟨g, 0, none⟩) st.ents.length cap) (.slice af st.free.length cf) (es.set (idx a) (.slice (some ⟨gs, 0, none⟩) e.sizes.length cs, .slice none 0 0)) := by
        have := (hR3.frame (w' := W) (by rw [← hW0]; exact Nat.le_refl _) (fun k _ => by rw [← hW0]; rfl))
        exact this.mono (fun k hk => by rcases hk with hk | hk; exact hk; omega) (fun k hk => by rw [hWsz]; exact h.fplt k hk)
      refine (free_walk A g (idx a * 2) e.slots.length ct _ a st.live st.used w h0 h1 (fun e => hgA e.symm) hgA (h.fplt A h.fpA) (h.fplt g (h.fpE g rfl)) (by omega) (by omega) (by omega) (by omega) h.cells.2.1 h.cells.2.2.1 (h.frz 1) (h.frz 2) hcv (h.entFrz _)
        af st.free.length cf (freeCells st.free) (by have := hs'.free; omega) ?_ hf).mono ?_
      · rintro W1 hW1
        have : W1 = W := hW1.symm.trans hW0
        subst this
        exact ⟨hRW.cells.2.2.2.2, hRW.frz 4, hRW.fplt A hRW.fpA, hRW.free, own_ne hRW.free hRW.head (by decide)⟩
      · rintro _ w' ⟨rfl, g1, cap1, w1, ho1, hg1, hf1, rfl⟩
        refine ⟨rfl, ?_⟩
        rw [hW0] at hg1 hf1
        have hk1 : Kp (fun _ => False) W (W.alloc (.cells #[.int .i64 (a % 4294967296 / 4096)] 3)) := Kp.alloc _ _ _
        have hRa := hRW.grow hk1
        have hRb := hRa.setFree hg1 (st.free ++ [idx a]) (by
          rw [← idx_cast a h0] at ho1
          simpa [freeCells] using ho1) (by
          rcases hf1 with hf1 | hf1
          · exact .inl hf1.symm
          · refine .inr fun k hk => ?_
            simp [Value.ownBlock] at hk
            simp
            omega)
        have hkb : Kp (ext fp W (W.alloc (.cells #[.int .i64 (a % 4294967296 / 4096)] 3))) (W.alloc (.cells #[.int .i64 (a % 4294967296 / 4096)] 3)) (w1.setCell ⟨A, 4, none⟩ (.slice (some ⟨g1, 0, none⟩) (st.free.length + 1) cap1)) :=
          (Kp.grown hg1 fun k hk => .inl (h.fpF k hk)).trans' (Kp.setCell _ (p := ⟨A, 4, none⟩) (.inl h.fpA) _)
        have hkf := hK3.trans' ((Kp.alloc fp W (.cells #[.int .i64 (a % 4294967296 / 4096)] 3)).trans hkb)
        refine ⟨⟨_, _, _, hRb.mono ?_ (ext_lt h.fplt hkf.size)⟩, hkf⟩
        intro k hk
        by_cases hfp : fp k
        · exact .inl hfp
        · refine .inr ?_
          simp only [ext, hfp, false_or, World.size_alloc] at hk
          have := hg1.size
          simp only [World.size_alloc] at this
          simp only [size_setCell']
          omega
    · have em : mfree st a = (st, 11) := by simp [mfree, hc, hpl]
      rw [em]
      refine (free_inner A a (plc a) _ w (by simp [hpl]) hf).mono ?_
      rintro _ w' ⟨rfl, rfl⟩
      exact ⟨rfl, Did.same h'⟩
  · have em : mfree st a = (st, (mfind st a : Int)) := by simp [mfree, hc]
    rw [em]
    refine (free_err A a _ w (by simp [hc]) (find_err h hv hs' a h0 h1 hc)).mono ?_
    rintro _ w' ⟨rfl, rfl⟩
    exact ⟨rfl, Did.same h'⟩
end Go.Proofs.Ytbjofdijhcdmaaa
