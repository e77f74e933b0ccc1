/-
  The slab, the document's slab, and the list of addresses, one beside the other; what a step leaves of them. No walk here.
-/
import Derived.Test.YtbjofdijhcdmaaaRTurn
namespace Go.Proofs.Ytbjofdijhcdmaaa
set_option linter.unusedVariables false
open Go.RowKit

def gotCells (L : List Int) : List Value := L.map fun n => .int .u64 n
/-- The list that the box at G holds. -/
structure GAt (W : World) (G : Nat) (L : List Int) (fG : Nat → Prop) (vg : Value) : Prop where
  box : W.heap[G]? = some (.cells #[vg] 34 (0, 0))
  row : W.ownsRow 0 23 1 vg L.length (gotCells L)
  fpG : fG G
  fpV : OB fG vg
  lt : ∀ k, fG k → k < W.heap.size
def GRep (W : World) (G : Nat) (L : List Int) (fG : Nat → Prop) : Prop := ∃ vg, GAt W G L fG vg
theorem GAt.frame {W W' : World} {G : Nat} {L : List Int} {fG : Nat → Prop} {vg : Value} (h : GAt W G L fG vg) (hs : W.heap.size ≤ W'.heap.size) (hb : ∀ k, fG k → W'.heap[k]? = W.heap[k]?) : GAt W' G L fG vg :=
  ⟨by rw [hb G h.fpG]; exact h.box, ownsRow_of_block h.row fun k hk => hb k (h.fpV k hk), h.fpG, h.fpV, fun k hk => Nat.lt_of_lt_of_le (h.lt k hk) hs⟩
theorem GRep.other {W W' : World} {G : Nat} {L : List Int} {fG fp : Nat → Prop} (h : GRep W G L fG) (hk : Kp fp W W') (hd : ∀ k, fG k → ¬ fp k) : GRep W' G L fG := by
  obtain ⟨vg, h⟩ := h
  exact ⟨vg, h.frame hk.size fun k hf => hk.block k (h.lt k hf) (hd k hf)⟩
theorem GRep.lt {W : World} {G : Nat} {L : List Int} {fG : Nat → Prop} (h : GRep W G L fG) : ∀ k, fG k → k < W.heap.size := by
  obtain ⟨vg, h⟩ := h
  exact h.lt

theorem GAt.other {W W' : World} {G : Nat} {L : List Int} {fG fp : Nat → Prop} {vg : Value} (h : GAt W G L fG vg) (hk : Kp fp W W') (hd : ∀ k, fG k → ¬ fp k) : GAt W' G L fG vg :=
  h.frame hk.size fun k hf => hk.block k (h.lt k hf) (hd k hf)
/-- The box is as it was while the list grew. -/
theorem GAt.boxed {W W2 : World} {G : Nat} {L : List Int} {fG : Nat → Prop} {vg : Value} {o : Obj} (h : GAt W G L fG vg) (hg : (W.alloc o).grownBy W2 vg.ownBlock) : W2.cell? ⟨G, 0, none⟩ = some vg ∧ W2.frozen? ⟨G, 0, none⟩ = false := by
  have hGl := h.lt G h.fpG
  have hb : W2.heap[G]? = some (.cells #[vg] 34 (0, 0)) := (hg.block G (by rw [World.size_alloc]; omega) (fun e => own_ne h.row h.box (by decide) e.symm)).trans ((Below.heap_alloc W o G hGl).trans h.box)
  exact ⟨by simp [World.cell?, hb], by simp [World.frozen?, hb]⟩
theorem kpd (w : World) (m : Nat) : Kp (fun _ => False) w (w.drewN m) := ⟨rfl, rfl, rfl, Nat.le_refl _, fun _ _ _ => rfl⟩

structure Mem (W : World) (A R G : Nat) (st : Sl) (rs : RS) (L : List Int) (fS fR fG : Nat → Prop) : Prop where
  s : Rep W A st fS
  r : RRep W R rs fR
  g : GRep W G L fG
  sr : ∀ k, fS k → ¬ fR k
  sg : ∀ k, fS k → ¬ fG k
  rg : ∀ k, fR k → ¬ fG k

section
variable {W W' : World} {A R G : Nat} {st st' : Sl} {rs rs' : RS} {L L' : List Int} {fS fR fG : Nat → Prop}
theorem Mem.kp (h : Mem W A R G st rs L fS fR fG) (hk : Kp (fun _ => False) W W') : Mem W' A R G st rs L fS fR fG :=
  ⟨h.s.other hk (fun _ _ h => h), h.r.other hk (fun _ _ h => h), h.g.other hk (fun _ _ h => h), h.sr, h.sg, h.rg⟩
theorem Mem.slab (h : Mem W A R G st rs L fS fR fG) (hd : Did W A st' fS W') : Mem W' A R G st' rs L (ext fS W W') fR fG := by
  refine ⟨hd.1, h.r.other hd.2 (fun k hr hs => h.sr k hs hr), h.g.other hd.2 (fun k hg hs => h.sg k hs hg), ?_, ?_, h.rg⟩
  · rintro k (hk | hk) hr
    · exact h.sr k hk hr
    · have := h.r.lt k hr
      omega
  · rintro k (hk | hk) hg
    · exact h.sg k hk hg
    · have := h.g.lt k hg
      omega
theorem Mem.ref (h : Mem W A R G st rs L fS fR fG) (hd : RDid W R rs' fR W') : Mem W' A R G st rs' L fS (ext fR W W') fG := by
  refine ⟨h.s.other hd.2 h.sr, hd.1, h.g.other hd.2 (fun k hg hs => h.rg k hs hg), ?_, h.sg, ?_⟩
  · rintro k hs (hk | hk)
    · exact h.sr k hs hk
    · have := h.s.lt k hs
      omega
  · rintro k (hk | hk) hg
    · exact h.rg k hk hg
    · have := h.g.lt k hg
      omega
/-- An address more, which is appended, and the box is set. -/
theorem GAt.push {Wx W2 : World} {vg v' : Value} {y : Int} (h : GAt W G L fG vg) (hk : Kp (fun _ => False) W Wx) (ho : W2.ownsRow 0 23 1 v' (L.length + 1) (gotCells L ++ [.int .u64 y])) (hg : Wx.grownBy W2 vg.ownBlock) (hf : freshOr Wx vg v') :
    GAt (W2.setCell ⟨G, 0, none⟩ v') G (L ++ [y]) (ext fG W (W2.setCell ⟨G, 0, none⟩ v')) v' ∧ Kp fG W (W2.setCell ⟨G, 0, none⟩ v') := by
  have hx := h.frame hk.size (fun k hf => hk.block k (h.lt k hf) id)
  have hGv : vg.ownBlock ≠ some G := own_ne h.row h.box (by decide)
  have hGx : G < Wx.heap.size := hx.lt G hx.fpG
  have hsz : (W2.setCell ⟨G, 0, none⟩ v').heap.size = W2.heap.size := by simp [World.setCell]
  have hbG : W2.heap[G]? = some (.cells #[vg] 34 (0, 0)) := (hg.block G hGx (fun e => hGv e.symm)).trans hx.box
  have hne : v'.ownBlock ≠ some G := own_ne ho hbG (by decide)
  have hkk : Kp fG W W2 := ⟨hg.os.trans hk.os, hg.tape.trans hk.tape, hg.output.trans hk.output, Nat.le_trans hk.size hg.size, fun k hl hn => (hg.block k (Nat.lt_of_lt_of_le hl hk.size) (fun e => hn (h.fpV k e.symm))).trans (hk.block k hl id)⟩
  refine ⟨⟨?_, ?_, .inl h.fpG, ?_, ?_⟩, hkk.trans' (Kp.setCell _ (p := ⟨G, 0, none⟩) h.fpG _)⟩
  · rw [heap_setCell_same W2 G 0 _ 34 _ hbG]
    rfl
  · have e : gotCells (L ++ [y]) = gotCells L ++ [.int .u64 y] := by simp [gotCells]
    rw [e, List.length_append, List.length_singleton]
    exact ownsRow_of_block ho fun k hk' => heap_setCell_other _ ⟨G, 0, none⟩ k _ (fun e => hne (by rw [hk', show k = G from e]))
  · intro k hk'
    rcases hf with hf | hf
    · exact .inl (h.fpV k (hf ▸ hk'))
    · exact .inr ⟨Nat.le_trans hk.size (hf k hk'), by rw [hsz]; exact own_lt ho k hk'⟩
  · intro k hx'
    rcases hx' with hx' | hx'
    · rw [hsz]; exact Nat.lt_of_lt_of_le (h.lt k hx') hkk.size
    · exact hx'.2
theorem Mem.got {fG' : Nat → Prop} (h : Mem W A R G st rs L fS fR fG) (hg : GRep W' G L' (ext fG W W')) (hk : Kp fG W W') : Mem W' A R G st rs L' fS fR (ext fG W W') := by
  refine ⟨h.s.other hk h.sg, h.r.other hk h.rg, hg, h.sr, ?_, ?_⟩
  · rintro k hs (hx | hx)
    · exact h.sg k hs hx
    · have := h.s.lt k hs
      omega
  · rintro k hs (hx | hx)
    · exact h.rg k hs hx
    · have := h.r.lt k hs
      omega
end

/-- All that the three stand in. -/
def tot (fS fR fG : Nat → Prop) : Nat → Prop := fun k => fS k ∨ fR k ∨ fG k

/-- What do leaves. -/
def DoPost (W : World) (A R G N : Nat) (L : List Int) (fS fR fG : Nat → Prop) (e : Ending) (W' : World) : Prop :=
  e = .returned (.bool true) ∧ ∃ st' rs' L' fS' fR' fG', Mem W' A R G st' rs' L' fS' fR' fG' ∧ Sim (N + 1) st' rs' ∧ Inv st' ∧ Small st' (N + 1) ∧ L'.length ≤ L.length + 1 ∧ Kp (tot fS fR fG) W W' ∧ (∀ k, tot fS' fR' fG' k → tot fS fR fG k ∨ W.heap.size ≤ k)
theorem Sim.up {N : Nat} {st : Sl} {rs : RS} (h : Sim N st rs) : Sim (N + 1) st rs := { h with few := by have := h.few; omega }

section
variable {W W1 W2 W3 : World} {A R G N : Nat} {st st' : Sl} {rs rs' : RS} {L L' : List Int} {fS fR fG : Nat → Prop}
/-- Nothing has turned. -/
theorem DoPost.same (h : Mem W A R G st rs L fS fR fG) (hs : Sim N st rs) (hi : Inv st) (hm : Small st N) (hk : Kp (fun _ => False) W W1) : DoPost W A R G N L fS fR fG (.returned (.bool true)) W1 :=
  ⟨rfl, st, rs, L, fS, fR, fG, h.kp hk, hs.up, hi, hm.mono (by omega), by omega, hk.mono fun _ h => h.elim, fun _ h => .inl h⟩
/-- Both slabs have turned. -/
theorem DoPost.both (h : Mem W A R G st rs L fS fR fG) (h0 : Kp (fun _ => False) W W1) (h1 : Did W1 A st' fS W2) (h2 : RDid W2 R rs' fR W3) (hs : Sim (N + 1) st' rs') (hi : Inv st') (hm : Small st' (N + 1)) : DoPost W A R G N L fS fR fG (.returned (.bool true)) W3 := by
  have hm3 := ((h.kp h0).slab h1).ref h2
  have hk : Kp (tot fS fR fG) W W3 := ((h0.mono fun _ h => h.elim).trans' (h1.2.mono fun _ h => .inl h)).trans' (h2.2.mono fun _ h => .inr (.inl h))
  refine ⟨rfl, st', rs', L, _, _, _, hm3, hs, hi, hm, by omega, hk, ?_⟩
  rintro k ((hx | hx) | (hx | hx) | hx)
  · exact .inl (.inl hx)
  · right; have := h0.size; omega
  · exact .inl (.inr (.inl hx))
  · right; have := h0.size; have := h1.2.size; omega
  · exact .inl (.inr (.inr hx))
/-- Both slabs, and the list. -/
theorem DoPost.all {W4 : World} (h : Mem W A R G st rs L fS fR fG) (h0 : Kp (fun _ => False) W W1) (h1 : Did W1 A st' fS W2) (h2 : RDid W2 R rs' fR W3) (h3 : GRep W4 G L' (ext fG W3 W4)) (h4 : Kp fG W3 W4) (hl : L'.length ≤ L.length + 1) (hs : Sim (N + 1) st' rs') (hi : Inv st') (hm : Small st' (N + 1)) : DoPost W A R G N L fS fR fG (.returned (.bool true)) W4 := by
  have hm3 := ((h.kp h0).slab h1).ref h2
  have hm4 := hm3.got (fG' := fG) h3 h4
  have hk : Kp (tot fS fR fG) W W4 := (((h0.mono fun _ h => h.elim).trans' (h1.2.mono fun _ h => .inl h)).trans' (h2.2.mono fun _ h => .inr (.inl h))).trans' (h4.mono fun _ h => .inr (.inr h))
  refine ⟨rfl, st', rs', L', _, _, _, hm4, hs, hi, hm, hl, hk, ?_⟩
  rintro k ((hx | hx) | (hx | hx) | (hx | hx))
  · exact .inl (.inl hx)
  · right; have := h0.size; omega
  · exact .inl (.inr (.inl hx))
  · right; have := h0.size; have := h1.2.size; omega
  · exact .inl (.inr (.inr hx))
  · right; have := h0.size; have := h1.2.size; have := h2.2.size; omega
end
end Go.Proofs.Ytbjofdijhcdmaaa
