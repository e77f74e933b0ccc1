/-
  A slab in a longer run: what is kept beside it. And the states that 'alive' goes through.
-/
import Derived.Test.YtbjofdijhcdmaaaAll
namespace Go.Proofs.Ytbjofdijhcdmaaa
set_option linter.unusedVariables false
open Go.RowKit

/-- A slab at A that is S, in blocks that are new since w0 and none of Ex's. -/
def Stage (w0 : World) (Ex : Nat → Prop) (A : Nat) (S : Sl) (W : World) : Prop :=
  ∃ fp, Rep W A S fp ∧ (∀ k, fp k → w0.heap.size ≤ k ∧ ¬ Ex k) ∧ Below w0.heap.size w0 W ∧ (∀ k, Ex k → k < W.heap.size)

/-- Ex's blocks lie as they lay. -/
def Held (Ex : Nat → Prop) (W W' : World) : Prop := W.heap.size ≤ W'.heap.size ∧ ∀ k, Ex k → W'.heap[k]? = W.heap[k]?
theorem Held.cell {Ex : Nat → Prop} {W W' : World} (h : Held Ex W W') {b o : Nat} {v : Value} (hb : Ex b) (hc : W.cell? ⟨b, o, none⟩ = some v) : W'.cell? ⟨b, o, none⟩ = some v :=
  (World.cell?_of_block (w := W) (h.2 b hb)).trans hc
theorem Held.frozen {Ex : Nat → Prop} {W W' : World} (h : Held Ex W W') {b o : Nat} (hb : Ex b) (hc : W.frozen? ⟨b, o, none⟩ = false) : W'.frozen? ⟨b, o, none⟩ = false :=
  (World.frozen?_of_block (w := W) (h.2 b hb)).trans hc

theorem Stage.did {w0 : World} {Ex : Nat → Prop} {A : Nat} {S S' : Sl} {W : World} {P : Program} {f : FuncId} {args : Array Value} {E : Ending} (h : Stage w0 Ex A S W)
    (hc : ∀ fp, Rep W A S fp → Calls P f args W fun e w' => e = E ∧ Did W A S' fp w') :
    Calls P f args W fun e w' => e = E ∧ Stage w0 Ex A S' w' ∧ Held Ex W w' := by
  obtain ⟨fp, hR, hf, hB, hE⟩ := h
  refine (hc fp hR).mono ?_
  rintro e w' ⟨rfl, hd, hk⟩
  refine ⟨rfl, ⟨_, hd, ?_, hB.trans (hk.below hB.size fun k hk => (hf k hk).1), fun k he => Nat.lt_of_lt_of_le (hE k he) hk.size⟩, hk.size, fun k he => hk.block k (hE k he) fun hfp => (hf k hfp).2 he⟩
  intro k hx
  rcases hx with hx | hx
  · exact hf k hx
  · refine ⟨Nat.le_trans hB.size hx.1, fun he => ?_⟩
    have := hE k he
    omega
theorem Stage.rep {w0 : World} {Ex : Nat → Prop} {A : Nat} {S : Sl} {W : World} (h : Stage w0 Ex A S W) : ∃ fp, Rep W A S fp := by
  obtain ⟨fp, hR, _⟩ := h
  exact ⟨fp, hR⟩
theorem Stage.below {w0 : World} {Ex : Nat → Prop} {A : Nat} {S : Sl} {W : World} (h : Stage w0 Ex A S W) : Below w0.heap.size w0 W := by
  obtain ⟨fp, _, _, hB, _⟩ := h
  exact hB
/-- A new block that is to be held. -/
theorem Stage.box {w0 : World} {Ex : Nat → Prop} {A : Nat} {S : Sl} {W : World} (h : Stage w0 Ex A S W) (o : Obj) : Stage w0 (fun k => Ex k ∨ k = W.heap.size) A S (W.alloc o) := by
  obtain ⟨fp, hR, hf, hB, hE⟩ := h
  refine ⟨fp, hR.frame (by simp) (fun k hk => Below.heap_alloc W o k (hR.lt k hk)), fun k hk => ⟨(hf k hk).1, fun he => ?_⟩, hB.alloc hB.size o, fun k he => ?_⟩
  · rcases he with he | he
    · exact (hf k hk).2 he
    · have := hR.lt k hk
      omega
  · rcases he with he | he
    · have := hE k he
      simp
      omega
    · subst he
      simp
theorem Stage.new {w0 W w1 : World} {n : Nat} {Ex : Nat → Prop} (hB : Below w0.heap.size w0 W) (hE : ∀ k, Ex k → k < W.heap.size) (hR : Rep w1 W.heap.size (newSl n) (ext (fun _ => False) W w1)) (hk : Kp (fun _ => False) W w1) :
    Stage w0 Ex W.heap.size (newSl n) w1 ∧ Held Ex W w1 := by
  refine ⟨⟨_, hR, fun k hx => ?_, hB.trans (hk.below hB.size fun _ h => h.elim), fun k he => Nat.lt_of_lt_of_le (hE k he) hk.size⟩, hk.size, fun k he => hk.block k (hE k he) id⟩
  rcases hx with hx | hx
  · exact hx.elim
  · refine ⟨Nat.le_trans hB.size hx.1, fun he => ?_⟩
    have := hE k he
    omega
/-- Behind a clone: the clone's blocks are held too. -/
theorem Stage.cloned {w0 W w1 : World} {A : Nat} {S : Sl} {Ex : Nat → Prop} (h : Stage w0 Ex A S W) (hk : Kp (fun _ => False) W w1) : Stage w0 (fun k => Ex k ∨ (W.heap.size ≤ k ∧ k < w1.heap.size)) A S w1 ∧ Held Ex W w1 := by
  obtain ⟨fp, hR, hf, hB, hE⟩ := h
  refine ⟨⟨fp, hR.frame hk.size (fun k hx => hk.block k (hR.lt k hx) id), fun k hx => ⟨(hf k hx).1, fun he => ?_⟩, hB.trans (hk.below hB.size fun _ h => h.elim), fun k he => ?_⟩, hk.size, fun k he => hk.block k (hE k he) id⟩
  · rcases he with he | he
    · exact (hf k hx).2 he
    · have := hR.lt k hx
      omega
  · rcases he with he | he
    · exact Nat.lt_of_lt_of_le (hE k he) hk.size
    · exact he.2

def S1 : Sl := ⟨4, 1, 2, [⟨[2], [(0, false), (0, false)]⟩], []⟩
def S2 : Sl := ⟨4, 1, 2, [⟨[2], [(0, false), (7, true)]⟩], []⟩
def S3 : Sl := ⟨4, 0, 0, [⟨[2], []⟩], [0]⟩
def S4 : Sl := ⟨4, 1, 1, [⟨[2, 1], [(0, false)]⟩], []⟩
theorem r1 : mget (newSl 4) 2 = (S1, 4611686018427387904, 0) := by decide +kernel
theorem r2 : mget S1 3 = (S1, 0, 13) := by decide +kernel
theorem r3 : moff S1 4611686018427387904 1 = (4611686018427387905, 0) := by decide +kernel
theorem r4 : mput S1 4611686018427387905 (7, true) = (S2, 0) := by decide +kernel
theorem r5 : mload S2 4611686018427387905 = (7, 0) := by decide +kernel
theorem r6 : mload S2 4611686018427387904 = (0, 15) := by decide +kernel
theorem r7 : mfree S2 4611686018427387905 = (S2, 11) := by decide +kernel
theorem r8 : mfree S2 4611686018427387904 = (S3, 0) := by decide +kernel
theorem r9 : mfree S3 4611686018427387904 = (S3, 14) := by decide +kernel
theorem r10 : mget S3 1 = (S4, 4611686022722355200, 0) := by decide +kernel
theorem r11 : mload S4 4611686022722355201 = (0, 12) := by decide +kernel
theorem r12 : pcs S2.ents 0 = [(4611686018427387904, 2)] := by decide +kernel
theorem r13 : msize S2 4611686018427387905 = (2, 0) := by decide +kernel
theorem r14 : (mput S2 4611686018427387905 (0, false)).2 = 0 := by decide +kernel
theorem i0 : Inv (newSl 4) ∧ Small (newSl 4) 0 := ⟨newSl_inv 4 (by omega), newSl_small 4⟩
theorem i1 : Inv S1 ∧ Small S1 1 := by have := mget_keep i0.1 i0.2 2; rw [r1] at this; exact this
theorem i2 : Inv S2 ∧ Small S2 1 := by have := mput_keep i1.1 i1.2 4611686018427387905 (7, true); rw [r4] at this; exact this
theorem i3 : Inv S3 ∧ Small S3 2 := by have := mfree_keep i2.1 i2.2 4611686018427387904; rw [r8] at this; exact this
theorem i4 : Inv S4 ∧ Small S4 3 := by have := mget_keep i3.1 i3.2 1; rw [r10] at this; exact this
theorem Small.mono {st : Sl} {N M : Nat} (h : Small st N) (hm : N ≤ M) : Small st M := ⟨by have := h.ents; omega, by have := h.free; omega, fun e he => by have := h.sizes e he; omega⟩
end Go.Proofs.Ytbjofdijhcdmaaa
