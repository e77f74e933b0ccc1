/-
  Iterators that keep blocks of their own (an iterator that ranges over another one has them: a record for each range): what such an iterator promises, and a range over one. G: the blocks that are the iterator's; what ranges over it has others.
-/
import Derived.Test.YtcaibfalhkhleaaDoorRep
import Derived.RangeFuncNested
import Derived.RangeFuncBound
import Derived.RangeFuncCalls
import Derived.RangeFuncLeaves
namespace Go.Proofs.YtcaibfalhkhleaaDoor
set_option linter.unusedVariables false
open Go.RowKit

/-- It does not hang on the iterator's blocks, nor on new ones; and none of its own becomes the iterator's. -/
def Sep {α : Type} (J : List α → (Nat → Prop) → World → Prop) : Prop :=
  ∀ s G G' W W', J s G W → Kp G W W' → (∀ k, G' k → G k ∨ (W.heap.size ≤ k ∧ k < W'.heap.size)) → J s G' W'

/-- The iterator's blocks have not turned. -/
structure Kept (G : Nat → Prop) (W W' : World) : Prop where
  size : W.heap.size ≤ W'.heap.size
  block : ∀ k, k < W.heap.size → G k → W'.heap[k]? = W.heap[k]?
theorem Kept.refl (G : Nat → Prop) (W : World) : Kept G W W := ⟨Nat.le_refl _, fun _ _ _ => rfl⟩
theorem Kept.at {G : Nat → Prop} {W W' : World} (h : Kept G W W') {k : Nat} {o : Obj} (hk : W.heap[k]? = some o) (hG : G k) : W'.heap[k]? = some o :=
  (h.block k (Array.getElem?_eq_some_iff.1 hk).1 hG).trans hk
theorem Kept.of_kp {fp G : Nat → Prop} {W W' : World} (h : Kp fp W W') (hd : ∀ k, G k → ¬ fp k) : Kept G W W' := ⟨h.size, fun k hk hG => h.block k hk (hd k hG)⟩

/-- WHAT AN ITERATOR PROMISES: it hands on the list L; or it is left behind a beginning of it. (K: what must be true of the world all the while.) -/
def SeqG {α : Type} (n : Nat) (P : Program) (g : Nat) (lb : Array Value) (encs : α → Array Value) (K : World → Prop) (L : List α) (w : World) : Prop :=
  ∀ (l : Nat) (J Jx : List α → (Nat → Prop) → World → Prop) (W : World), Below w.heap.size w W → Sep J → Sep Jx → (∀ s G W, J s G W → K W) →
    (∀ pre x G W1, J pre G W1 → pre ++ [x] <+: L → YieldAt Fence.wide (n - 1) P l (encs x) W1 fun e W' =>
      (e = .returned (.bool true) ∧ J (pre ++ [x]) G W' ∧ Kept G W1 W') ∨ (e = .returned (.bool false) ∧ Jx (pre ++ [x]) G W' ∧ Kept G W1 W')) →
    J [] (fun _ => False) W →
    CallsIn Fence.wide n P g (#[.func (.yield l) #[] #[]] ++ lb) W fun e W' => (∃ v, e = .returned v) ∧ ((∃ G, J L G W') ∨ (∃ pre G, pre <+: L ∧ Jx pre G W'))

/-- How a round may be left. -/
def leftG {α : Type} (G : Nat → Prop) (I : List α → (Nat → Prop) → World → Prop) (Ix : Code → List α → (Nat → Prop) → World → Prop) (xs : List α) (W : World) : Exit → Act → World → Prop
  | .normal, _, W' => Kept G W W' ∧ I xs G W'
  | .ret, _, W' => Kept G W W' ∧ Ix .ret xs G W'
  | .exit i, _, W' => Kept G W W' ∧ Ix (.exit i) xs G W'
  | .goto t, _, W' => Kept G W W' ∧ Ix (.goto t) xs G W'
  | .panic _, _, _ => False
  | .outgrown, _, _ => False

theorem kp_put {fp : Nat → Prop} (W : World) {l : Nat} (o : Obj) (hl : fp l) : Kp fp W (W.putObj l o) := by
  have hg := grownBy_putObj' W l o
  exact ⟨hg.os, hg.tape, hg.output, hg.size, fun k hk hn => hg.block k hk (fun e => by cases e; exact hn hl)⟩
theorem Sep.put {α : Type} {J : List α → (Nat → Prop) → World → Prop} (h : Sep J) {s : List α} {G : Nat → Prop} {W : World} (hj : J s G W) {l : Nat} (hl : G l) (o : Obj) : J s G (W.putObj l o) :=
  h s G G W _ hj (kp_put W o hl) (fun k hk => .inl hk)

section
variable {α : Type} {n : Nat} {P : Program} {g : Operand} {ps : Array Tmp} {assign body : Code} {Q : Exit → Act → World → Prop} {a : Act} {w : World}

/-- A RANGE OVER SUCH AN ITERATOR. -/
theorem rangeG (h1 : 1 ≤ n) {gf : Nat} {lb : Array Value} (hg : a.eval g = .func (.func gf) #[] lb) (eg : ∀ args w, (callFunc gf args).run P w = .ok (.enter gf args) w)
    {encs : α → Array Value} {K₀ : World → Prop} {L : List α} {w0 : World} (hseq : SeqG (n - 1) P gf lb encs K₀ L w0) (hb0 : Below w0.heap.size w0 w) (hps : ∀ x, (encs x).size = ps.size)
    (I : List α → (Nat → Prop) → World → Prop) (Ix : Code → List α → (Nat → Prop) → World → Prop) (hI : Sep I) (hIx : ∀ c, Sep (Ix c)) (hIK : ∀ s G W, I s G W → K₀ W) (h0 : I [] (fun _ => False) w) (a₁ : α → Act)
    (hassign : ∀ (l : Nat) (x : α) (W : World) (K : Act → World → Prop), K (a₁ x) W →
      assign.wpIn (Fence.wide.inRound l) (n - 1 - 1) P (Exit.then K (fun _ _ _ => False)) { tmps := (ps.zip (encs x)).foldl (fun t (p, v) => t.setIfInBounds p v) a.tmps, defers := [] } W)
    (hbody : ∀ (l : Nat) (pre : List α) (x : α) (G : Nat → Prop) (W : World), I pre G W → pre ++ [x] <+: L → body.wpIn (Fence.wide.inRound l) (n - 1 - 1) P (leftG G I Ix (pre ++ [x]) W) (a₁ x) W)
    (hdone : ∀ (D : Nat) (G : Nat → Prop) (W : World), w.heap.size ≤ D → G D → I L G W → W.heap[D]? = some (.deferred (some [])) → Q .normal { a with defers := { target := .collected D, args := #[] } :: a.defers } W)
    (hstop : ∀ (D : Nat) (c : Code) (pre : List α) (G : Nat → Prop) (W : World), w.heap.size ≤ D → G D → pre <+: L → Ix c pre G W → W.heap[D]? = some (.deferred (some [])) → c.wpIn Fence.wide n P Q { a with defers := { target := .collected D, args := #[] } :: a.defers } W) :
    (Code.rangeFunc g ps assign body).wpIn Fence.wide n P Q a w := by
  refine wpIn_rangeFunc ?_
  intro fn hfn
  -- the two blocks of this range: its record r, and D for calls that are put off
  let rc : LoopState → Option Code → Obj := fun st pe => .loop { state := st, pending := pe, fn := fn, tmps := a.tmps, params := ps, assign := assign, body := body, defers := w.heap.size }
  obtain ⟨D, hD⟩ : ∃ D, D = w.heap.size := ⟨_, rfl⟩
  obtain ⟨r, hr⟩ : ∃ r, r = w.heap.size + 1 := ⟨_, rfl⟩
  obtain ⟨W1, hW1⟩ : ∃ W1, W1 = (w.alloc (.deferred (some []))).alloc (rc .ready none) := ⟨_, rfl⟩
  have hr1 : W1.heap[r]? = some (rc .ready none) := by
    rw [hW1, hr]
    have := World.alloc_heap_new (w.alloc (.deferred (some []))) (rc .ready none)
    rwa [World.size_alloc] at this
  have hD1 : W1.heap[D]? = some (.deferred (some [])) := by
    rw [hW1, hD]
    exact (Below.heap_alloc _ _ _ (by simp)).trans (World.alloc_heap_new w _)
  have hk1 : Kp (fun _ => False) w W1 := by
    rw [hW1]
    exact ((Kp.refl _ w).alloc _).alloc _
  let J : List α → (Nat → Prop) → World → Prop := fun pre G W => I pre (fun k => G k ∨ k = D ∨ k = r) W ∧ W.heap[r]? = some (rc .ready none) ∧ W.heap[D]? = some (.deferred (some [])) ∧ ¬ G r ∧ ¬ G D
  let Jx : List α → (Nat → Prop) → World → Prop := fun pre G W => ∃ c, Ix c pre (fun k => G k ∨ k = D ∨ k = r) W ∧ W.heap[r]? = some (rc .done (some c)) ∧ W.heap[D]? = some (.deferred (some [])) ∧ ¬ G r ∧ ¬ G D
  have grow : ∀ {G G' : Nat → Prop} {W W' : World}, Kp G W W' → (∀ k, G' k → G k ∨ (W.heap.size ≤ k ∧ k < W'.heap.size)) →
      Kp (fun k => G k ∨ k = D ∨ k = r) W W' ∧ (∀ k, (G' k ∨ k = D ∨ k = r) → (G k ∨ k = D ∨ k = r) ∨ (W.heap.size ≤ k ∧ k < W'.heap.size)) := fun hk hG => ⟨hk.mono fun k h => .inl h, fun k h => by
    rcases h with h | h
    · rcases hG k h with h | h
      · exact .inl (.inl h)
      · exact .inr h
    · exact .inl (.inr h)⟩
  have apart : ∀ {G G' : Nat → Prop} {W W' : World} {k : Nat} {o : Obj}, (∀ k, G' k → G k ∨ (W.heap.size ≤ k ∧ k < W'.heap.size)) → W.heap[k]? = some o → ¬ G k → ¬ G' k := fun hG ho hn h => by
    rcases hG _ h with h | h
    · exact hn h
    · have := (Array.getElem?_eq_some_iff.1 ho).1
      omega
  refine ⟨r, [{ target := .collected D, args := #[] }], W1, { target := .fn (.func gf) lb, args := #[.func (.yield r) #[] #[]] }, W1, gf, #[.func (.yield r) #[] #[]] ++ lb, W1, ?_, ?_, fun f' _ => trivial, ?_, fun _ => h1, ?_⟩
  · rw [hW1, hr, hD]
    exact run_enterLoop_outer _ _ _ _ _
  · simp only [resolve, hg]
    simp [go_sem]
  · simp [invoke, go_sem, eg]
  refine (hseq r J Jx W1 (hb0.trans ((hk1.below (Nat.le_refl _) fun _ h => h.elim).mono hb0.size)) ?_ ?_ (fun s G W h => hIK _ _ _ h.1) ?_ ?_).mono ?_
  · rintro s G G' W W' ⟨hi, hl, hd, n1, n2⟩ hk hG
    exact ⟨hI _ _ _ _ _ hi (grow hk hG).1 (grow hk hG).2, hk.at hl n1, hk.at hd n2, apart hG hl n1, apart hG hd n2⟩
  · rintro s G G' W W' ⟨c, hi, hl, hd, n1, n2⟩ hk hG
    exact ⟨c, hIx c _ _ _ _ _ hi (grow hk hG).1 (grow hk hG).2, hk.at hl n1, hk.at hd n2, apart hG hl n1, apart hG hd n2⟩
  · rintro pre x G W ⟨hi, hl, hd, n1, n2⟩ hlen
    have hne : D ≠ r := by omega
    have hlt : r < W.heap.size := (Array.getElem?_eq_some_iff.1 hl).1
    refine ⟨fn, _, assign, body, run_yield (P := P) (args := encs x) hl (hps x), roundIn_of_wpIn hfn (hassign _ x W _ ⟨_, run_beginRound hl rfl, ?_⟩)⟩
    have hb : (W.putObj r (rc .busy none)).heap[r]? = some (rc .busy none) := World.putObj_heap_same hlt
    have hbd : (W.putObj r (rc .busy none)).heap[D]? = some (.deferred (some [])) := (World.putObj_heap_other hne).trans hd
    refine wpIn_mono (hbody r pre x _ _ (hI.put hi (.inr (.inr rfl)) (rc .busy none)) hlen) ?_
    have behind : ∀ (st : LoopState) (jump : Option Code) (W3 : World), Kept (fun k => G k ∨ k = D ∨ k = r) (W.putObj r (rc .busy none)) W3 →
        W3.heap[r]? = some (rc .busy none) ∧ (W3.putObj r (rc st jump)).heap[r]? = some (rc st jump) ∧ (W3.putObj r (rc st jump)).heap[D]? = some (.deferred (some [])) ∧ Kept G W (W3.putObj r (rc st jump)) := fun st jump W3 hk => by
      have e1 := hk.at hb (.inr (.inr rfl))
      have hs := hk.size
      have hs' : W.heap.size ≤ W3.heap.size := by simpa using hs
      refine ⟨e1, World.putObj_heap_same (Array.getElem?_eq_some_iff.1 e1).1, (World.putObj_heap_other hne).trans (hk.at hbd (.inr (.inl rfl))), by simpa using hs', fun k hk' hG => ?_⟩
      have hkr : k ≠ r := fun e => n1 (e ▸ hG)
      rw [World.putObj_heap_other hkr, hk.block k (by simpa using hk') (.inl hG), World.putObj_heap_other hkr]
    rintro e a3 W3 hp
    cases e with
    | normal =>
      obtain ⟨hk, hi3⟩ := hp
      obtain ⟨e1, e2, e3, e4⟩ := behind .ready none W3 hk
      exact ⟨_, _, run_endRound (P := P) none e1, .inl ⟨rfl, ⟨hI.put hi3 (.inr (.inr rfl)) _, e2, e3, n1, n2⟩, e4⟩⟩
    | ret =>
      obtain ⟨hk, hi3⟩ := hp
      obtain ⟨e1, e2, e3, e4⟩ := behind .done (some .ret) W3 hk
      exact ⟨_, _, run_endRound (P := P) (some .ret) e1, .inr ⟨rfl, ⟨.ret, (hIx _).put hi3 (.inr (.inr rfl)) _, e2, e3, n1, n2⟩, e4⟩⟩
    | exit i =>
      obtain ⟨hk, hi3⟩ := hp
      obtain ⟨e1, e2, e3, e4⟩ := behind .done (some (.exit i)) W3 hk
      exact ⟨_, _, run_endRound (P := P) (some (.exit i)) e1, .inr ⟨rfl, ⟨.exit i, (hIx _).put hi3 (.inr (.inr rfl)) _, e2, e3, n1, n2⟩, e4⟩⟩
    | goto t =>
      obtain ⟨hk, hi3⟩ := hp
      obtain ⟨e1, e2, e3, e4⟩ := behind .done (some (.goto t)) W3 hk
      exact ⟨_, _, run_endRound (P := P) (some (.goto t)) e1, .inr ⟨rfl, ⟨.goto t, (hIx _).put hi3 (.inr (.inr rfl)) _, e2, e3, n1, n2⟩, e4⟩⟩
    | panic ch => exact hp.elim
    | outgrown => exact hp.elim
  · refine ⟨hI _ _ _ _ _ h0 hk1 (fun k h => ?_), hr1, hD1, fun h => h, fun h => h⟩
    rcases h with h | h | h
    · exact h.elim
    · exact .inr ⟨by omega, by rw [h]; exact (Array.getElem?_eq_some_iff.1 hD1).1⟩
    · exact .inr ⟨by omega, by rw [h]; exact (Array.getElem?_eq_some_iff.1 hr1).1⟩
  · rintro e W2 ⟨⟨v, rfl⟩, (⟨G, hi, hl, hd, n1, n2⟩ | ⟨pre, G, hSp, c, hi, hl, hd, n1, n2⟩)⟩
    · exact ⟨none, _, run_endLoop (P := P) hl (by simp), hdone D _ _ (by omega) (.inr (.inl rfl)) (hI.put hi (.inr (.inr rfl)) _) ((World.putObj_heap_other (by omega)).trans hd)⟩
    · exact ⟨some c, _, run_endLoop (P := P) hl (by simp), hstop D c pre _ _ (by omega) (.inr (.inl rfl)) hSp ((hIx c).put hi (.inr (.inr rfl)) _) ((World.putObj_heap_other (by omega)).trans hd)⟩
end
end Go.Proofs.YtcaibfalhkhleaaDoor
