/-
  A range over an iterator whose elements lie in memory: what the body may take of each one as it comes.
-/
import Derived.Test.YtlppbgmcoknliaaGreatDoorUse3
namespace Go.Proofs.YtlppbgmcoknliaaGreatDoor
set_option linter.unusedVariables false
open Go.RowKit Go.Shelf

/-- What such an iterator promises: A is true of each element when it is handed on; of what was handed on so far Sp is true, of all S. -/
def SeqA {α : Type} (n : Nat) (P : Program) (g : Nat) (lb : Array Value) (encs : α → Array Value) (A : α → World → Prop) (Kp : World → World → Prop) (S Sp : List α → Prop) (w : World) : Prop :=
  ∀ (l : Nat) (J Jx : List α → World → Prop) (W : World), Kp w W → AbidesFrom W.heap.size J →
    (∀ pre x W1, J pre W1 → Sp (pre ++ [x]) → A x W1 → YieldAt Fence.wide (n - 1) P l (encs x) W1 fun e W' =>
      (e = .returned (.bool true) ∧ J (pre ++ [x]) W' ∧ Kp W1 W') ∨ (e = .returned (.bool false) ∧ Jx (pre ++ [x]) W')) →
    J [] W →
    CallsIn Fence.wide n P g (#[.func (.yield l) #[] #[]] ++ lb) W fun e W' => (∃ v, e = .returned v) ∧ ((∃ xs, S xs ∧ J xs W') ∨ (∃ pre, Sp pre ∧ Jx pre W'))

section
variable {α : Type} {n : Nat} {P : Program} {g : Operand} {ps : Array Tmp} {assign body : Code} {Q : Exit → Act → World → Prop} {a : Act} {w : World}

theorem rangeA (h1 : 1 ≤ n) {gf : Nat} {lb : Array Value} (hg : a.eval g = .func (.func gf) #[] lb) (eg : ∀ args w, (callFunc gf args).run P w = .ok (.enter gf args) w)
    {encs : α → Array Value} {A : α → World → Prop} {Kp : World → World → Prop} {S Sp : List α → Prop} {w0 : World} (hseq : SeqA (n - 1) P gf lb encs A Kp S Sp w0)
    (hKt : ∀ {A B C : World}, Kp A B → Kp B C → Kp A C) (hKb : ∀ (W : World) (l : Nat) (o o' : Obj), w.heap.size ≤ l → W.heap[l]? = some o → Kp W (W.putObj l o')) (hKw : ∀ W, Below w.heap.size w W → Kp w0 W) (hps : ∀ x, (encs x).size = ps.size)
    (hA : ∀ (x : α) (W : World) (l : Nat) (o o' : Obj), w.heap.size ≤ l → W.heap[l]? = some o → o.isCells = false → A x W → A x (W.putObj l o'))
    (I : List α → World → Prop) (Ix : Code → List α → World → Prop) (hI : OwnFrom w.heap.size I) (hIx : ∀ c, OwnFrom w.heap.size (Ix c)) (h0 : I [] w) (a₁ : α → Act)
    (hassign : ∀ (l : Nat) (x : α) (W : World) (K : Act → World → Prop), K (a₁ x) W →
      assign.wpIn (Fence.wide.inRound l) (n - 1 - 1) P (Exit.then K (fun _ _ _ => False)) { tmps := (ps.zip (encs x)).foldl (fun t (p, v) => t.setIfInBounds p v) a.tmps, defers := [] } W)
    (hbody : ∀ (l : Nat) (pre : List α) (x : α) (W : World), I pre W → Sp (pre ++ [x]) → A x W → body.wpIn (Fence.wide.inRound l) (n - 1 - 1) P (ownPostK Kp I Ix (pre ++ [x]) W) (a₁ x) W)
    (hdone : ∀ (D : Nat) (xs : List α) (W : World), w.heap.size ≤ D → S xs → I xs W → W.heap[D]? = some (.deferred (some [])) → Q .normal { a with defers := { target := .collected D, args := #[] } :: a.defers } W)
    (hstop : ∀ (D : Nat) (c : Code) (pre : List α) (W : World), w.heap.size ≤ D → Sp pre → Ix c pre W → W.heap[D]? = some (.deferred (some [])) → c.wpIn Fence.wide n P Q { a with defers := { target := .collected D, args := #[] } :: a.defers } W) :
    (Code.rangeFunc g ps assign body).wpIn Fence.wide n P Q a w := by
  refine wpIn_rangeFunc ?_
  intro fn hfn
  let rc : LoopState → Option Code → Obj := fun st pe => .loop { state := st, pending := pe, fn := fn, tmps := a.tmps, params := ps, assign := assign, body := body, defers := w.heap.size }
  obtain ⟨D, hD⟩ : ∃ D, D = w.heap.size := ⟨_, rfl⟩
  obtain ⟨r, hr⟩ : ∃ r, r = w.heap.size + 1 := ⟨_, rfl⟩
  obtain ⟨W1, hW1⟩ : ∃ W1, W1 = (w.alloc (.deferred (some []))).alloc (rc .ready none) := ⟨_, rfl⟩
  have hr1 : W1.heap[r]? = some (rc .ready none) := by
    rw [hW1, hr]
    have := World.alloc_heap_new (w.alloc (.deferred (some []))) (rc .ready none)
    rwa [World.size_alloc] at this
  have hD1 : W1.heap[D]? = some (.deferred (some [])) := by
    rw [hW1, hD]
    exact (Below.heap_alloc _ _ _ (by simp)).trans (World.alloc_heap_new w _)
  have hb1 : Below w.heap.size w W1 := by
    rw [hW1]
    exact ((Below.refl _ w).alloc (Nat.le_refl _) _).alloc (by simp) _
  have hs1 : w.heap.size ≤ W1.heap.size := hb1.size
  have hI1 : I [] W1 := by rw [hW1]; exact hI.alloc _ (hI.alloc _ h0)
  have hne : D ≠ r := by omega
  refine ⟨r, [{ target := .collected D, args := #[] }], W1, { target := .fn (.func gf) lb, args := #[.func (.yield r) #[] #[]] }, W1, gf, #[.func (.yield r) #[] #[]] ++ lb, W1, ?_, ?_, fun f' _ => trivial, ?_, fun _ => h1, ?_⟩
  · rw [hW1, hr, hD]
    exact run_enterLoop_outer _ _ _ _ _
  · simp only [resolve, hg]
    simp [go_sem]
  · simp [invoke, go_sem, eg]
  refine (hseq r (fun pre W => I pre W ∧ W.heap[r]? = some (rc .ready none) ∧ W.heap[D]? = some (.deferred (some [])))
    (fun pre W => ∃ c, Ix c pre W ∧ W.heap[r]? = some (rc .done (some c)) ∧ W.heap[D]? = some (.deferred (some []))) W1 (hKw W1 hb1) ?_ ?_ ⟨hI1, hr1, hD1⟩).mono ?_
  · rintro s W W' row ⟨hi, hl, hd⟩ hgr hro
    exact ⟨hI s W W' row hi hgr (fun q e => by obtain ⟨hB, o, ho, hw⟩ := hro q e; exact ⟨Nat.le_trans hs1 hB, o, ho, Obj.not_cells_of_walk hw⟩), (grownBy_keeps hgr (fun q e => (hro q e).2) hl rfl).trans hl, (grownBy_keeps hgr (fun q e => (hro q e).2) hd rfl).trans hd⟩
  · rintro pre x W ⟨hi, hl, hd⟩ hsp hax
    have hlt : r < W.heap.size := (Array.getElem?_eq_some_iff.1 hl).1
    refine ⟨fn, _, assign, body, run_yield (P := P) (args := encs x) hl (hps x), roundIn_of_wpIn hfn (hassign _ x W _ ⟨_, run_beginRound hl rfl, ?_⟩)⟩
    have hb : (W.putObj r (rc .busy none)).heap[r]? = some (rc .busy none) := World.putObj_heap_same hlt
    have hbd : (W.putObj r (rc .busy none)).heap[D]? = some (.deferred (some [])) := (World.putObj_heap_other hne).trans hd
    have hk2 : Kp W (W.putObj r (rc .busy none)) := hKb _ _ _ _ (by omega) hl
    refine wpIn_mono (hbody r pre x _ (hI.putObj _ hi (by omega) hl rfl) hsp (hA x W r _ _ (by omega) hl rfl hax)) ?_
    have behind : ∀ (st : LoopState) (jump : Option Code) (W3 : World), KeepsOthers (W.putObj r (rc .busy none)) W3 →
        W3.heap[r]? = some (rc .busy none) ∧ (W3.putObj r (rc st jump)).heap[r]? = some (rc st jump) ∧ (W3.putObj r (rc st jump)).heap[D]? = some (.deferred (some [])) := fun st jump W3 hk => by
      have e1 := hk.same _ _ hb rfl
      exact ⟨e1, World.putObj_heap_same (Array.getElem?_eq_some_iff.1 e1).1, (World.putObj_heap_other hne).trans (hk.same _ _ hbd rfl)⟩
    rintro e a3 W3 hp
    cases e with
    | normal =>
      obtain ⟨hk, hkp, hi3⟩ := hp
      obtain ⟨e1, e2, e3⟩ := behind .ready none W3 hk
      exact ⟨_, _, run_endRound (P := P) none e1, .inl ⟨rfl, ⟨hI.putObj _ hi3 (by omega) e1 rfl, e2, e3⟩, hKt (hKt hk2 hkp) (hKb _ _ _ _ (by omega) e1)⟩⟩
    | ret =>
      obtain ⟨hk, hi3⟩ := hp
      obtain ⟨e1, e2, e3⟩ := behind .done (some .ret) W3 hk
      exact ⟨_, _, run_endRound (P := P) (some .ret) e1, .inr ⟨rfl, ⟨.ret, (hIx _).putObj _ hi3 (by omega) e1 rfl, e2, e3⟩⟩⟩
    | exit i =>
      obtain ⟨hk, hi3⟩ := hp
      obtain ⟨e1, e2, e3⟩ := behind .done (some (.exit i)) W3 hk
      exact ⟨_, _, run_endRound (P := P) (some (.exit i)) e1, .inr ⟨rfl, ⟨.exit i, (hIx _).putObj _ hi3 (by omega) e1 rfl, e2, e3⟩⟩⟩
    | goto t =>
      obtain ⟨hk, hi3⟩ := hp
      obtain ⟨e1, e2, e3⟩ := behind .done (some (.goto t)) W3 hk
      exact ⟨_, _, run_endRound (P := P) (some (.goto t)) e1, .inr ⟨rfl, ⟨.goto t, (hIx _).putObj _ hi3 (by omega) e1 rfl, e2, e3⟩⟩⟩
    | panic ch => exact hp.elim
    | outgrown => exact hp.elim
  · rintro e W2 ⟨⟨v, rfl⟩, (⟨xs, hS, hi, hl, hd⟩ | ⟨pre, hSp, c, hi, hl, hd⟩)⟩
    · exact ⟨none, _, run_endLoop (P := P) hl (by simp), hdone D xs _ (by omega) hS (hI.putObj _ hi (by omega) hl rfl) ((World.putObj_heap_other (by omega)).trans hd)⟩
    · exact ⟨some c, _, run_endLoop (P := P) hl (by simp), hstop D c pre _ (by omega) hSp ((hIx c).putObj _ hi (by omega) hl rfl) ((World.putObj_heap_other (by omega)).trans hd)⟩
end

theorem uses1_seq (n Bn B0 : Nat) (ps : List PlaceX) (wU : World) (hU : US B0 Bn ps wU) :
    SeqA n Tryz.prog 74 #[.pointer (some ⟨Bn, 0, none⟩)] encP (fun x W => x.At W) (KpR B0 wU.heap.size) (fun xs => xs.map PlaceX.d = ps.map PlaceX.d) (fun pre => pre.map PlaceX.d <+: ps.map PlaceX.d) wU :=
  fun l J Jx W hW hJ hY h0 => uses1_in n l Bn B0 ps wU hU J Jx hY W hW hJ h0
theorem St.put {W : World} {a : Option Addr} {xs : List ByteArray} (h : St W a xs) {l : Nat} {o : Obj} (o' : Obj) (hl : W.heap[l]? = some o) (hc : o.isCells = false) : St (W.putObj l o') a xs := by
  refine ⟨h.len, Sl.big h, ?_⟩
  rcases Sl.at_ h with h0 | ⟨b, off, e, hlt, hcell⟩
  · exact .inl h0
  · refine .inr ⟨b, off, e, by simpa using hlt, fun j r i v hr hv => ?_⟩
    have hcl := hcell j r i v hr hv
    rw [World.cell?_of_block (w := W) (World.putObj_heap_other (fun e2 => by
      have e2 : b = l := e2
      subst e2
      simp [World.cell?, hl] at hcl
      cases o <;> simp_all [Obj.isCells]))]
    exact hcl
theorem KpR.put {B0 B1 : Nat} {w : World} (hB : B1 ≤ w.heap.size) (W : World) (l : Nat) (o o' : Obj) (hl : w.heap.size ≤ l) (h : W.heap[l]? = some o) : KpR B0 B1 W (W.putObj l o') :=
  ⟨by simp, fun k _ h1 => World.putObj_heap_other (by omega)⟩
end Go.Proofs.YtlppbgmcoknliaaGreatDoor
