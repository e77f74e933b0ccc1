/-
  A slab as data (its room, its pieces by index, the indexes that are free), and how it lies in memory; what a step on memory leaves of it. No walk here.
-/
import Derived.WalkKit
import Derived.WalkSpells
namespace Go.Proofs.Ytbjofdijhcdmaaa
set_option linter.unusedVariables false
open Go.RowKit

theorem hidIt {p : Prop} (h : p) : Hid p := h

/-- What is known of an index: the sizes of all its pieces, by age; the slots of the one that there is. -/
structure Ent where
  sizes : List Nat
  slots : List (Int × Bool)
deriving DecidableEq

structure Sl where
  room : Nat
  live : Nat
  used : Nat
  ents : List Ent
  free : List Nat
deriving DecidableEq

def slotCells (l : List (Int × Bool)) : List Value := l.flatMap fun s => [.int .i64 s.1, .bool s.2]
def sizeCells (l : List Nat) : List Value := l.map fun (n : Nat) => .int .u16 n
def freeCells (l : List Nat) : List Value := l.map fun (n : Nat) => .int .i64 n
def entCells (l : List (Value × Value)) : List Value := l.flatMap fun e => [e.1, e.2]

theorem slotCells_length (l : List (Int × Bool)) : (slotCells l).length = l.length * 2 := by
  induction l with
  | nil => rfl
  | cons a t ih => simp [slotCells] at ih ⊢; omega
theorem entCells_length (l : List (Value × Value)) : (entCells l).length = l.length * 2 := by
  induction l with
  | nil => rfl
  | cons a t ih => simp [entCells] at ih ⊢; omega
theorem flat2_get {α : Type} (f : α → Value) (g : α → Value) (l : List α) (i : Nat) :
    (l.flatMap fun e => [f e, g e])[i * 2]? = l[i]?.map f ∧ (l.flatMap fun e => [f e, g e])[i * 2 + 1]? = l[i]?.map g := by
  induction l generalizing i with
  | nil => simp
  | cons a t ih =>
    cases i with
    | zero => simp
    | succ i =>
      have := ih i
      simp only [List.flatMap_cons, List.cons_append, List.nil_append, List.getElem?_cons_succ]
      rw [show (i + 1) * 2 = i * 2 + 1 + 1 from by omega]
      simp only [List.getElem?_cons_succ]
      exact this
theorem flat2_set {α : Type} (f : α → Value) (g : α → Value) (l : List α) (i : Nat) (x : α) (h : i < l.length) :
    ((l.flatMap fun e => [f e, g e]).set (i * 2) (f x)).set (i * 2 + 1) (g x) = (l.set i x).flatMap fun e => [f e, g e] := by
  induction l generalizing i with
  | nil => simp at h
  | cons a t ih =>
    cases i with
    | zero => simp
    | succ i =>
      have := ih i (by simpa using h)
      simp only [List.flatMap_cons, List.cons_append, List.nil_append, List.set_cons_succ]
      rw [show (i + 1) * 2 = i * 2 + 1 + 1 from by omega]
      simp only [List.set_cons_succ]
      rw [this]
theorem entCells_set1 (l : List (Value × Value)) (i : Nat) (u v x : Value) (h : l[i]? = some (u, v)) : (entCells l).set (i * 2) x = entCells (l.set i (x, v)) := by
  have hl : i < l.length := (List.getElem?_eq_some_iff.1 h).1
  have := flat2_set (fun e : Value × Value => e.1) (fun e => e.2) l i (x, v) hl
  unfold entCells
  rw [← this]
  have h2 := (flat2_get (fun e : Value × Value => e.1) (fun e => e.2) l i).2
  rw [h] at h2
  simp only [Option.map_some] at h2
  refine (List.ext_getElem? fun k => ?_)
  simp only [List.getElem?_set, List.length_set]
  by_cases hk : i * 2 + 1 = k
  · subst hk
    simp only [if_true]
    rw [if_neg (by omega), h2, if_pos (List.getElem?_eq_some_iff.1 h2).1]
  · simp [hk]
theorem entCells_set2 (l : List (Value × Value)) (i : Nat) (u v x : Value) (h : l[i]? = some (u, v)) : (entCells l).set (i * 2 + 1) x = entCells (l.set i (u, x)) := by
  have hl : i < l.length := (List.getElem?_eq_some_iff.1 h).1
  have := flat2_set (fun e : Value × Value => e.1) (fun e => e.2) l i (u, x) hl
  unfold entCells
  rw [← this]
  have h2 := (flat2_get (fun e : Value × Value => e.1) (fun e => e.2) l i).1
  rw [h] at h2
  simp only [Option.map_some] at h2
  refine (List.ext_getElem? fun k => ?_)
  simp only [List.getElem?_set, List.length_set]
  by_cases hk : i * 2 + 1 = k
  · simp [hk]
  · rw [if_neg hk, if_neg hk]
    by_cases hk2 : i * 2 = k
    · subst hk2
      rw [if_pos rfl, if_pos (List.getElem?_eq_some_iff.1 h2).1, h2]
    · rw [if_neg hk2]

/-- The blocks of a slice lie among those of fp. -/
def OB (fp : Nat → Prop) (v : Value) : Prop := ∀ k, v.ownBlock = some k → fp k
def apart (u v : Value) : Prop := ∀ k, u.ownBlock = some k → v.ownBlock ≠ some k

/-- THE SLAB AT BLOCK A IS st, in blocks of fp alone. -/
structure RepAt (w : World) (A : Nat) (st : Sl) (fp : Nat → Prop) (ve vf : Value) (es : List (Value × Value)) : Prop where
  head : w.heap[A]? = some (.cells #[.int .i64 st.room, .int .i64 st.live, .int .i64 st.used, ve, vf] 69 (0, 0))
  fpA : fp A
  fplt : ∀ k, fp k → k < w.heap.size
  ents : w.ownsRow 0 86 2 ve es.length (entCells es)
  fpE : OB fp ve
  free : w.ownsRow 0 3 1 vf st.free.length (freeCells st.free)
  fpF : OB fp vf
  len : es.length = st.ents.length
  sizes : ∀ (i : Nat) (e : Ent) (v : Value × Value), st.ents[i]? = some e → es[i]? = some v → w.ownsRow 0 56 1 v.1 e.sizes.length (sizeCells e.sizes) ∧ OB fp v.1
  slots : ∀ (i : Nat) (e : Ent) (v : Value × Value), st.ents[i]? = some e → es[i]? = some v → w.ownsRow 0 91 2 v.2 e.slots.length (slotCells e.slots) ∧ OB fp v.2
  apart1 : ∀ (i j : Nat) (u v : Value × Value), i ≠ j → es[i]? = some u → es[j]? = some v → apart u.1 v.1
  apart2 : ∀ (i j : Nat) (u v : Value × Value), i ≠ j → es[i]? = some u → es[j]? = some v → apart u.2 v.2

def Rep (w : World) (A : Nat) (st : Sl) (fp : Nat → Prop) : Prop := ∃ ve vf es, RepAt w A st fp ve vf es

/-- Blocks that were there and are none of fp's have not turned. -/
structure Kp (fp : Nat → Prop) (w w' : World) : Prop where
  os : w'.os = w.os
  tape : w'.tape = w.tape
  output : w'.output = w.output
  size : w.heap.size ≤ w'.heap.size
  block : ∀ k, k < w.heap.size → ¬ fp k → w'.heap[k]? = w.heap[k]?

/-- fp's blocks, and those that are new. -/
def ext (fp : Nat → Prop) (w w' : World) : Nat → Prop := fun k => fp k ∨ (w.heap.size ≤ k ∧ k < w'.heap.size)

theorem Kp.refl (fp : Nat → Prop) (w : World) : Kp fp w w := ⟨rfl, rfl, rfl, Nat.le_refl _, fun _ _ _ => rfl⟩
theorem Kp.trans {fp : Nat → Prop} {a b c : World} (h : Kp fp a b) (k : Kp (ext fp a b) b c) : Kp fp a c :=
  ⟨k.os.trans h.os, k.tape.trans h.tape, k.output.trans h.output, Nat.le_trans h.size k.size, fun i hi hn =>
    (k.block i (Nat.lt_of_lt_of_le hi h.size) (fun e => by rcases e with e | e; exact hn e; omega)).trans (h.block i hi hn)⟩
theorem Kp.trans' {fp : Nat → Prop} {a b c : World} (h : Kp fp a b) (k : Kp fp b c) : Kp fp a c :=
  ⟨k.os.trans h.os, k.tape.trans h.tape, k.output.trans h.output, Nat.le_trans h.size k.size, fun i hi hn =>
    (k.block i (Nat.lt_of_lt_of_le hi h.size) hn).trans (h.block i hi hn)⟩
theorem Kp.below {fp : Nat → Prop} {a b : World} {B : Nat} (h : Kp fp a b) (hB : B ≤ a.heap.size) (hf : ∀ k, fp k → B ≤ k) : Below B a b :=
  ⟨h.os, h.tape, h.output, h.size, fun k hk => h.block k (by omega) (fun e => by have := hf k e; omega)⟩
theorem Kp.mono {fp fp' : Nat → Prop} {a b : World} (h : Kp fp a b) (hf : ∀ k, fp k → fp' k) : Kp fp' a b :=
  ⟨h.os, h.tape, h.output, h.size, fun k hk hn => h.block k hk (fun e => hn (hf k e))⟩
theorem Kp.alloc (fp : Nat → Prop) (w : World) (o : Obj) : Kp fp w (w.alloc o) :=
  ⟨rfl, rfl, rfl, by simp, fun k hk _ => Below.heap_alloc _ _ _ hk⟩
theorem Kp.drew {fp : Nat → Prop} {a w : World} (h : Kp fp a w) : Kp fp a w.drew := ⟨h.os, h.tape, h.output, h.size, h.block⟩
theorem Kp.setCell {fp : Nat → Prop} (w : World) {p : Addr} (hp : fp p.block) (u : Value) : Kp fp w (w.setCell p u) :=
  ⟨rfl, rfl, rfl, by simp [World.setCell], fun k _ hn => Below.heap_setCell _ _ _ _ (fun e => hn (e ▸ hp))⟩
theorem Kp.grown {fp : Nat → Prop} {w w' : World} {row : Option Nat} (hg : w.grownBy w' row) (hr : ∀ k, row = some k → fp k) : Kp fp w w' :=
  ⟨hg.os, hg.tape, hg.output, hg.size, fun k hk hn => hg.block k hk (fun e => hn (hr k e.symm))⟩
theorem Kp.cell {fp : Nat → Prop} {w w' : World} (h : Kp fp w w') {p : Addr} {v : Value} (hc : w.cell? p = some v) (hn : ¬ fp p.block) : w'.cell? p = some v :=
  (World.cell?_of_block (w := w) (h.block p.block (World.block_lt_of_cell? w p hc) hn)).trans hc

theorem ownsRow_of_block {w w' : World} {base : Nat} {e : TypeId} {size : Nat} {v : Value} {n : Nat} {xs : List Value} (h : w.ownsRow base e size v n xs)
    (hb : ∀ k, v.ownBlock = some k → w'.heap[k]? = w.heap[k]?) : w'.ownsRow base e size v n xs := by
  refine ⟨h.1, ?_⟩
  rcases h.2 with hn | ⟨g, cap, cur, rfl, hb', hgg, rest⟩
  · exact .inl hn
  · exact .inr ⟨g, cap, cur, rfl, hb', by rw [hb g rfl]; exact hgg, rest⟩

theorem OB.mono {fp fp' : Nat → Prop} {v : Value} (h : OB fp v) (hf : ∀ k, fp k → fp' k) : OB fp' v := fun k hk => hf k (h k hk)

/-- What is in no block of fp does not matter. -/
theorem RepAt.frame {w w' : World} {A : Nat} {st : Sl} {fp : Nat → Prop} {ve vf : Value} {es : List (Value × Value)} (h : RepAt w A st fp ve vf es)
    (hs : w.heap.size ≤ w'.heap.size) (hb : ∀ k, fp k → w'.heap[k]? = w.heap[k]?) : RepAt w' A st fp ve vf es where
  head := by rw [hb A h.fpA]; exact h.head
  fpA := h.fpA
  fplt := fun k hk => Nat.lt_of_lt_of_le (h.fplt k hk) hs
  ents := ownsRow_of_block h.ents fun k hk => hb k (h.fpE k hk)
  fpE := h.fpE
  free := ownsRow_of_block h.free fun k hk => hb k (h.fpF k hk)
  fpF := h.fpF
  len := h.len
  sizes := fun i e v h1 h2 => ⟨ownsRow_of_block (h.sizes i e v h1 h2).1 fun k hk => hb k ((h.sizes i e v h1 h2).2 k hk), (h.sizes i e v h1 h2).2⟩
  slots := fun i e v h1 h2 => ⟨ownsRow_of_block (h.slots i e v h1 h2).1 fun k hk => hb k ((h.slots i e v h1 h2).2 k hk), (h.slots i e v h1 h2).2⟩
  apart1 := h.apart1
  apart2 := h.apart2
theorem Rep.frame {w w' : World} {A : Nat} {st : Sl} {fp : Nat → Prop} (h : Rep w A st fp) (hs : w.heap.size ≤ w'.heap.size) (hb : ∀ k, fp k → w'.heap[k]? = w.heap[k]?) : Rep w' A st fp := by
  obtain ⟨ve, vf, es, h⟩ := h
  exact ⟨ve, vf, es, h.frame hs hb⟩
/-- Another one's blocks have turned. -/
theorem Rep.other {w w' : World} {A : Nat} {st : Sl} {fp fp2 : Nat → Prop} (h : Rep w A st fp) (hk : Kp fp2 w w') (hd : ∀ k, fp k → ¬ fp2 k) : Rep w' A st fp := by
  obtain ⟨ve, vf, es, h⟩ := h
  exact ⟨ve, vf, es, h.frame hk.size fun k hf => hk.block k (h.fplt k hf) (hd k hf)⟩
theorem RepAt.mono {w : World} {A : Nat} {st : Sl} {fp fp' : Nat → Prop} {ve vf : Value} {es : List (Value × Value)} (h : RepAt w A st fp ve vf es)
    (hf : ∀ k, fp k → fp' k) (hl : ∀ k, fp' k → k < w.heap.size) : RepAt w A st fp' ve vf es :=
  { head := h.head, fpA := hf _ h.fpA, fplt := hl, ents := h.ents, fpE := h.fpE.mono hf, free := h.free, fpF := h.fpF.mono hf, len := h.len,
    sizes := fun i e v a b => ⟨(h.sizes i e v a b).1, (h.sizes i e v a b).2.mono hf⟩, slots := fun i e v a b => ⟨(h.slots i e v a b).1, (h.slots i e v a b).2.mono hf⟩,
    apart1 := h.apart1, apart2 := h.apart2 }
theorem Rep.mono {w : World} {A : Nat} {st : Sl} {fp fp' : Nat → Prop} (h : Rep w A st fp) (hf : ∀ k, fp k → fp' k) (hl : ∀ k, fp' k → k < w.heap.size) : Rep w A st fp' := by
  obtain ⟨ve, vf, es, h⟩ := h
  exact ⟨ve, vf, es, h.mono hf hl⟩
theorem Rep.lt {w : World} {A : Nat} {st : Sl} {fp : Nat → Prop} (h : Rep w A st fp) : ∀ k, fp k → k < w.heap.size := by
  obtain ⟨ve, vf, es, h⟩ := h
  exact h.fplt

/-- What a slice that is owned looks like. -/
theorem own_shape {w : World} {base : Nat} {e : TypeId} {size : Nat} {v : Value} {n : Nat} {xs : List Value} (h : w.ownsRow base e size v n xs) :
    ∃ ao cap, v = .slice ao n cap ∧ (0 < n → ∃ g, ao = some ⟨g, 0, none⟩) ∧ n ≤ cap ∧ cap ≤ maxLen := by
  rcases h.2 with ⟨rfl, rfl⟩ | ⟨g, cap, cur, rfl, _, _, hnc, hm, _⟩
  · exact ⟨none, 0, rfl, by simp, by simp, by simp [maxLen]⟩
  · exact ⟨_, cap, rfl, fun _ => ⟨g, rfl⟩, hnc, hm⟩
theorem own_pos {w : World} {base : Nat} {e : TypeId} {size : Nat} {v : Value} {n : Nat} {xs : List Value} (h : w.ownsRow base e size v n xs) (hn : 0 < n) :
    ∃ g cap, v = .slice (some ⟨g, 0, none⟩) n cap ∧ n ≤ cap ∧ cap ≤ maxLen := by
  rcases h.2 with ⟨rfl, rfl⟩ | ⟨g, cap, cur, rfl, _, _, hnc, hm, _⟩
  · omega
  · exact ⟨g, cap, rfl, hnc, hm⟩
/-- The element type of a slice's block. -/
theorem own_block {w : World} {base : Nat} {e : TypeId} {size : Nat} {v : Value} {n : Nat} {xs : List Value} (h : w.ownsRow base e size v n xs) {k : Nat} (hk : v.ownBlock = some k) :
    ∃ cur, w.heap[k]? = some (.cells cur e (0, 0)) := by
  rcases h.2 with ⟨rfl, _⟩ | ⟨g, cap, cur, rfl, _, hg, _⟩
  · simp [Value.ownBlock] at hk
  · simp [Value.ownBlock] at hk
    subst hk
    exact ⟨cur, hg⟩
theorem own_apart {w : World} {base base' : Nat} {e e' : TypeId} {size size' : Nat} {v v' : Value} {n n' : Nat} {xs xs' : List Value}
    (h : w.ownsRow base e size v n xs) (h' : w.ownsRow base' e' size' v' n' xs') (hne : e ≠ e') : apart v v' := by
  intro k hk hk'
  obtain ⟨c, hc⟩ := own_block h hk
  obtain ⟨c', hc'⟩ := own_block h' hk'
  rw [hc] at hc'
  simp at hc'
  exact hne hc'.2
theorem own_ne {w : World} {base : Nat} {e : TypeId} {size : Nat} {v : Value} {n : Nat} {xs : List Value} (h : w.ownsRow base e size v n xs) {A : Nat} {cs : Array Value} {t : TypeId} {fr : Nat × Nat}
    (hA : w.heap[A]? = some (.cells cs t fr)) (hne : e ≠ t) : v.ownBlock ≠ some A := by
  intro hk
  obtain ⟨c, hc⟩ := own_block h hk
  rw [hA] at hc
  simp at hc
  exact hne hc.2.1.symm
/-- The first m of what is owned. -/
theorem own_take {w : World} {base : Nat} {e : TypeId} {size : Nat} {ao : Option Addr} {n cap : Nat} {xs : List Value} (h : w.ownsRow base e size (.slice ao n cap) n xs) (hn : 0 < n) {m : Nat} (hm : m ≤ n) :
    w.ownsRow base e size (.slice ao m cap) m (xs.take (m * size)) := by
  have hmul : m * size ≤ n * size := Nat.mul_le_mul_right _ hm
  rcases h.2 with ⟨h', rfl⟩ | ⟨g, cap', cur, h', hb, hg, hnc, hcm, hcs, ht⟩
  · omega
  · simp only [Value.slice.injEq, true_and] at h'
    obtain ⟨rfl, rfl⟩ := h'
    refine ⟨by rw [List.length_take, h.1]; omega, .inr ⟨g, cap, cur, rfl, hb, hg, by omega, hcm, hcs, ?_⟩⟩
    rw [← ht, List.take_take, Nat.min_eq_left hmul]
end Go.Proofs.Ytbjofdijhcdmaaa
