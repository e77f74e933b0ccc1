/-
  Slices as rows of cells, in whatever world holds them.
-/
import Derived.Test.YtlppbgmcoknliaaGreatDoorSplit
import Derived.Shelf.SlicesQ.Load
import Derived.Laws.StructEq
namespace Go.Proofs.YtlppbgmcoknliaaGreatDoor
set_option linter.unusedVariables false
open Go.RowKit

/-- A slice's address, and its rows of k cells each. -/
structure Sl (w : World) (k : Nat) (a : Option Addr) (rows : List (List Value)) : Prop where
  len : ∀ r ∈ rows, r.length = k
  big : rows.length ≤ 1048576
  at_ : rows = [] ∨ ∃ b off, a = some ⟨b, off, none⟩ ∧ b < w.heap.size ∧ ∀ j r i v, rows[j]? = some r → r[i]? = some v → w.cell? ⟨b, off + j * k + i, none⟩ = some v

theorem Sl.on {w w' : World} {k : Nat} {a : Option Addr} {rows : List (List Value)} (h : Sl w k a rows) (hb : Below w.heap.size w w') : Sl w' k a rows := by
  refine ⟨h.len, h.big, ?_⟩
  rcases h.at_ with h | ⟨b, off, e, hlt, hc⟩
  · exact .inl h
  · refine .inr ⟨b, off, e, Nat.lt_of_lt_of_le hlt hb.size, fun j r i v hr hv => ?_⟩
    rw [hb.cell (p := ⟨b, off + j * k + i, none⟩) hlt]
    exact hc j r i v hr hv
theorem Sl.nil {w : World} {k : Nat} {a : Option Addr} : Sl w k a [] := ⟨fun r h => by simp at h, by simp, .inl rfl⟩

/-- A row is loaded whole. -/
theorem Sl.load {w : World} {k : Nat} {a : Option Addr} {rows : List (List Value)} (h : Sl w k a rows) {j : Nat} {r : List Value} (hj : rows[j]? = some r) :
    ∃ b off, a = some ⟨b, off, none⟩ ∧ ∀ W, Below w.heap.size w W → Sem.run Tryz.prog (loadCellsFrom ⟨b, off + j * k, none⟩ 0 k #[]) W = .ok r.toArray W := by
  rcases h.at_ with h0 | ⟨b, off, e, hlt, hc⟩
  · rw [h0] at hj; simp at hj
  · refine ⟨b, off, e, fun W hW => run_loadCellsFrom_list _ _ _ r k (h.len r (List.mem_of_getElem? hj)) fun i v hv => ?_⟩
    rw [Addr.add_lit, hW.cell (p := ⟨b, off + j * k + i, none⟩) hlt]
    exact hc j r i v hj hv

/-- Texts, a cell each. -/
def strs (xs : List ByteArray) : List (List Value) := xs.map fun s => [.string s]
theorem strs_len (xs : List ByteArray) : (strs xs).length = xs.length := by simp [strs]
/-- A slice of texts. -/
def St (w : World) (a : Option Addr) (xs : List ByteArray) : Prop := Sl w 1 a (strs xs)
theorem St.on {w w' : World} {a : Option Addr} {xs : List ByteArray} (h : St w a xs) (hb : Below w.heap.size w w') : St w' a xs := Sl.on h hb
theorem St.big {w : World} {a : Option Addr} {xs : List ByteArray} (h : St w a xs) : xs.length ≤ 1048576 := by have := Sl.big h; rwa [strs_len] at this
theorem St.nil {w : World} {a : Option Addr} : St w a [] := Sl.nil
theorem St.cell {w : World} {a : Option Addr} {xs : List ByteArray} (h : St w a xs) {j : Nat} {s : ByteArray} (hj : xs[j]? = some s) :
    ∃ b off, a = some ⟨b, off, none⟩ ∧ ∀ W, Below w.heap.size w W → W.cell? ⟨b, off + j, none⟩ = some (.string s) := by
  rcases Sl.at_ h with h0 | ⟨b, off, e, hlt, hc⟩
  · have : xs = [] := by simpa [strs] using h0
    rw [this] at hj; simp at hj
  · refine ⟨b, off, e, fun W hW => ?_⟩
    rw [hW.cell (p := ⟨b, off + j, none⟩) hlt]
    have := hc j [.string s] 0 (.string s) (by simp [strs, hj]) rfl
    simpa using this

/-- Are two texts the same? -/
def bq (a b : ByteArray) : Bool := a.toList == b.toList
theorem bq_iff {a b : ByteArray} : bq a b = true ↔ a = b := by
  unfold bq
  rw [beq_iff_eq, ByteArray.toList_eq, ByteArray.toList_eq]
  exact ⟨fun h => ByteArray.ext (Array.ext' h), fun h => by rw [h]⟩
theorem bq_refl (a : ByteArray) : bq a a = true := bq_iff.2 rfl
/-- Are two lists the same, one by one? -/
def lq {α : Type} (f : α → α → Bool) : List α → List α → Bool
  | [], [] => true
  | a :: l, b :: m => f a b && lq f l m
  | _, _ => false
theorem lq_len {α : Type} {f : α → α → Bool} : ∀ {a b : List α}, a.length ≠ b.length → lq f a b = false
  | [], [], h => absurd rfl h
  | [], b :: m, h => rfl
  | a :: l, [], h => rfl
  | a :: l, b :: m, h => by
    rw [lq, lq_len (a := l) (b := m) (by simpa using h), Bool.and_false]
theorem lq_at {α : Type} {f : α → α → Bool} : ∀ {a b : List α} {k : Nat} {x y : α}, a[k]? = some x → b[k]? = some y → f x y = false → lq f a b = false
  | [], _, k, x, y, hx, _, _ => by simp at hx
  | a :: l, [], k, x, y, _, hy, _ => by simp at hy
  | a :: l, b :: m, 0, x, y, hx, hy, h => by
    simp at hx hy
    rw [lq, hx, hy, h, Bool.false_and]
  | a :: l, b :: m, k + 1, x, y, hx, hy, h => by
    simp at hx hy
    rw [lq, lq_at hx hy h, Bool.and_false]
theorem lq_all {α : Type} {f : α → α → Bool} : ∀ {a b : List α}, a.length = b.length → (∀ (j : Nat) (x y : α), a[j]? = some x → b[j]? = some y → f x y = true) → lq f a b = true
  | [], [], _, _ => rfl
  | [], b :: m, hl, _ => by simp at hl
  | a :: l, [], hl, _ => by simp at hl
  | a :: l, b :: m, hl, h => by
    rw [lq, h 0 a b rfl rfl, lq_all (a := l) (b := m) (by simpa using hl) fun j x y hx hy => h (j + 1) x y (by simpa using hx) (by simpa using hy)]
    rfl
theorem lq_iff {α : Type} {f : α → α → Bool} (hf : ∀ x y, f x y = true ↔ x = y) : ∀ {a b : List α}, lq f a b = true ↔ a = b
  | [], [] => by simp [lq]
  | [], b :: m => by simp [lq]
  | a :: l, [] => by simp [lq]
  | a :: l, b :: m => by simp [lq, hf, lq_iff hf]
/-- Are two lists of texts the same? -/
def sq (a b : List ByteArray) : Bool := lq bq a b
theorem sq_iff {a b : List ByteArray} : sq a b = true ↔ a = b := lq_iff fun _ _ => bq_iff

end Go.Proofs.YtlppbgmcoknliaaGreatDoor
