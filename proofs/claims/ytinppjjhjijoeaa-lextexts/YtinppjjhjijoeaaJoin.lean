/-
  The walk of Join.
-/
import Derived.Test.YtinppjjhjijoeaaBld
namespace Go.Proofs.Ytinppjjhjijoeaa
set_option linter.unusedVariables false
open Go.RowKit

def joinT : List UInt8 → List (List UInt8) → List UInt8
  | acc, [] => acc
  | acc, x :: l => joinT (acc ++ 32 :: x) l
/-- Texts, with one blank between each two. -/
def joinL : List (List UInt8) → List UInt8
  | [] => []
  | x :: l => joinT x l
theorem joinT_snoc : ∀ (l : List (List UInt8)) (acc x : List UInt8), joinT acc (l ++ [x]) = joinT acc l ++ 32 :: x
  | [], acc, x => rfl
  | y :: l, acc, x => by simp only [List.cons_append, joinT]; exact joinT_snoc l _ x
theorem joinL_snoc (l : List (List UInt8)) (x : List UInt8) (h : l ≠ []) : joinL (l ++ [x]) = joinL l ++ 32 :: x := by
  cases l with
  | nil => exact absurd rfl h
  | cons y l => exact joinT_snoc l y x
def texts (ts : List Tok) : List (List UInt8) := ts.map (fun t => t.text)

theorem tokCells_get : ∀ (ts : List Tok) (k : Nat) (h : k < ts.length) (j : Nat), j < 4 → (tokCells ts)[4 * k + j]? = (tokCell ts[k])[j]?
  | [], k, h, _, _ => absurd h (by simp)
  | t :: ts, 0, h, j, hj => by
    simp only [tokCells, List.flatMap_cons, List.getElem_cons_zero, Nat.mul_zero, Nat.zero_add]
    rw [List.getElem?_append_left (by simp [tokCell]; omega)]
  | t :: ts, k + 1, h, j, hj => by
    have ih := tokCells_get ts k (by simpa using h) j hj
    simp only [tokCells, List.flatMap_cons, List.getElem_cons_succ] at ih ⊢
    rw [List.getElem?_append_right (by simp [tokCell]; omega)]
    have : 4 * (k + 1) + j - (tokCell t).length = 4 * k + j := by simp [tokCell]; omega
    rw [this]
    exact ih

/-- A token's cells in its row. -/
theorem row_at {w : World} {B : Nat} {ao : Option Addr} {cap : Nat} {ts : List Tok} (h : w.ownsRow B 35 4 (.slice ao ts.length cap) ts.length (tokCells ts)) {k : Nat} (hk : k < ts.length) :
    ∃ g, ao = some ⟨g, 0, none⟩ ∧ w.heap[g]? ≠ none ∧ w.cell? ⟨g, k * 4, none⟩ = some (.int .i64 (ts[k].kind : Int)) ∧ w.cell? ⟨g, k * 4 + 1, none⟩ = some (.int .i64 (ts[k].at_ : Int)) ∧ w.cell? ⟨g, k * 4 + 2, none⟩ = some (.string ⟨ts[k].text.toArray⟩) ∧ w.cell? ⟨g, k * 4 + 3, none⟩ = some (.int .i64 ts[k].n) := by
  rcases h.2 with ⟨_, h0⟩ | ⟨g, cap', cur, hv, hB, hg, hle, _, hsz, htk⟩
  · omega
  · injection hv with h1 h2 h3
    subst h1 h3
    have hc := fun (j : Nat) (hj : j < 4) => (h.cellAt (k * 4 + j) (by omega)).trans ((congrArg (fun i => (tokCells ts)[i]?) (by omega : k * 4 + j = 4 * k + j)).trans (tokCells_get ts k hk j hj))
    exact ⟨g, rfl, by rw [hg]; simp, hc 0 (by omega), hc 1 (by omega), hc 2 (by omega), hc 3 (by omega)⟩

theorem row_kept {w w' : World} {B : Nat} {e : TypeId} {size : Nat} {v : Value} {n : Nat} {xs : List Value} (h : w.ownsRow B e size v n xs) (hb : Below w.heap.size w w') : w'.ownsRow B e size v n xs := by
  refine h.kept (row := none) ⟨hb.os, hb.tape, hb.output, hb.size, fun j hj _ => hb.block j hj⟩ ?_
  cases hv : v.ownBlock with
  | none => exact .inl rfl
  | some g => exact .inr (by simp)
theorem bld_alloc {T e : TypeId} {B b : Nat} {bs : List Value} {w : World} (h : Lib.IsBuilder T e B b bs w) (o : Obj) : Lib.IsBuilder T e B b bs (w.alloc o) := by
  rcases h with ⟨h1, v, hb, ho, hne⟩ | ⟨h1, v, hb, ho, hne⟩
  · exact .inl ⟨h1, v, (Below.heap_alloc _ _ _ (Array.getElem?_eq_some_iff.1 hb).1).trans hb, ho.alloc o, hne⟩
  · exact .inr ⟨h1, v, (Below.heap_alloc _ _ _ (Array.getElem?_eq_some_iff.1 hb).1).trans hb, ho.alloc o, hne⟩

structure JI (w wr : World) (ts : List Tok) (k : Nat) : Prop where
  bld : Lib.IsBuilder 52 5 w.heap.size w.heap.size (Lib.byteCells (joinL (texts (ts.take k)))) wr
  bel : Below w.heap.size w wr

theorem joinT_ge : ∀ (l : List (List UInt8)) (acc : List UInt8), acc.length ≤ (joinT acc l).length
  | [], acc => Nat.le_refl _
  | x :: l, acc => by
    have := joinT_ge l (acc ++ 32 :: x)
    simp only [joinT]
    simp only [List.length_append, List.length_cons] at this
    omega
theorem joinT_take : ∀ (l : List (List UInt8)) (k : Nat) (acc : List UInt8), (joinT acc (l.take k)).length ≤ (joinT acc l).length
  | [], k, acc => by simp
  | x :: l, 0, acc => by rw [List.take_zero]; exact joinT_ge (x :: l) acc
  | x :: l, k + 1, acc => joinT_take l k _
theorem joinL_take (l : List (List UInt8)) (k : Nat) : (joinL (l.take k)).length ≤ (joinL l).length := by
  cases l with
  | nil => simp
  | cons x l =>
    cases k with
    | zero => simp [joinL]
    | succ k => exact joinT_take l k x
theorem texts_take (ts : List Tok) (k : Nat) : texts (ts.take k) = (texts ts).take k := by simp [texts, List.map_take]
theorem texts_next (ts : List Tok) (k : Nat) (h : k < ts.length) : texts (ts.take (k + 1)) = texts (ts.take k) ++ [ts[k].text] := by
  rw [List.take_succ_eq_append_getElem h]
  simp only [texts, List.map_append, List.map_cons, List.map_nil]
theorem cells_first (ts : List Tok) (h : 0 < ts.length) : Lib.byteCells (joinL (texts (ts.take 0))) ++ Lib.strCells ⟨ts[0].text.toArray⟩ = Lib.byteCells (joinL (texts (ts.take 1))) := by
  rw [texts_next ts 0 h]
  simp [texts, joinL, joinT, Lib.byteCells, Lib.strCells]
theorem cells_next (ts : List Tok) (k : Nat) (h : k < ts.length) (h0 : 0 < k) : Lib.byteCells (joinL (texts (ts.take k))) ++ [.int .u8 32] ++ Lib.strCells ⟨ts[k].text.toArray⟩ = Lib.byteCells (joinL (texts (ts.take (k + 1)))) := by
  rw [texts_next ts k h, joinL_snoc _ _ (by
    intro e
    have := congrArg List.length e
    simp only [texts, List.length_map, List.length_take, List.length_nil] at this
    omega)]
  simp [Lib.byteCells, Lib.strCells]
theorem len_now (ts : List Tok) (k : Nat) : (Lib.byteCells (joinL (texts (ts.take k)))).length ≤ (joinL (texts ts)).length := by
  rw [Lib.byteCells_length, texts_take]
  exact joinL_take _ _

theorem box_text {w w1 : World} {a b c d : Value} (h : K35 (w.alloc (.cells #[a, b, c, d] 35)) w1) : w1.cell? ⟨w.heap.size, 2, none⟩ = some c :=
  cell_at (h _ _ _ (heap_alloc_new w (.cells #[a, b, c, d] 35))) 2

set_option maxHeartbeats 1000000 in
theorem join_any (ts : List Tok) (ao : Option Addr) (cap B : Nat) (w : World) (h : w.ownsRow B 35 4 (.slice ao ts.length cap) ts.length (tokCells ts)) (hc : ts.length ≤ 1000000) (hl : (joinL (texts ts)).length ≤ 1000000) :
    Calls Try.prog 17 #[.slice ao ts.length cap] w fun e w' => e = .returned (.string ⟨(joinL (texts ts)).toArray⟩) ∧ Below w.heap.size w w' := by
  have H := hidIt h
  have hst : Hid (JI w (w.alloc (.cells #[.pointer none, .slice none 0 0] 52)) ts 0) := hidIt ⟨Lib.fresh_isBuilder 52 5 w, (Below.refl _ _).alloc (Nat.le_refl _) _⟩
  have hl := hidIt hl
  clear h
  go_enter Try.func17, Try.ntmps17
  go_wp2
  go_loopw [8] (fun i wr => ∃ k : Nat, k ≤ ts.length ∧ i = .int .i64 k ∧ Hid (JI w wr ts k)) (fun i _ => ts.length - (intOf i).toNat)
  case atStart => exact ⟨0, Nat.zero_le _, rfl, hst⟩
  case round =>
    clear hst
    obtain ⟨k, hk, rfl, HJ⟩ := hrel
    by_cases hlt : k < ts.length
    · have HR := hidIt (row_kept H.out HJ.out.bel)
      obtain ⟨g, rfl, _, c0, c1, c2, c3⟩ := row_at HR.out (k := k) hlt
      have hlk := len_now ts k
      have hlk1 := len_now ts (k + 1)
      by_cases h0 : k = 0
      · have hz : ¬ ((0 : Int) < (k : Int)) := by omega
        have e1 : Lib.byteCells (joinL (texts (ts.take k))) ++ Lib.strCells ⟨ts[k].text.toArray⟩ = Lib.byteCells (joinL (texts (ts.take (k + 1)))) := by subst h0; exact cells_first ts hlt
        have e1l := congrArg List.length e1
        rw [List.length_append, Lib.strCells_length] at e1l
        have C29 := fun o => writeString_any w.heap.size w.heap.size (Lib.byteCells (joinL (texts (ts.take k)))) ⟨ts[k].text.toArray⟩ (wr.alloc o) (bld_alloc HJ.out.bld o) (by have := hl.out; omega) (by have := HJ.out.bel.size; rw [World.size_alloc]; omega)
        rw [e1] at C29
        have C29 := hidIt C29
        clear e1 e1l hlk hlk1 h0
        go_wp2_with (first | (go_at_call 29; refine (C29.out _).mono ?_; rintro e w' ⟨rfl, hw⟩; have hw := hidIt hw))
        go_roundw
        case rel => exact ⟨k + 1, by omega, by go_num, hw.out.bld, (HJ.out.bel.alloc HJ.out.bel.size _).trans hw.out.bel⟩
        case measure => simp [intOf]; omega
      · have hz : (0 : Int) < (k : Int) := by omega
        have e1 := cells_next ts k hlt (by omega)
        have e1l := congrArg List.length e1
        rw [List.length_append, Lib.strCells_length] at e1l
        have C28 := hidIt fun o => writeByte_any w.heap.size w.heap.size (Lib.byteCells (joinL (texts (ts.take k)))) 32 (wr.alloc o) (bld_alloc HJ.out.bld o) (by have := hl.out; omega) (by have := HJ.out.bel.size; rw [World.size_alloc]; omega)
        have C29 := fun w1 h1 h3 => writeString_any w.heap.size w.heap.size (Lib.byteCells (joinL (texts (ts.take k))) ++ [.int .u8 32]) ⟨ts[k].text.toArray⟩ w1 h1 (by have := hl.out; omega) h3
        rw [e1] at C29
        have C29 := hidIt C29
        have hws := hidIt HJ.out.bel.size
        clear e1 e1l hlk hlk1 h0
        go_wp2_with (first | (go_at_call 28; refine (C28.out _).mono ?_; rintro e w1 ⟨rfl, hw1⟩; have q2 := box_text hw1.k35; have hw1 := hidIt hw1) | (go_at_call 29; refine (C29.out w1 hw1.out.bld (Nat.le_trans (Nat.le_trans hws.out (by rw [World.size_alloc]; omega)) hw1.out.bel.size)).mono ?_; rintro e w' ⟨rfl, hw⟩; have hw := hidIt hw))
        go_roundw
        case rel => exact ⟨k + 1, by omega, by go_num, hw.out.bld, ((HJ.out.bel.alloc HJ.out.bel.size _).trans hw1.out.bel).trans hw.out.bel⟩
        case measure => simp [intOf]; omega
    · obtain rfl : k = ts.length := by omega
      have hB := HJ.out.bld
      rw [List.take_length] at hB
      have C30 := hidIt (Try.Builder_String_any w.heap.size w.heap.size _ wr hB HJ.out.bel.size)
      have HB := hidIt HJ.out.bel
      clear hB HJ
      go_wp2_with (first | (go_at_call 30; refine C30.out.mono ?_; rintro e w' ⟨rfl, hb⟩))
      go_ret
      exact ⟨rfl, HB.out.trans hb⟩
end Go.Proofs.Ytinppjjhjijoeaa
