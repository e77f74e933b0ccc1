/-
  The walk of Lex.
-/
import Derived.Test.YtinppjjhjijoeaaPass
namespace Go.Proofs.Ytinppjjhjijoeaa
set_option linter.unusedVariables false
open Go.RowKit

/-- A token's cells. -/
def tokCell (t : Tok) : List Value := [.int .i64 (t.kind : Int), .int .i64 (t.at_ : Int), .string ⟨t.text.toArray⟩, .int .i64 t.n]
def tokCells (ts : List Tok) : List Value := ts.flatMap tokCell
theorem tokCells_len : ∀ ts : List Tok, (tokCells ts).length = ts.length * 4
  | [] => rfl
  | t :: ts => by
    have := tokCells_len ts
    simp only [tokCells, List.flatMap_cons, List.length_append, List.length_cons] at this ⊢
    simp only [tokCell, List.length_cons, List.length_nil]
    omega
theorem tokCells_snoc (ts : List Tok) (t : Tok) : tokCells (ts ++ [t]) = tokCells ts ++ tokCell t := by simp [tokCells]

def pre (ts : List Tok) : Except Nat (List Tok) → Except Nat (List Tok)
  | .error q => .error q
  | .ok us => .ok (ts ++ us)
theorem pre_nil (r : Except Nat (List Tok)) : pre [] r = r := by cases r <;> rfl

def diag0 : Obj := .cells #[.int .i64 0, .int .i64 0] 25

/-- At the head of the loop. -/
structure LexI (s : ByteArray) (w wr : World) (v : Value) (ts : List Tok) (k : Nat) : Prop where
  row : wr.ownsRow (w.heap.size + 1) 35 4 v ts.length (tokCells ts)
  bel : Below (w.heap.size + 1) (w.alloc diag0) wr
  len : ts.length ≤ k
  lex : lexL s.data.toList = pre ts (lexFrom (s.data.toList.drop k) k)

/-- What Lex answers. -/
def LexAns (s : ByteArray) (w w' : World) (v : Value) (a c : Int) : Prop :=
  Below w.heap.size w w' ∧
  match lexL s.data.toList with
  | .ok ts => a = 0 ∧ c = 0 ∧ w'.ownsRow w.heap.size 35 4 v ts.length (tokCells ts)
  | .error q => v = .slice none 0 0 ∧ a = q ∧ c = 1
def LexPost (s : ByteArray) (w : World) (e : Ending) (w' : World) : Prop :=
  ∃ (v : Value) (a c : Int), e = .returned (.tuple #[v, .agg #[.int .i64 a, .int .i64 c]]) ∧ LexAns s w w' v a c

theorem ownsRow_base {w : World} {B B' : Nat} {e : TypeId} {size : Nat} {v : Value} {n : Nat} {xs : List Value} (h : w.ownsRow B e size v n xs) (hB : B' ≤ B) : w.ownsRow B' e size v n xs := by
  refine ⟨h.1, ?_⟩
  rcases h.2 with h | ⟨g, cap, cur, h1, h2, h3⟩
  · exact .inl h
  · exact .inr ⟨g, cap, cur, h1, Nat.le_trans hB h2, h3⟩

theorem diag_cells {w wr : World} (h : Below (w.heap.size + 1) (w.alloc diag0) wr) :
    wr.cell? ⟨w.heap.size, 0, none⟩ = some (.int .i64 0) ∧ wr.cell? ⟨w.heap.size, 1, none⟩ = some (.int .i64 0) ∧ wr.frozen? ⟨w.heap.size, 0, none⟩ = false ∧ wr.frozen? ⟨w.heap.size, 1, none⟩ = false := by
  have hq : wr.heap[w.heap.size]? = some (.cells #[.int .i64 0, .int .i64 0] 25 (0, 0)) := by
    rw [h.block _ (by omega)]; exact heap_alloc_new w _
  exact ⟨cell_at hq 0, cell_at hq 1, frozen_at hq 0, frozen_at hq 1⟩
theorem LexI.below {s : ByteArray} {w wr : World} {v : Value} {ts : List Tok} {k : Nat} (h : LexI s w wr v ts k) : Below w.heap.size w wr :=
  ((Below.refl w.heap.size w).alloc (Nat.le_refl _) diag0).trans (h.bel.mono (by omega))
theorem diag_on {w wr w2 : World} (h : Below (w.heap.size + 1) (w.alloc diag0) wr) (h2 : Below wr.heap.size wr w2) : Below (w.heap.size + 1) (w.alloc diag0) w2 :=
  h.trans (h2.mono (by have := h.size; rw [World.size_alloc] at this; omega))

theorem LexI.atEnd {s : ByteArray} {w wr : World} {v : Value} {ts : List Tok} (h : LexI s w wr v ts s.size) (x y : Value) :
    LexAns s w ((wr.setCell ⟨w.heap.size, 0, none⟩ x).setCell ⟨w.heap.size, 1, none⟩ y) v 0 0 := by
  refine ⟨below_put (below_put h.below _ _) _ _, ?_⟩
  have e : lexL s.data.toList = .ok ts := by
    rw [h.lex, size_list, List.drop_length, lexFrom_nil]
    simp [pre]
  rw [e]
  refine ⟨rfl, rfl, ownsRow_base (ownsRow_setCell_below (ownsRow_setCell_below h.row (by show w.heap.size < _; omega) _) (by show w.heap.size < _; omega) _) (by omega)⟩

theorem LexI.fail {s : ByteArray} {w wr w2 : World} {v : Value} {ts : List Tok} {k : Nat} (h : LexI s w wr v ts k) (hk : k < s.size) (hf : firstL (s.data.toList.drop k) = none) (h2 : Below wr.heap.size wr w2) (x y : Value) :
    LexAns s w ((w2.setCell ⟨w.heap.size, 0, none⟩ x).setCell ⟨w.heap.size, 1, none⟩ y) (.slice none 0 0) k 1 := by
  have hb : Below w.heap.size w w2 := h.below.trans (h2.mono h.below.size)
  refine ⟨below_put (below_put hb _ _) _ _, ?_⟩
  have e : lexL s.data.toList = .error k := by
    rw [h.lex, lexFrom_none k (fun e => by have := congrArg List.length e; rw [List.length_drop, ← size_list] at this; simp at this; omega) hf]
    rfl
  rw [e]
  exact ⟨rfl, rfl, rfl⟩

theorem cell_row_new (W : World) (cs : Array Value) (t : TypeId) (b : Nat) (hb : b = W.heap.size) : ∀ (j : Nat) (u : Value), cs.toList[j]? = some u → (W.alloc (.cells cs t)).cell? ((⟨b, 0, none⟩ : Addr).add j) = some u := by
  intro j u hj
  subst hb
  have := cell_at (heap_alloc_new W (.cells cs t)) j
  rw [← Array.getElem?_toList, hj] at this
  have e : ((⟨W.heap.size, 0, none⟩ : Addr).add j) = ⟨W.heap.size, j, none⟩ := by simp [Addr.add]; omega
  rw [e]
  exact this

theorem LexI.more {s : ByteArray} {w wr w2 w3 : World} {v v' : Value} {ts : List Tok} {k : Nat} {x : Fst} {cs : Array Value} {o : Obj} (h : LexI s w wr v ts k) (hk : k < s.size) (hf : firstL (s.data.toList.drop k) = some x) (h2 : Below wr.heap.size wr w2)
    (ho : w3.ownsRow (w.heap.size + 1) 35 4 v' (ts.length + 1) (tokCells ts ++ tokCell ⟨x.kind, k, (s.data.toList.drop k).take x.size, x.n⟩))
    (hg : ((w2.alloc (.cells cs 35)).alloc o).grownBy w3 v.ownBlock) :
    LexI s w w3 v' (ts ++ [⟨x.kind, k, (s.data.toList.drop k).take x.size, x.n⟩]) (k + x.size + passL false (s.data.toList.drop (k + x.size))) ∧ (∀ j, w3.cell? ⟨w2.heap.size, j, none⟩ = cs[j]?) := by
  have hx := firstL_size hf
  have hb2 := diag_on h.bel h2
  have hsz : w.heap.size + 1 ≤ w2.heap.size := by have := hb2.size; rw [World.size_alloc] at this; exact this
  refine ⟨⟨?_, ?_, ?_, ?_⟩, ?_⟩
  · rw [tokCells_snoc, List.length_append, List.length_singleton]; exact ho
  · refine ((hb2.alloc hsz _).alloc (by rw [World.size_alloc]; omega) _).grown hg (by rw [World.size_alloc, World.size_alloc]; omega) fun j hj => (h.row.lt j hj).1
  · rw [List.length_append, List.length_singleton]; have := h.len; omega
  · have e2 : (s.data.toList.drop k).drop x.size = s.data.toList.drop (k + x.size) := List.drop_drop
    rw [h.lex, lexFrom_some k hf, e2, List.drop_drop]
    generalize lexFrom (s.data.toList.drop (k + x.size + passL false (s.data.toList.drop (k + x.size)))) (k + x.size + passL false (s.data.toList.drop (k + x.size))) = r
    cases r with
    | error q => rfl
    | ok us => simp [pre]
  · intro j
    have hne : some w2.heap.size ≠ v.ownBlock := fun e => by
      have := (h.row.lt _ e.symm).2
      have := h2.size
      omega
    have hq : w3.heap[w2.heap.size]? = some (.cells cs 35 (0, 0)) := by
      rw [hg.block _ (by rw [World.size_alloc, World.size_alloc]; omega) hne, Below.heap_alloc _ _ _ (by rw [World.size_alloc]; omega)]
      exact heap_alloc_new w2 _
    exact cell_at hq j

theorem LexI.grow {s : ByteArray} {w wr w2 : World} {v : Value} {ts : List Tok} {k : Nat} (h : LexI s w wr v ts k) (h2 : Below wr.heap.size wr w2) : w2.ownsRow (w.heap.size + 1) 35 4 v ts.length (tokCells ts) := by
  refine h.row.kept (row := none) ⟨h2.os, h2.tape, h2.output, h2.size, fun j hj _ => h2.block j hj⟩ ?_
  cases hv : v.ownBlock with
  | none => exact .inl rfl
  | some g => exact .inr (by simp)


set_option maxHeartbeats 1000000 in
theorem lex_many (s : ByteArray) (hs : 16384 < s.size) (w : World) :
    Calls Try.prog 10 #[.string s] w fun e w' => e = .returned (.tuple #[.slice none 0 0, .agg #[.int .i64 16384, .int .i64 3]]) ∧ Below w.heap.size w w' := by
  go_enter Try.func10, Try.ntmps10
  go_wp2
  (try simp only [Exit.inBlock, Exit.then])
  refine bodyPost_ret (by simp [results, Try.results10, go_sem]; try rfl) rfl ?_
  exact ⟨rfl, (Below.refl w.heap.size w).alloc (Nat.le_refl _) _⟩

theorem Try.info35 : (Try.prog.info? 35).map (fun i => (i.zero, i.size, i.bytes)) = some (some (.agg #[.int .i64 0, .int .i64 0, .string ⟨#[]⟩, .int .i64 0]), 4, 40) := by kernel_rfl

set_option maxHeartbeats 4000000 in
theorem lex_any (s : ByteArray) (hs : s.size ≤ 16384) (w : World) :
    Calls Try.prog 10 #[.string s] w (LexPost s w) := by
  have c19 := fun a ha => pass_any s (by omega) a ha
  have hp0 := passL_le false s.data.toList
  rw [← size_list] at hp0
  have hst : Hid (LexI s w (w.alloc diag0) (.slice none 0 0) [] (passL false s.data.toList)) := hidIt ⟨World.ownsRow_nil _ _ _ _, Below.refl _ _, Nat.zero_le _, by rw [pre_nil]; rfl⟩
  have c0 : ∀ w, Calls Try.prog 19 #[.string s, .int .i64 0] w fun e w' => e = .returned (.int .i64 (passL false s.data.toList : Nat)) ∧ w = w' := fun w => (pass_any s (by omega) 0 (Nat.zero_le _) w).mono fun e w' ⟨h1, h2⟩ => ⟨by rw [h1, Nat.zero_add, List.drop_zero], h2⟩
  generalize passL false s.data.toList = p0 at hp0 hst c0
  go_enter Try.func10, Try.ntmps10
  go_wp2_with (first | (go_at_call 19; refine (c0 _).mono ?_; rintro e w' ⟨rfl, rfl⟩))
  clear c0
  go_loopw [4, 5] (fun v i wr => ∃ (k : Nat) (ts : List Tok), k ≤ s.size ∧ i = .int .i64 k ∧ Hid (LexI s w wr v ts k)) (fun _ i _ => s.size - (intOf i).toNat)
  case atStart => exact ⟨p0, [], hp0, rfl, hst⟩
  case round =>
    clear hst hp0
    obtain ⟨k, ts, hk, rfl, H⟩ := hrel
    obtain ⟨b0, b1, z0, z1⟩ := diag_cells H.out.bel
    by_cases hlt : k < s.size
    · have c1 := first_any (s.extract k s.size) (by rw [ByteArray.size_extract]; omega)
      rw [extract_drop] at c1
      cases hf : firstL (s.data.toList.drop k) with
      | none =>
        rw [hf] at c1
        simp only [fstV] at c1
        have hf := hidIt hf
        clear b0 b1 z0 z1 c19
        go_wp2_with (first | (go_at_call 20; refine (c1 _).mono ?_; rintro e w' ⟨rfl, hb⟩; have qd := fun o => diag_cells (diag_on H.out.bel (hb.alloc hb.size o)); have hb := hidIt hb))
        (try simp only [Exit.inBlock, Exit.then])
        refine bodyPost_ret (by simp [results, Try.results10, go_sem, qd]; try rfl) rfl ?_
        exact ⟨_, _, _, rfl, H.out.fail hlt hf.out (hb.out.alloc hb.out.size _) _ _⟩
      | some x =>
        rw [hf] at c1
        simp only [fstV] at c1
        have hx := firstL_size hf
        rw [List.length_drop, ← size_list] at hx
        obtain ⟨hx0, hx1⟩ := hx
        have c2 := c19 (k + x.size) (by omega)
        have ec : ((k + x.size : Nat) : Int) = (k : Int) + (x.size : Int) := by omega
        rw [ec] at c2
        have hlen : (⟨((s.data.toList.drop k).take x.size).toArray⟩ : ByteArray).size = x.size := by
          rw [size_list]; simp only [List.length_take, List.length_drop]; rw [← size_list]; omega
        have hmore := fun (w2 w3 : World) (v' : Value) (cs : Array Value) (o : Obj) h2 ho hg => LexI.more (w2 := w2) (w3 := w3) (v' := v') (cs := cs) (o := o) H.out hlt hf h2 ho hg
        have hple : k + x.size + passL false (s.data.toList.drop (k + x.size)) ≤ s.size := by
          have := passL_le false (s.data.toList.drop (k + x.size))
          rw [List.length_drop, ← size_list] at this
          omega
        have htl := H.out.len
        generalize (s.data.toList.drop k).take x.size = tx at c1 hlen hmore
        have hk1 : k + x.size ≤ k + x.size + passL false (s.data.toList.drop (k + x.size)) := Nat.le_add_right _ _
        generalize k + x.size + passL false (s.data.toList.drop (k + x.size)) = k' at c2 hmore hple hk1
        have Hmore := hidIt hmore
        clear hmore
        clear b0 b1 z0 z1 c19 hf ec
        obtain ⟨i0, hi, hz0, hz1, hz2⟩ := info_parts Try.info35
        go_wp2_with (first | (go_at_call 20; refine (c1 _).mono ?_; rintro e w' ⟨rfl, hb⟩; have hrow := hidIt (H.out.grow hb); have hsz := hidIt (diag_on H.out.bel hb).size; have hb := hidIt hb) | (at_builtin; go_must (refine wpList_append_own _ rfl _ _ 23 rfl (w.heap.size + 1) 35 i0 _ 4 40 Try.underlying23 hi hz0 hz1 hz2 rfl (by decide) _ _ _ rfl ((hrow.out.alloc _).alloc _) ⟨w'.heap.size + 1, 0, none⟩ 1 1 (tokCell ⟨x.kind, k, tx, x.n⟩) rfl rfl (cell_row_new _ _ _ _ (by simp)) (by simp [tokCell, Value.oneCell']) (by unfold maxLen; omega) (by omega) (by have := hsz.out; rw [World.size_alloc] at this; simp; omega) ?_)))
        intro v' w3 ho hg _
        obtain ⟨HI, hcell⟩ := Hmore.out _ _ _ _ _ hb.out ho hg
        have d2 : w3.cell? ⟨w'.heap.size, 2, none⟩ = some (.string ⟨tx.toArray⟩) := hcell 2
        have HI := hidIt HI
        clear ho hg hcell Hmore hrow hsz hb H c1
        go_wp2_with (first | (go_at_call 19; refine (c2 _).mono ?_; rintro e w' ⟨rfl, rfl⟩))
        go_roundw
        case rel => exact ⟨k', _, hple, rfl, HI⟩
        case measure => simp [intOf]; omega
    · obtain rfl : k = s.size := by omega
      clear c19
      go_wp2
      (try simp only [Exit.inBlock, Exit.then])
      refine bodyPost_ret (by simp [results, Try.results10, go_sem, b0, b1]; try rfl) rfl ?_
      exact ⟨_, _, _, rfl, H.out.atEnd _ _⟩
end Go.Proofs.Ytinppjjhjijoeaa
