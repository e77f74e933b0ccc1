/-
  The walk of slices.Clone, of each type.
-/
import Derived.Test.YtlppbgmcoknliaaGreatDoorEqs
import Derived.Shelf.RegionOpenPlain
import Derived.Laws.AppendOwn
namespace Go.Proofs.YtlppbgmcoknliaaGreatDoor
set_option linter.unusedVariables false
open Go.RowKit

/-- A slice whose rows lie in memory from a block on, at its beginning. -/
structure Own (w : World) (B : Nat) (ty : TypeId) (k : Nat) (a : Option Addr) (rows : List (List Value)) : Prop where
 len : ∀ r ∈ rows, r.length = k
 big : rows.length ≤ 1048576
 at_ : rows = [] ∨ ∃ g cur, a = some ⟨g, 0, none⟩ ∧ B ≤ g ∧ w.heap[g]? = some (.cells cur ty (0, 0)) ∧ ∀ j r i v, rows[j]? = some r → r[i]? = some v → cur[j * k + i]? = some v
theorem Own.sl {w : World} {B : Nat} {ty : TypeId} {k : Nat} {a : Option Addr} {rows : List (List Value)} (h : Own w B ty k a rows) : Sl w k a rows := by
 refine ⟨h.len, h.big, ?_⟩
 rcases h.at_ with h0 | ⟨g, cur, e, hB, hh, hc⟩
 · exact .inl h0
 · refine .inr ⟨g, 0, e, (Array.getElem?_eq_some_iff.1 hh).1, fun j r i v hj hi => ?_⟩
   rw [Nat.zero_add, cell_at hh]
   exact hc j r i v hj hi
theorem flat_at {k : Nat} : ∀ {rows : List (List Value)}, (∀ r ∈ rows, r.length = k) → ∀ {j : Nat} {r : List Value} {i : Nat} {v : Value}, rows[j]? = some r → r[i]? = some v → rows.flatten[j * k + i]? = some v
 | [], _, j, r, i, v, hj, _ => by simp at hj
 | a :: l, hl, 0, r, i, v, hj, hi => by
  simp at hj
  subst hj
  have h1 := (List.getElem?_eq_some_iff.1 hi).1
  rw [List.flatten_cons, List.getElem?_append_left (by omega), Nat.zero_mul, Nat.zero_add]
  exact hi
 | a :: l, hl, j + 1, r, i, v, hj, hi => by
  have h0 : a.length = k := hl a (by simp)
  have e : (j + 1) * k = j * k + k := Nat.succ_mul j k
  rw [List.flatten_cons, List.getElem?_append_right (by omega), show (j + 1) * k + i - a.length = j * k + i by omega]
  exact flat_at (rows := l) (fun r hr => hl r (by simp [hr])) (by simpa using hj) hi
theorem flat_of {k : Nat} : ∀ {rows : List (List Value)}, (∀ r ∈ rows, r.length = k) → ∀ {n : Nat} {v : Value}, rows.flatten[n]? = some v → ∃ j r i, rows[j]? = some r ∧ r[i]? = some v ∧ n = j * k + i
 | [], _, n, v, h => by simp at h
 | a :: l, hl, n, v, h => by
  have h0 : a.length = k := hl a (by simp)
  rw [List.flatten_cons] at h
  by_cases hn : n < k
  · rw [List.getElem?_append_left (by omega)] at h
    exact ⟨0, a, n, rfl, h, by omega⟩
  · rw [List.getElem?_append_right (by omega)] at h
    obtain ⟨j, r, i, hj, hi, e⟩ := flat_of (rows := l) (fun r hr => hl r (by simp [hr])) h
    have e2 : (j + 1) * k = j * k + k := Nat.succ_mul j k
    exact ⟨j + 1, r, i, by simpa using hj, hi, by omega⟩
theorem flat_len {k : Nat} : ∀ {rows : List (List Value)}, (∀ r ∈ rows, r.length = k) → rows.flatten.length = rows.length * k
 | [], _ => by simp
 | a :: l, hl => by
  have h0 : a.length = k := hl a (by simp)
  have e2 : (l.length + 1) * k = l.length * k + k := Nat.succ_mul _ k
  rw [List.flatten_cons, List.length_append, List.length_cons, flat_len (rows := l) fun r hr => hl r (by simp [hr])]
  omega
theorem Own.of {w : World} {B : Nat} {ty : TypeId} {k : Nat} {v : Value} {rows : List (List Value)} (hl : ∀ r ∈ rows, r.length = k) (hb : rows.length ≤ 1048576) (h : w.ownsRow B ty k v rows.length rows.flatten) : ∃ a c, v = .slice a rows.length c ∧ rows.length ≤ c ∧ Own w B ty k a rows := by
 rcases h.2 with ⟨e, h0⟩ | ⟨g, cap, cur, e, hB, hh, h1, h2, h3, h4⟩
 · exact ⟨none, 0, by rw [e, h0], by omega, hl, hb, .inl (List.length_eq_zero_iff.1 h0)⟩
 · refine ⟨_, _, e, h1, hl, hb, .inr ⟨g, cur, rfl, hB, hh, fun j r i v hj hi => ?_⟩⟩
   have := flat_at hl hj hi
   rw [← h4, List.getElem?_take] at this
   split at this
   · rw [← Array.getElem?_toList]; exact this
   · cases this

theorem cinfo_string : (Tryz.prog.info? 9).map (fun i => (i.zero, i.size, decide (i.bytes ≤ 1000))) = some (some (.string ⟨#[]⟩), 1, true) := by kernel_rfl
set_option maxHeartbeats 2000000 in
set_option maxRecDepth 100000 in
theorem clone_string (a : Option Addr) (rows : List (List Value)) (c : Nat) (w : World) (h : Sl w 1 a rows) (h1 : ∀ u ∈ rows.flatten, u.oneCell' = true) :
 Calls Tryz.prog 86 #[.slice a rows.length c] w fun e w' => ∃ a' c', e = .returned (.slice a' rows.length c') ∧ rows.length ≤ c' ∧ Own w' w.heap.size 9 1 a' rows ∧ Below w.heap.size w w' := by
 have q22 : ∀ (w : World) (a : Option Addr) (n c n' c' : Nat), (binOp .eql 22 (.slice a n c) (.slice none n' c')).run Tryz.prog w = .ok (.bool a.isNone) w := fun w a n c n' c' => Lib.run_eql_slice_nil w _ _ a n c n' c' Tryz.underlying22
 have hbig := h.big
 have hlen := hidIt h.len
 obtain ⟨i0, hi, hz0, hz1, hz2⟩ : ∃ i0, Tryz.prog.info? 9 = some i0 ∧ i0.zero = some (.string ⟨#[]⟩) ∧ i0.size = 1 ∧ i0.bytes ≤ 1000 := by
  have := cinfo_string
  cases hh : Tryz.prog.info? 9 with
  | none => rw [hh] at this; cases this
  | some i => rw [hh] at this; simp only [Option.map_some, Option.some.injEq, Prod.mk.injEq, decide_eq_true_eq] at this; exact ⟨i, rfl, this.1, this.2.1, this.2.2⟩
 cases a with
 | none =>
  have e0 : rows = [] := by
   rcases h.at_ with h0 | ⟨b, off, e, _⟩
   · exact h0
   · cases e
  subst e0
  clear h h1
  go_enter Tryz.func86, Tryz.ntmps86
  go_wp2
  go_ret
  exact ⟨none, 0, rfl, Nat.le_refl _, ⟨hlen.out, hbig, .inl rfl⟩, Below.refl _ _⟩
 | some p =>
  have A : Hid (∀ j u, rows.flatten[j]? = some u → w.cell? (p.add j) = some u) := hidIt fun j u hj => by
   rcases h.at_ with h0 | ⟨b, off, e, hlt, hc⟩
   · rw [h0] at hj; simp at hj
   · cases e
     obtain ⟨j1, r, i, hj1, hi1, e1⟩ := flat_of h.len hj
     rw [Addr.add_lit, e1, ← Nat.add_assoc]
     exact hc j1 r i u hj1 hi1
  have L := hidIt (flat_len h.len)
  have H1 := hidIt h1
  clear h h1
  obtain ⟨n, hn⟩ : ∃ n, rows.length = n := ⟨_, rfl⟩
  rw [hn] at hbig L
  rw [hn]
  have hb2 : n * i0.bytes ≤ 140737488355328 := Nat.le_trans (Nat.mul_le_mul hbig hz2) (by decide)
  have hn := hidIt hn
  go_enter Tryz.func86, Tryz.ntmps86
  go_wp2_with (at_builtin; refine wpList_append_own _ rfl _ _ 22 rfl w.heap.size 9 i0 _ 1 i0.bytes Tryz.underlying22 hi hz0 hz1 rfl rfl (by decide) _ _ _ rfl (World.ownsRow_made w #[] 0 (Nat.le_refl _) (Nat.zero_le _) (by simp)) p n c rows.flatten rfl ?qc1 ?qc2 ?qc3 ?qc4 ?qc5 ?qc6 ?_)
  case qc1 => exact L.out
  case qc2 =>
   intro j u hj
   exact Lib.cell?_alloc_some _ (A.out j u hj)
  case qc3 => exact H1.out
  case qc4 => rw [Nat.zero_add]; unfold maxLen; omega
  case qc5 => rw [Nat.zero_add]; exact hb2
  case qc6 => simp
  intro v' w1 hown hgrow hnil
  go_wp2
  go_ret
  obtain ⟨a', c', e1, l1, o1⟩ := Own.of (w := w1) (B := w.heap.size) (ty := 9) (k := 1) (v := v') (rows := rows) hlen.out (by rw [hn.out]; exact hbig) (by rw [hn.out]; simpa using hown)
  rw [hn.out] at e1 l1
  exact ⟨a', c', by rw [e1]; rfl, l1, o1, ((Below.refl _ w).alloc (Nat.le_refl _) _).grown hgrow (by simp) (by intro k hk; simp [Value.ownBlock] at hk; omega)⟩

theorem cinfo_place : (Tryz.prog.info? 24).map (fun i => (i.zero, i.size, decide (i.bytes ≤ 1000))) = some (some (.agg #[.string ⟨#[]⟩, .slice none 0 0]), 2, true) := by kernel_rfl
set_option maxHeartbeats 2000000 in
set_option maxRecDepth 100000 in
theorem clone_place (a : Option Addr) (rows : List (List Value)) (c : Nat) (w : World) (h : Sl w 2 a rows) (h1 : ∀ u ∈ rows.flatten, u.oneCell' = true) :
 Calls Tryz.prog 181 #[.slice a rows.length c] w fun e w' => ∃ a' c', e = .returned (.slice a' rows.length c') ∧ rows.length ≤ c' ∧ Own w' w.heap.size 24 2 a' rows ∧ Below w.heap.size w w' := by
 have q22 : ∀ (w : World) (a : Option Addr) (n c n' c' : Nat), (binOp .eql 46 (.slice a n c) (.slice none n' c')).run Tryz.prog w = .ok (.bool a.isNone) w := fun w a n c n' c' => Lib.run_eql_slice_nil w _ _ a n c n' c' Tryz.underlying46
 have hbig := h.big
 have hlen := hidIt h.len
 obtain ⟨i0, hi, hz0, hz1, hz2⟩ : ∃ i0, Tryz.prog.info? 24 = some i0 ∧ i0.zero = some (.agg #[.string ⟨#[]⟩, .slice none 0 0]) ∧ i0.size = 2 ∧ i0.bytes ≤ 1000 := by
  have := cinfo_place
  cases hh : Tryz.prog.info? 24 with
  | none => rw [hh] at this; cases this
  | some i => rw [hh] at this; simp only [Option.map_some, Option.some.injEq, Prod.mk.injEq, decide_eq_true_eq] at this; exact ⟨i, rfl, this.1, this.2.1, this.2.2⟩
 cases a with
 | none =>
  have e0 : rows = [] := by
   rcases h.at_ with h0 | ⟨b, off, e, _⟩
   · exact h0
   · cases e
  subst e0
  clear h h1
  go_enter Tryz.func181, Tryz.ntmps181
  go_wp2
  go_ret
  exact ⟨none, 0, rfl, Nat.le_refl _, ⟨hlen.out, hbig, .inl rfl⟩, Below.refl _ _⟩
 | some p =>
  have A : Hid (∀ j u, rows.flatten[j]? = some u → w.cell? (p.add j) = some u) := hidIt fun j u hj => by
   rcases h.at_ with h0 | ⟨b, off, e, hlt, hc⟩
   · rw [h0] at hj; simp at hj
   · cases e
     obtain ⟨j1, r, i, hj1, hi1, e1⟩ := flat_of h.len hj
     rw [Addr.add_lit, e1, ← Nat.add_assoc]
     exact hc j1 r i u hj1 hi1
  have L := hidIt (flat_len h.len)
  have H1 := hidIt h1
  clear h h1
  obtain ⟨n, hn⟩ : ∃ n, rows.length = n := ⟨_, rfl⟩
  rw [hn] at hbig L
  rw [hn]
  have hb2 : n * i0.bytes ≤ 140737488355328 := Nat.le_trans (Nat.mul_le_mul hbig hz2) (by decide)
  have hn := hidIt hn
  go_enter Tryz.func181, Tryz.ntmps181
  go_wp2_with (at_builtin; refine wpList_append_own _ rfl _ _ 46 rfl w.heap.size 24 i0 _ 2 i0.bytes Tryz.underlying46 hi hz0 hz1 rfl rfl (by decide) _ _ _ rfl (World.ownsRow_made w #[] 0 (Nat.le_refl _) (Nat.zero_le _) (by simp)) p n c rows.flatten rfl ?qc1 ?qc2 ?qc3 ?qc4 ?qc5 ?qc6 ?_)
  case qc1 => exact L.out
  case qc2 =>
   intro j u hj
   exact Lib.cell?_alloc_some _ (A.out j u hj)
  case qc3 => exact H1.out
  case qc4 => rw [Nat.zero_add]; unfold maxLen; omega
  case qc5 => rw [Nat.zero_add]; exact hb2
  case qc6 => simp
  intro v' w1 hown hgrow hnil
  go_wp2
  go_ret
  obtain ⟨a', c', e1, l1, o1⟩ := Own.of (w := w1) (B := w.heap.size) (ty := 24) (k := 2) (v := v') (rows := rows) hlen.out (by rw [hn.out]; exact hbig) (by rw [hn.out]; simpa using hown)
  rw [hn.out] at e1 l1
  exact ⟨a', c', by rw [e1]; rfl, l1, o1, ((Below.refl _ w).alloc (Nat.le_refl _) _).grown hgrow (by simp) (by intro k hk; simp [Value.ownBlock] at hk; omega)⟩

theorem cinfo_var : (Tryz.prog.info? 52).map (fun i => (i.zero, i.size, decide (i.bytes ≤ 1000))) = some (some (.agg #[.string ⟨#[]⟩, .string ⟨#[]⟩]), 2, true) := by kernel_rfl
set_option maxHeartbeats 2000000 in
set_option maxRecDepth 100000 in
theorem clone_var (a : Option Addr) (rows : List (List Value)) (c : Nat) (w : World) (h : Sl w 2 a rows) (h1 : ∀ u ∈ rows.flatten, u.oneCell' = true) :
 Calls Tryz.prog 68 #[.slice a rows.length c] w fun e w' => ∃ a' c', e = .returned (.slice a' rows.length c') ∧ rows.length ≤ c' ∧ Own w' w.heap.size 52 2 a' rows ∧ Below w.heap.size w w' := by
 have q22 : ∀ (w : World) (a : Option Addr) (n c n' c' : Nat), (binOp .eql 42 (.slice a n c) (.slice none n' c')).run Tryz.prog w = .ok (.bool a.isNone) w := fun w a n c n' c' => Lib.run_eql_slice_nil w _ _ a n c n' c' Tryz.underlying42
 have hbig := h.big
 have hlen := hidIt h.len
 obtain ⟨i0, hi, hz0, hz1, hz2⟩ : ∃ i0, Tryz.prog.info? 52 = some i0 ∧ i0.zero = some (.agg #[.string ⟨#[]⟩, .string ⟨#[]⟩]) ∧ i0.size = 2 ∧ i0.bytes ≤ 1000 := by
  have := cinfo_var
  cases hh : Tryz.prog.info? 52 with
  | none => rw [hh] at this; cases this
  | some i => rw [hh] at this; simp only [Option.map_some, Option.some.injEq, Prod.mk.injEq, decide_eq_true_eq] at this; exact ⟨i, rfl, this.1, this.2.1, this.2.2⟩
 cases a with
 | none =>
  have e0 : rows = [] := by
   rcases h.at_ with h0 | ⟨b, off, e, _⟩
   · exact h0
   · cases e
  subst e0
  clear h h1
  go_enter Tryz.func68, Tryz.ntmps68
  go_wp2
  go_ret
  exact ⟨none, 0, rfl, Nat.le_refl _, ⟨hlen.out, hbig, .inl rfl⟩, Below.refl _ _⟩
 | some p =>
  have A : Hid (∀ j u, rows.flatten[j]? = some u → w.cell? (p.add j) = some u) := hidIt fun j u hj => by
   rcases h.at_ with h0 | ⟨b, off, e, hlt, hc⟩
   · rw [h0] at hj; simp at hj
   · cases e
     obtain ⟨j1, r, i, hj1, hi1, e1⟩ := flat_of h.len hj
     rw [Addr.add_lit, e1, ← Nat.add_assoc]
     exact hc j1 r i u hj1 hi1
  have L := hidIt (flat_len h.len)
  have H1 := hidIt h1
  clear h h1
  obtain ⟨n, hn⟩ : ∃ n, rows.length = n := ⟨_, rfl⟩
  rw [hn] at hbig L
  rw [hn]
  have hb2 : n * i0.bytes ≤ 140737488355328 := Nat.le_trans (Nat.mul_le_mul hbig hz2) (by decide)
  have hn := hidIt hn
  go_enter Tryz.func68, Tryz.ntmps68
  go_wp2_with (at_builtin; refine wpList_append_own _ rfl _ _ 42 rfl w.heap.size 52 i0 _ 2 i0.bytes Tryz.underlying42 hi hz0 hz1 rfl rfl (by decide) _ _ _ rfl (World.ownsRow_made w #[] 0 (Nat.le_refl _) (Nat.zero_le _) (by simp)) p n c rows.flatten rfl ?qc1 ?qc2 ?qc3 ?qc4 ?qc5 ?qc6 ?_)
  case qc1 => exact L.out
  case qc2 =>
   intro j u hj
   exact Lib.cell?_alloc_some _ (A.out j u hj)
  case qc3 => exact H1.out
  case qc4 => rw [Nat.zero_add]; unfold maxLen; omega
  case qc5 => rw [Nat.zero_add]; exact hb2
  case qc6 => simp
  intro v' w1 hown hgrow hnil
  go_wp2
  go_ret
  obtain ⟨a', c', e1, l1, o1⟩ := Own.of (w := w1) (B := w.heap.size) (ty := 52) (k := 2) (v := v') (rows := rows) hlen.out (by rw [hn.out]; exact hbig) (by rw [hn.out]; simpa using hown)
  rw [hn.out] at e1 l1
  exact ⟨a', c', by rw [e1]; rfl, l1, o1, ((Below.refl _ w).alloc (Nat.le_refl _) _).grown hgrow (by simp) (by intro k hk; simp [Value.ownBlock] at hk; omega)⟩

theorem cinfo_arm : (Tryz.prog.info? 103).map (fun i => (i.zero, i.size, decide (i.bytes ≤ 1000))) = some (some (.agg #[.string ⟨#[]⟩, .string ⟨#[]⟩, .string ⟨#[]⟩]), 3, true) := by kernel_rfl
set_option maxHeartbeats 2000000 in
set_option maxRecDepth 100000 in
theorem clone_arm (a : Option Addr) (rows : List (List Value)) (c : Nat) (w : World) (h : Sl w 3 a rows) (h1 : ∀ u ∈ rows.flatten, u.oneCell' = true) :
 Calls Tryz.prog 180 #[.slice a rows.length c] w fun e w' => ∃ a' c', e = .returned (.slice a' rows.length c') ∧ rows.length ≤ c' ∧ Own w' w.heap.size 103 3 a' rows ∧ Below w.heap.size w w' := by
 have q22 : ∀ (w : World) (a : Option Addr) (n c n' c' : Nat), (binOp .eql 59 (.slice a n c) (.slice none n' c')).run Tryz.prog w = .ok (.bool a.isNone) w := fun w a n c n' c' => Lib.run_eql_slice_nil w _ _ a n c n' c' Tryz.underlying59
 have hbig := h.big
 have hlen := hidIt h.len
 obtain ⟨i0, hi, hz0, hz1, hz2⟩ : ∃ i0, Tryz.prog.info? 103 = some i0 ∧ i0.zero = some (.agg #[.string ⟨#[]⟩, .string ⟨#[]⟩, .string ⟨#[]⟩]) ∧ i0.size = 3 ∧ i0.bytes ≤ 1000 := by
  have := cinfo_arm
  cases hh : Tryz.prog.info? 103 with
  | none => rw [hh] at this; cases this
  | some i => rw [hh] at this; simp only [Option.map_some, Option.some.injEq, Prod.mk.injEq, decide_eq_true_eq] at this; exact ⟨i, rfl, this.1, this.2.1, this.2.2⟩
 cases a with
 | none =>
  have e0 : rows = [] := by
   rcases h.at_ with h0 | ⟨b, off, e, _⟩
   · exact h0
   · cases e
  subst e0
  clear h h1
  go_enter Tryz.func180, Tryz.ntmps180
  go_wp2
  go_ret
  exact ⟨none, 0, rfl, Nat.le_refl _, ⟨hlen.out, hbig, .inl rfl⟩, Below.refl _ _⟩
 | some p =>
  have A : Hid (∀ j u, rows.flatten[j]? = some u → w.cell? (p.add j) = some u) := hidIt fun j u hj => by
   rcases h.at_ with h0 | ⟨b, off, e, hlt, hc⟩
   · rw [h0] at hj; simp at hj
   · cases e
     obtain ⟨j1, r, i, hj1, hi1, e1⟩ := flat_of h.len hj
     rw [Addr.add_lit, e1, ← Nat.add_assoc]
     exact hc j1 r i u hj1 hi1
  have L := hidIt (flat_len h.len)
  have H1 := hidIt h1
  clear h h1
  obtain ⟨n, hn⟩ : ∃ n, rows.length = n := ⟨_, rfl⟩
  rw [hn] at hbig L
  rw [hn]
  have hb2 : n * i0.bytes ≤ 140737488355328 := Nat.le_trans (Nat.mul_le_mul hbig hz2) (by decide)
  have hn := hidIt hn
  go_enter Tryz.func180, Tryz.ntmps180
  go_wp2_with (at_builtin; refine wpList_append_own _ rfl _ _ 59 rfl w.heap.size 103 i0 _ 3 i0.bytes Tryz.underlying59 hi hz0 hz1 rfl rfl (by decide) _ _ _ rfl (World.ownsRow_made w #[] 0 (Nat.le_refl _) (Nat.zero_le _) (by simp)) p n c rows.flatten rfl ?qc1 ?qc2 ?qc3 ?qc4 ?qc5 ?qc6 ?_)
  case qc1 => exact L.out
  case qc2 =>
   intro j u hj
   exact Lib.cell?_alloc_some _ (A.out j u hj)
  case qc3 => exact H1.out
  case qc4 => rw [Nat.zero_add]; unfold maxLen; omega
  case qc5 => rw [Nat.zero_add]; exact hb2
  case qc6 => simp
  intro v' w1 hown hgrow hnil
  go_wp2
  go_ret
  obtain ⟨a', c', e1, l1, o1⟩ := Own.of (w := w1) (B := w.heap.size) (ty := 103) (k := 3) (v := v') (rows := rows) hlen.out (by rw [hn.out]; exact hbig) (by rw [hn.out]; simpa using hown)
  rw [hn.out] at e1 l1
  exact ⟨a', c', by rw [e1]; rfl, l1, o1, ((Below.refl _ w).alloc (Nat.le_refl _) _).grown hgrow (by simp) (by intro k hk; simp [Value.ownBlock] at hk; omega)⟩

theorem cinfo_stmt : (Tryz.prog.info? 68).map (fun i => (i.zero, i.size, decide (i.bytes ≤ 1000))) = some (some (.agg #[.int .i64 0, .int .i64 0, .string ⟨#[]⟩, .slice none 0 0, .int .i64 0, .string ⟨#[]⟩, .string ⟨#[]⟩, .slice none 0 0]), 8, true) := by kernel_rfl
set_option maxHeartbeats 2000000 in
set_option maxRecDepth 100000 in
theorem clone_stmt (a : Option Addr) (rows : List (List Value)) (c : Nat) (w : World) (h : Sl w 8 a rows) (h1 : ∀ u ∈ rows.flatten, u.oneCell' = true) :
 Calls Tryz.prog 179 #[.slice a rows.length c] w fun e w' => ∃ a' c', e = .returned (.slice a' rows.length c') ∧ rows.length ≤ c' ∧ Own w' w.heap.size 68 8 a' rows ∧ Below w.heap.size w w' := by
 have q22 : ∀ (w : World) (a : Option Addr) (n c n' c' : Nat), (binOp .eql 62 (.slice a n c) (.slice none n' c')).run Tryz.prog w = .ok (.bool a.isNone) w := fun w a n c n' c' => Lib.run_eql_slice_nil w _ _ a n c n' c' Tryz.underlying62
 have hbig := h.big
 have hlen := hidIt h.len
 obtain ⟨i0, hi, hz0, hz1, hz2⟩ : ∃ i0, Tryz.prog.info? 68 = some i0 ∧ i0.zero = some (.agg #[.int .i64 0, .int .i64 0, .string ⟨#[]⟩, .slice none 0 0, .int .i64 0, .string ⟨#[]⟩, .string ⟨#[]⟩, .slice none 0 0]) ∧ i0.size = 8 ∧ i0.bytes ≤ 1000 := by
  have := cinfo_stmt
  cases hh : Tryz.prog.info? 68 with
  | none => rw [hh] at this; cases this
  | some i => rw [hh] at this; simp only [Option.map_some, Option.some.injEq, Prod.mk.injEq, decide_eq_true_eq] at this; exact ⟨i, rfl, this.1, this.2.1, this.2.2⟩
 cases a with
 | none =>
  have e0 : rows = [] := by
   rcases h.at_ with h0 | ⟨b, off, e, _⟩
   · exact h0
   · cases e
  subst e0
  clear h h1
  go_enter Tryz.func179, Tryz.ntmps179
  go_wp2
  go_ret
  exact ⟨none, 0, rfl, Nat.le_refl _, ⟨hlen.out, hbig, .inl rfl⟩, Below.refl _ _⟩
 | some p =>
  have A : Hid (∀ j u, rows.flatten[j]? = some u → w.cell? (p.add j) = some u) := hidIt fun j u hj => by
   rcases h.at_ with h0 | ⟨b, off, e, hlt, hc⟩
   · rw [h0] at hj; simp at hj
   · cases e
     obtain ⟨j1, r, i, hj1, hi1, e1⟩ := flat_of h.len hj
     rw [Addr.add_lit, e1, ← Nat.add_assoc]
     exact hc j1 r i u hj1 hi1
  have L := hidIt (flat_len h.len)
  have H1 := hidIt h1
  clear h h1
  obtain ⟨n, hn⟩ : ∃ n, rows.length = n := ⟨_, rfl⟩
  rw [hn] at hbig L
  rw [hn]
  have hb2 : n * i0.bytes ≤ 140737488355328 := Nat.le_trans (Nat.mul_le_mul hbig hz2) (by decide)
  have hn := hidIt hn
  go_enter Tryz.func179, Tryz.ntmps179
  go_wp2_with (at_builtin; refine wpList_append_own _ rfl _ _ 62 rfl w.heap.size 68 i0 _ 8 i0.bytes Tryz.underlying62 hi hz0 hz1 rfl rfl (by decide) _ _ _ rfl (World.ownsRow_made w #[] 0 (Nat.le_refl _) (Nat.zero_le _) (by simp)) p n c rows.flatten rfl ?qc1 ?qc2 ?qc3 ?qc4 ?qc5 ?qc6 ?_)
  case qc1 => exact L.out
  case qc2 =>
   intro j u hj
   exact Lib.cell?_alloc_some _ (A.out j u hj)
  case qc3 => exact H1.out
  case qc4 => rw [Nat.zero_add]; unfold maxLen; omega
  case qc5 => rw [Nat.zero_add]; exact hb2
  case qc6 => simp
  intro v' w1 hown hgrow hnil
  go_wp2
  go_ret
  obtain ⟨a', c', e1, l1, o1⟩ := Own.of (w := w1) (B := w.heap.size) (ty := 68) (k := 8) (v := v') (rows := rows) hlen.out (by rw [hn.out]; exact hbig) (by rw [hn.out]; simpa using hown)
  rw [hn.out] at e1 l1
  exact ⟨a', c', by rw [e1]; rfl, l1, o1, ((Below.refl _ w).alloc (Nat.le_refl _) _).grown hgrow (by simp) (by intro k hk; simp [Value.ownBlock] at hk; omega)⟩

theorem cinfo_block : (Tryz.prog.info? 64).map (fun i => (i.zero, i.size, decide (i.bytes ≤ 1000))) = some (some (.agg #[.int .i64 0, .string ⟨#[]⟩, .slice none 0 0, .int .i64 0, .int .i64 0, .string ⟨#[]⟩, .slice none 0 0, .string ⟨#[]⟩, .slice none 0 0, .slice none 0 0, .slice none 0 0]), 11, true) := by kernel_rfl
set_option maxHeartbeats 2000000 in
set_option maxRecDepth 100000 in
theorem clone_block (a : Option Addr) (rows : List (List Value)) (c : Nat) (w : World) (h : Sl w 11 a rows) (h1 : ∀ u ∈ rows.flatten, u.oneCell' = true) :
 Calls Tryz.prog 146 #[.slice a rows.length c] w fun e w' => ∃ a' c', e = .returned (.slice a' rows.length c') ∧ rows.length ≤ c' ∧ Own w' w.heap.size 64 11 a' rows ∧ Below w.heap.size w w' := by
 have q22 : ∀ (w : World) (a : Option Addr) (n c n' c' : Nat), (binOp .eql 43 (.slice a n c) (.slice none n' c')).run Tryz.prog w = .ok (.bool a.isNone) w := fun w a n c n' c' => Lib.run_eql_slice_nil w _ _ a n c n' c' Tryz.underlying43
 have hbig := h.big
 have hlen := hidIt h.len
 obtain ⟨i0, hi, hz0, hz1, hz2⟩ : ∃ i0, Tryz.prog.info? 64 = some i0 ∧ i0.zero = some (.agg #[.int .i64 0, .string ⟨#[]⟩, .slice none 0 0, .int .i64 0, .int .i64 0, .string ⟨#[]⟩, .slice none 0 0, .string ⟨#[]⟩, .slice none 0 0, .slice none 0 0, .slice none 0 0]) ∧ i0.size = 11 ∧ i0.bytes ≤ 1000 := by
  have := cinfo_block
  cases hh : Tryz.prog.info? 64 with
  | none => rw [hh] at this; cases this
  | some i => rw [hh] at this; simp only [Option.map_some, Option.some.injEq, Prod.mk.injEq, decide_eq_true_eq] at this; exact ⟨i, rfl, this.1, this.2.1, this.2.2⟩
 cases a with
 | none =>
  have e0 : rows = [] := by
   rcases h.at_ with h0 | ⟨b, off, e, _⟩
   · exact h0
   · cases e
  subst e0
  clear h h1
  go_enter Tryz.func146, Tryz.ntmps146
  go_wp2
  go_ret
  exact ⟨none, 0, rfl, Nat.le_refl _, ⟨hlen.out, hbig, .inl rfl⟩, Below.refl _ _⟩
 | some p =>
  have A : Hid (∀ j u, rows.flatten[j]? = some u → w.cell? (p.add j) = some u) := hidIt fun j u hj => by
   rcases h.at_ with h0 | ⟨b, off, e, hlt, hc⟩
   · rw [h0] at hj; simp at hj
   · cases e
     obtain ⟨j1, r, i, hj1, hi1, e1⟩ := flat_of h.len hj
     rw [Addr.add_lit, e1, ← Nat.add_assoc]
     exact hc j1 r i u hj1 hi1
  have L := hidIt (flat_len h.len)
  have H1 := hidIt h1
  clear h h1
  obtain ⟨n, hn⟩ : ∃ n, rows.length = n := ⟨_, rfl⟩
  rw [hn] at hbig L
  rw [hn]
  have hb2 : n * i0.bytes ≤ 140737488355328 := Nat.le_trans (Nat.mul_le_mul hbig hz2) (by decide)
  have hn := hidIt hn
  go_enter Tryz.func146, Tryz.ntmps146
  go_wp2_with (at_builtin; refine wpList_append_own _ rfl _ _ 43 rfl w.heap.size 64 i0 _ 11 i0.bytes Tryz.underlying43 hi hz0 hz1 rfl rfl (by decide) _ _ _ rfl (World.ownsRow_made w #[] 0 (Nat.le_refl _) (Nat.zero_le _) (by simp)) p n c rows.flatten rfl ?qc1 ?qc2 ?qc3 ?qc4 ?qc5 ?qc6 ?_)
  case qc1 => exact L.out
  case qc2 =>
   intro j u hj
   exact Lib.cell?_alloc_some _ (A.out j u hj)
  case qc3 => exact H1.out
  case qc4 => rw [Nat.zero_add]; unfold maxLen; omega
  case qc5 => rw [Nat.zero_add]; exact hb2
  case qc6 => simp
  intro v' w1 hown hgrow hnil
  go_wp2
  go_ret
  obtain ⟨a', c', e1, l1, o1⟩ := Own.of (w := w1) (B := w.heap.size) (ty := 64) (k := 11) (v := v') (rows := rows) hlen.out (by rw [hn.out]; exact hbig) (by rw [hn.out]; simpa using hown)
  rw [hn.out] at e1 l1
  exact ⟨a', c', by rw [e1]; rfl, l1, o1, ((Below.refl _ w).alloc (Nat.le_refl _) _).grown hgrow (by simp) (by intro k hk; simp [Value.ownBlock] at hk; omega)⟩

theorem cinfo_func : (Tryz.prog.info? 45).map (fun i => (i.zero, i.size, decide (i.bytes ≤ 1000))) = some (some (.agg #[.int .i64 0, .string ⟨#[]⟩, .slice none 0 0, .slice none 0 0, .string ⟨#[]⟩, .slice none 0 0]), 6, true) := by kernel_rfl
set_option maxHeartbeats 2000000 in
set_option maxRecDepth 100000 in
theorem clone_func (a : Option Addr) (rows : List (List Value)) (c : Nat) (w : World) (h : Sl w 6 a rows) (h1 : ∀ u ∈ rows.flatten, u.oneCell' = true) :
 Calls Tryz.prog 112 #[.slice a rows.length c] w fun e w' => ∃ a' c', e = .returned (.slice a' rows.length c') ∧ rows.length ≤ c' ∧ Own w' w.heap.size 45 6 a' rows ∧ Below w.heap.size w w' := by
 have q22 : ∀ (w : World) (a : Option Addr) (n c n' c' : Nat), (binOp .eql 34 (.slice a n c) (.slice none n' c')).run Tryz.prog w = .ok (.bool a.isNone) w := fun w a n c n' c' => Lib.run_eql_slice_nil w _ _ a n c n' c' Tryz.underlying34
 have hbig := h.big
 have hlen := hidIt h.len
 obtain ⟨i0, hi, hz0, hz1, hz2⟩ : ∃ i0, Tryz.prog.info? 45 = some i0 ∧ i0.zero = some (.agg #[.int .i64 0, .string ⟨#[]⟩, .slice none 0 0, .slice none 0 0, .string ⟨#[]⟩, .slice none 0 0]) ∧ i0.size = 6 ∧ i0.bytes ≤ 1000 := by
  have := cinfo_func
  cases hh : Tryz.prog.info? 45 with
  | none => rw [hh] at this; cases this
  | some i => rw [hh] at this; simp only [Option.map_some, Option.some.injEq, Prod.mk.injEq, decide_eq_true_eq] at this; exact ⟨i, rfl, this.1, this.2.1, this.2.2⟩
 cases a with
 | none =>
  have e0 : rows = [] := by
   rcases h.at_ with h0 | ⟨b, off, e, _⟩
   · exact h0
   · cases e
  subst e0
  clear h h1
  go_enter Tryz.func112, Tryz.ntmps112
  go_wp2
  go_ret
  exact ⟨none, 0, rfl, Nat.le_refl _, ⟨hlen.out, hbig, .inl rfl⟩, Below.refl _ _⟩
 | some p =>
  have A : Hid (∀ j u, rows.flatten[j]? = some u → w.cell? (p.add j) = some u) := hidIt fun j u hj => by
   rcases h.at_ with h0 | ⟨b, off, e, hlt, hc⟩
   · rw [h0] at hj; simp at hj
   · cases e
     obtain ⟨j1, r, i, hj1, hi1, e1⟩ := flat_of h.len hj
     rw [Addr.add_lit, e1, ← Nat.add_assoc]
     exact hc j1 r i u hj1 hi1
  have L := hidIt (flat_len h.len)
  have H1 := hidIt h1
  clear h h1
  obtain ⟨n, hn⟩ : ∃ n, rows.length = n := ⟨_, rfl⟩
  rw [hn] at hbig L
  rw [hn]
  have hb2 : n * i0.bytes ≤ 140737488355328 := Nat.le_trans (Nat.mul_le_mul hbig hz2) (by decide)
  have hn := hidIt hn
  go_enter Tryz.func112, Tryz.ntmps112
  go_wp2_with (at_builtin; refine wpList_append_own _ rfl _ _ 34 rfl w.heap.size 45 i0 _ 6 i0.bytes Tryz.underlying34 hi hz0 hz1 rfl rfl (by decide) _ _ _ rfl (World.ownsRow_made w #[] 0 (Nat.le_refl _) (Nat.zero_le _) (by simp)) p n c rows.flatten rfl ?qc1 ?qc2 ?qc3 ?qc4 ?qc5 ?qc6 ?_)
  case qc1 => exact L.out
  case qc2 =>
   intro j u hj
   exact Lib.cell?_alloc_some _ (A.out j u hj)
  case qc3 => exact H1.out
  case qc4 => rw [Nat.zero_add]; unfold maxLen; omega
  case qc5 => rw [Nat.zero_add]; exact hb2
  case qc6 => simp
  intro v' w1 hown hgrow hnil
  go_wp2
  go_ret
  obtain ⟨a', c', e1, l1, o1⟩ := Own.of (w := w1) (B := w.heap.size) (ty := 45) (k := 6) (v := v') (rows := rows) hlen.out (by rw [hn.out]; exact hbig) (by rw [hn.out]; simpa using hown)
  rw [hn.out] at e1 l1
  exact ⟨a', c', by rw [e1]; rfl, l1, o1, ((Below.refl _ w).alloc (Nat.le_refl _) _).grown hgrow (by simp) (by intro k hk; simp [Value.ownBlock] at hk; omega)⟩

theorem cinfo_struct : (Tryz.prog.info? 58).map (fun i => (i.zero, i.size, decide (i.bytes ≤ 1000))) = some (some (.agg #[.int .i64 0, .string ⟨#[]⟩, .bool false, .bool false, .slice none 0 0]), 5, true) := by kernel_rfl
set_option maxHeartbeats 2000000 in
set_option maxRecDepth 100000 in
theorem clone_struct (a : Option Addr) (rows : List (List Value)) (c : Nat) (w : World) (h : Sl w 5 a rows) (h1 : ∀ u ∈ rows.flatten, u.oneCell' = true) :
 Calls Tryz.prog 110 #[.slice a rows.length c] w fun e w' => ∃ a' c', e = .returned (.slice a' rows.length c') ∧ rows.length ≤ c' ∧ Own w' w.heap.size 58 5 a' rows ∧ Below w.heap.size w w' := by
 have q22 : ∀ (w : World) (a : Option Addr) (n c n' c' : Nat), (binOp .eql 32 (.slice a n c) (.slice none n' c')).run Tryz.prog w = .ok (.bool a.isNone) w := fun w a n c n' c' => Lib.run_eql_slice_nil w _ _ a n c n' c' Tryz.underlying32
 have hbig := h.big
 have hlen := hidIt h.len
 obtain ⟨i0, hi, hz0, hz1, hz2⟩ : ∃ i0, Tryz.prog.info? 58 = some i0 ∧ i0.zero = some (.agg #[.int .i64 0, .string ⟨#[]⟩, .bool false, .bool false, .slice none 0 0]) ∧ i0.size = 5 ∧ i0.bytes ≤ 1000 := by
  have := cinfo_struct
  cases hh : Tryz.prog.info? 58 with
  | none => rw [hh] at this; cases this
  | some i => rw [hh] at this; simp only [Option.map_some, Option.some.injEq, Prod.mk.injEq, decide_eq_true_eq] at this; exact ⟨i, rfl, this.1, this.2.1, this.2.2⟩
 cases a with
 | none =>
  have e0 : rows = [] := by
   rcases h.at_ with h0 | ⟨b, off, e, _⟩
   · exact h0
   · cases e
  subst e0
  clear h h1
  go_enter Tryz.func110, Tryz.ntmps110
  go_wp2
  go_ret
  exact ⟨none, 0, rfl, Nat.le_refl _, ⟨hlen.out, hbig, .inl rfl⟩, Below.refl _ _⟩
 | some p =>
  have A : Hid (∀ j u, rows.flatten[j]? = some u → w.cell? (p.add j) = some u) := hidIt fun j u hj => by
   rcases h.at_ with h0 | ⟨b, off, e, hlt, hc⟩
   · rw [h0] at hj; simp at hj
   · cases e
     obtain ⟨j1, r, i, hj1, hi1, e1⟩ := flat_of h.len hj
     rw [Addr.add_lit, e1, ← Nat.add_assoc]
     exact hc j1 r i u hj1 hi1
  have L := hidIt (flat_len h.len)
  have H1 := hidIt h1
  clear h h1
  obtain ⟨n, hn⟩ : ∃ n, rows.length = n := ⟨_, rfl⟩
  rw [hn] at hbig L
  rw [hn]
  have hb2 : n * i0.bytes ≤ 140737488355328 := Nat.le_trans (Nat.mul_le_mul hbig hz2) (by decide)
  have hn := hidIt hn
  go_enter Tryz.func110, Tryz.ntmps110
  go_wp2_with (at_builtin; refine wpList_append_own _ rfl _ _ 32 rfl w.heap.size 58 i0 _ 5 i0.bytes Tryz.underlying32 hi hz0 hz1 rfl rfl (by decide) _ _ _ rfl (World.ownsRow_made w #[] 0 (Nat.le_refl _) (Nat.zero_le _) (by simp)) p n c rows.flatten rfl ?qc1 ?qc2 ?qc3 ?qc4 ?qc5 ?qc6 ?_)
  case qc1 => exact L.out
  case qc2 =>
   intro j u hj
   exact Lib.cell?_alloc_some _ (A.out j u hj)
  case qc3 => exact H1.out
  case qc4 => rw [Nat.zero_add]; unfold maxLen; omega
  case qc5 => rw [Nat.zero_add]; exact hb2
  case qc6 => simp
  intro v' w1 hown hgrow hnil
  go_wp2
  go_ret
  obtain ⟨a', c', e1, l1, o1⟩ := Own.of (w := w1) (B := w.heap.size) (ty := 58) (k := 5) (v := v') (rows := rows) hlen.out (by rw [hn.out]; exact hbig) (by rw [hn.out]; simpa using hown)
  rw [hn.out] at e1 l1
  exact ⟨a', c', by rw [e1]; rfl, l1, o1, ((Below.refl _ w).alloc (Nat.le_refl _) _).grown hgrow (by simp) (by intro k hk; simp [Value.ownBlock] at hk; omega)⟩

theorem cinfo_enum : (Tryz.prog.info? 70).map (fun i => (i.zero, i.size, decide (i.bytes ≤ 1000))) = some (some (.agg #[.int .i64 0, .string ⟨#[]⟩, .slice none 0 0]), 3, true) := by kernel_rfl
set_option maxHeartbeats 2000000 in
set_option maxRecDepth 100000 in
theorem clone_enum (a : Option Addr) (rows : List (List Value)) (c : Nat) (w : World) (h : Sl w 3 a rows) (h1 : ∀ u ∈ rows.flatten, u.oneCell' = true) :
 Calls Tryz.prog 111 #[.slice a rows.length c] w fun e w' => ∃ a' c', e = .returned (.slice a' rows.length c') ∧ rows.length ≤ c' ∧ Own w' w.heap.size 70 3 a' rows ∧ Below w.heap.size w w' := by
 have q22 : ∀ (w : World) (a : Option Addr) (n c n' c' : Nat), (binOp .eql 33 (.slice a n c) (.slice none n' c')).run Tryz.prog w = .ok (.bool a.isNone) w := fun w a n c n' c' => Lib.run_eql_slice_nil w _ _ a n c n' c' Tryz.underlying33
 have hbig := h.big
 have hlen := hidIt h.len
 obtain ⟨i0, hi, hz0, hz1, hz2⟩ : ∃ i0, Tryz.prog.info? 70 = some i0 ∧ i0.zero = some (.agg #[.int .i64 0, .string ⟨#[]⟩, .slice none 0 0]) ∧ i0.size = 3 ∧ i0.bytes ≤ 1000 := by
  have := cinfo_enum
  cases hh : Tryz.prog.info? 70 with
  | none => rw [hh] at this; cases this
  | some i => rw [hh] at this; simp only [Option.map_some, Option.some.injEq, Prod.mk.injEq, decide_eq_true_eq] at this; exact ⟨i, rfl, this.1, this.2.1, this.2.2⟩
 cases a with
 | none =>
  have e0 : rows = [] := by
   rcases h.at_ with h0 | ⟨b, off, e, _⟩
   · exact h0
   · cases e
  subst e0
  clear h h1
  go_enter Tryz.func111, Tryz.ntmps111
  go_wp2
  go_ret
  exact ⟨none, 0, rfl, Nat.le_refl _, ⟨hlen.out, hbig, .inl rfl⟩, Below.refl _ _⟩
 | some p =>
  have A : Hid (∀ j u, rows.flatten[j]? = some u → w.cell? (p.add j) = some u) := hidIt fun j u hj => by
   rcases h.at_ with h0 | ⟨b, off, e, hlt, hc⟩
   · rw [h0] at hj; simp at hj
   · cases e
     obtain ⟨j1, r, i, hj1, hi1, e1⟩ := flat_of h.len hj
     rw [Addr.add_lit, e1, ← Nat.add_assoc]
     exact hc j1 r i u hj1 hi1
  have L := hidIt (flat_len h.len)
  have H1 := hidIt h1
  clear h h1
  obtain ⟨n, hn⟩ : ∃ n, rows.length = n := ⟨_, rfl⟩
  rw [hn] at hbig L
  rw [hn]
  have hb2 : n * i0.bytes ≤ 140737488355328 := Nat.le_trans (Nat.mul_le_mul hbig hz2) (by decide)
  have hn := hidIt hn
  go_enter Tryz.func111, Tryz.ntmps111
  go_wp2_with (at_builtin; refine wpList_append_own _ rfl _ _ 33 rfl w.heap.size 70 i0 _ 3 i0.bytes Tryz.underlying33 hi hz0 hz1 rfl rfl (by decide) _ _ _ rfl (World.ownsRow_made w #[] 0 (Nat.le_refl _) (Nat.zero_le _) (by simp)) p n c rows.flatten rfl ?qc1 ?qc2 ?qc3 ?qc4 ?qc5 ?qc6 ?_)
  case qc1 => exact L.out
  case qc2 =>
   intro j u hj
   exact Lib.cell?_alloc_some _ (A.out j u hj)
  case qc3 => exact H1.out
  case qc4 => rw [Nat.zero_add]; unfold maxLen; omega
  case qc5 => rw [Nat.zero_add]; exact hb2
  case qc6 => simp
  intro v' w1 hown hgrow hnil
  go_wp2
  go_ret
  obtain ⟨a', c', e1, l1, o1⟩ := Own.of (w := w1) (B := w.heap.size) (ty := 70) (k := 3) (v := v') (rows := rows) hlen.out (by rw [hn.out]; exact hbig) (by rw [hn.out]; simpa using hown)
  rw [hn.out] at e1 l1
  exact ⟨a', c', by rw [e1]; rfl, l1, o1, ((Below.refl _ w).alloc (Nat.le_refl _) _).grown hgrow (by simp) (by intro k hk; simp [Value.ownBlock] at hk; omega)⟩

end Go.Proofs.YtlppbgmcoknliaaGreatDoor
