/-
  SlabOffs answers true, whatever it is given.
-/
import Derived.Test.YtbjofdijhcdmaaaBuilt
import Derived.OpenShut
namespace Go.Proofs.Ytbjofdijhcdmaaa
set_option linter.unusedVariables false
open Go.RowKit

/-- A slice of integers that came in: nil, or a row of cap numbers, of which the first len are its elements. -/
def IsRow (k : IntKind) (w : World) (a : Option Addr) (len cap : Nat) (zs : List Int) : Prop :=
  (a = none ∧ len = 0 ∧ cap = 0 ∧ zs = []) ∨
  ∃ x, a = some x ∧ len ≤ cap ∧ cap ≤ maxLen ∧ zs.length = cap ∧ (∀ i, i < zs.length → w.cell? (x.add i) = some (.int k (zs.getD i 0))) ∧ ∀ n ∈ zs, (Lit.int k n).wf = true
theorem IsRow.len_le {k : IntKind} {w : World} {a : Option Addr} {len cap : Nat} {zs : List Int} (h : IsRow k w a len cap zs) : len ≤ zs.length ∧ len ≤ 9223372036854775807 := by
  rcases h with ⟨_, rfl, _, _⟩ | ⟨x, _, h1, h2, h3, _⟩
  · exact ⟨Nat.zero_le _, by omega⟩
  · unfold maxLen at h2
    omega
theorem IsRow.open_ {k : IntKind} {w : World} {a : Option Addr} {len cap : Nat} {zs : List Int} (h : IsRow k w a len cap zs) (hl : 0 < len) :
    ∃ b off, a = some ⟨b, off, none⟩ ∧ b < w.heap.size ∧ (∀ j, j < len → w.cell? ⟨b, off + j, none⟩ = some (.int k (zs.getD j 0))) ∧ ∀ n ∈ zs, (Lit.int k n).wf = true := by
  rcases h with ⟨_, rfl, _, _⟩ | ⟨x, rfl, h1, h2, h3, h4, h5⟩
  · omega
  · obtain ⟨b, off, rfl, hc⟩ := ints_at h4 (by omega)
    exact ⟨b, off, rfl, World.block_lt_of_cell? w _ (hc 0 (by omega)), fun j hj => hc j (by omega), h5⟩

/-- The sizes of the first m pieces. -/
def szs (zs : List Int) (m : Nat) : List Nat := (List.range m).map fun i => (zs.getD i 0).toNat + 1
theorem szs_succ (zs : List Int) (m : Nat) : szs zs (m + 1) = szs zs m ++ [(zs.getD m 0).toNat + 1] := by simp [szs, List.range_succ]
theorem szs_length (zs : List Int) (m : Nat) : (szs zs m).length = m := by simp [szs]
theorem szs_get {zs : List Int} {m k : Nat} (h : k < m) : (szs zs m)[k]? = some ((zs.getD k 0).toNat + 1) := by simp [szs, h]
def firsts (m : Nat) : List Int := (List.range m).map fun i => mkAddr 0 i
theorem firsts_succ (m : Nat) : firsts (m + 1) = firsts m ++ [mkAddr 0 m] := by simp [firsts, List.range_succ]
theorem firsts_length (m : Nat) : (firsts m).length = m := by simp [firsts]
theorem firsts_get {m k : Nat} (h : k < m) : (firsts m)[k]? = some (mkAddr 0 k) := by simp [firsts, h]
theorem wf_getD {zs : List Int} (h : ∀ n ∈ zs, (Lit.int .u8 n).wf = true) (j : Nat) : 0 ≤ zs.getD j 0 ∧ zs.getD j 0 ≤ 255 := by
  have := range_u8 h j
  simpa [List.getD_eq_getElem?_getD] using this
theorem szs_sum (zs : List Int) (h : ∀ n ∈ zs, (Lit.int .u8 n).wf = true) (m : Nat) : (szs zs m).sum ≤ m * 256 := by
  induction m with
  | zero => simp [szs]
  | succ m ih =>
    rw [szs_succ, List.sum_append, Nat.add_mul]
    have := wf_getD h m
    simp only [List.sum_cons, List.sum_nil]
    omega

theorem bSt_off {R : Nat} {l : List Nat} {k n p : Nat} {q : Int} (hk : l[k]? = some n) (hl : l.length < 1048576) (hp : p < n) (hn : n ≤ 4095) :
    moff (bSt R l) (mkAddr 0 k + p) q = if q < - (p : Int) ∨ (n : Int) - p ≤ q then (0, 11) else (mkAddr 0 k + (p + q), 0) := by
  have hkl : k < l.length := (List.getElem?_eq_some_iff.1 hk).1
  obtain ⟨e1, e2, e3, e4⟩ := mk_parts 0 k p (by omega) (by omega)
  have he : (bSt R l).ents[k]? = some (oneEnt n) := by simp [bSt, hk]
  unfold moff
  rw [if_neg (by simp [bSt_find hk hl hp hn]), e1, e3]
  simp only [he]
  simp [oneEnt]
theorem bSt_size {R : Nat} {l : List Nat} {k n p : Nat} (hk : l[k]? = some n) (hl : l.length < 1048576) (hp : p < n) (hn : n ≤ 4095) :
    msize (bSt R l) (mkAddr 0 k + p) = ((n : Int), 0) := by
  have hkl : k < l.length := (List.getElem?_eq_some_iff.1 hk).1
  obtain ⟨e1, e2, e3, e4⟩ := mk_parts 0 k p (by omega) (by omega)
  have he : (bSt R l).ents[k]? = some (oneEnt n) := by simp [bSt, hk]
  unfold msize
  rw [if_neg (by simp [bSt_find hk hl hp hn]), e1]
  simp only [he]
  simp [oneEnt]

/-- Where the loop of SlabOffs stands. -/
def OffsAt (w : World) (A : Nat) (zs : List Int) (m : Nat) (lv : Value) (W : World) : Prop :=
  ListSt w A (bSt 16384 (szs zs m)) lv (firsts m) W ∧ Inv (bSt 16384 (szs zs m)) ∧ Small (bSt 16384 (szs zs m)) m
section
variable {w W : World} {A m : Nat} {zs : List Int} {lv : Value}
theorem OffsAt.got (h : OffsAt w A zs m lv W) (hm : m ≤ 39) (hz : ∀ n ∈ zs, (Lit.int .u8 n).wf = true) :
    Calls Try.prog 15 #[.pointer (some ⟨A, 0, none⟩), .int .i64 (zs.getD m 0 + 1)] W fun e w' => e = .returned (.tuple #[.int .u64 (mkAddr 0 m), .int .i64 0]) ∧ ListSt w A (bSt 16384 (szs zs (m + 1))) lv (firsts m) w' := by
  have hb := wf_getD hz m
  have hsum := szs_sum zs hz m
  have hc := h.1.did (fun fp hR => get_any hR h.2.1 (h.2.2.mono (by omega)) (((zs.getD m 0).toNat + 1 : Nat) : Int))
  rw [bSt_get (by omega) (by omega) (by omega)] at hc
  simp only [szs_length, ← szs_succ] at hc
  rw [show (((zs.getD m 0).toNat + 1 : Nat) : Int) = zs.getD m 0 + 1 from by omega] at hc
  exact hc
theorem OffsAt.next {lv' : Value} {W' : World} (h : OffsAt w A zs m lv W) (hm : m ≤ 39) (hz : ∀ n ∈ zs, (Lit.int .u8 n).wf = true) (hl : ListSt w A (bSt 16384 (szs zs (m + 1))) lv' (firsts (m + 1)) W') : OffsAt w A zs (m + 1) lv' W' := by
  have hb := wf_getD hz m
  have hsum := szs_sum zs hz m
  have := bSt_keep (R := 16384) (l := szs zs m) (n := (zs.getD m 0).toNat + 1) (by omega) (by omega) (by omega) h.2.1 (by rw [szs_length]; exact h.2.2)
  rw [← szs_succ, szs_length] at this
  exact ⟨hl, this.1, this.2⟩
theorem OffsAt.off (h : OffsAt w A zs m lv W) (hm : m ≤ 40) (hz : ∀ n ∈ zs, (Lit.int .u8 n).wf = true) {k p : Nat} {q : Int} (hk : k < m) (hp : (p : Int) < zs.getD k 0 + 1) :
    Calls Try.prog 20 #[.pointer (some ⟨A, 0, none⟩), .int .u64 (mkAddr 0 k + p), .int .i64 q] W fun e w' =>
      e = .returned (.tuple #[.int .u64 (if q < - (p : Int) ∨ zs.getD k 0 + 1 - p ≤ q then 0 else mkAddr 0 k + (p + q)), .int .i64 (if q < - (p : Int) ∨ zs.getD k 0 + 1 - p ≤ q then 11 else 0)]) ∧ W = w' := by
  have hb := wf_getD hz k
  obtain ⟨fp, hR⟩ := h.1.rep
  have hlt := mk_lt 0 k p (by omega) (by omega) (by omega)
  have hge := (mk_parts 0 k p (by omega) (by omega)).2.2.2
  have hc := off_any hR h.2.1 (h.2.2.mono (by omega)) (mkAddr 0 k + p) q (by omega) (by omega)
  rw [bSt_off (szs_get hk) (by rw [szs_length]; omega) (by omega) (by omega)] at hc
  rw [show (((zs.getD k 0).toNat + 1 : Nat) : Int) = zs.getD k 0 + 1 from by omega] at hc
  by_cases hx : q < - (p : Int) ∨ zs.getD k 0 + 1 - p ≤ q
  · rw [if_pos hx] at hc
    rw [if_pos hx, if_pos hx]
    exact hc
  · rw [if_neg hx] at hc
    rw [if_neg hx, if_neg hx]
    exact hc
theorem OffsAt.size (h : OffsAt w A zs m lv W) (hm : m ≤ 40) (hz : ∀ n ∈ zs, (Lit.int .u8 n).wf = true) {k p : Nat} (hk : k < m) (hp : (p : Int) < zs.getD k 0 + 1) :
    Calls Try.prog 23 #[.pointer (some ⟨A, 0, none⟩), .int .u64 (mkAddr 0 k + p)] W fun e w' => e = .returned (.tuple #[.int .i64 (zs.getD k 0 + 1), .int .i64 0]) ∧ W = w' := by
  have hb := wf_getD hz k
  obtain ⟨fp, hR⟩ := h.1.rep
  have hlt := mk_lt 0 k p (by omega) (by omega) (by omega)
  have hge := (mk_parts 0 k p (by omega) (by omega)).2.2.2
  have hc := size_any hR h.2.1 (h.2.2.mono (by omega)) (mkAddr 0 k + p) (by omega) (by omega)
  rw [bSt_size (szs_get hk) (by rw [szs_length]; omega) (by omega) (by omega)] at hc
  rw [show (((zs.getD k 0).toNat + 1 : Nat) : Int) = zs.getD k 0 + 1 from by omega] at hc
  exact hc
end

set_option maxRecDepth 100000 in
set_option maxHeartbeats 2000000 in
theorem offs_early (a0 : Option Addr) (len0 cap0 : Nat) (a1 a2 a3 : Int) (w : World) (hl : len0 ≤ 9223372036854775807)
    (h : len0 < 1 ∨ 40 < len0 ∨ a2 < 0 ∨ 300 < a2 ∨ a3 < -600 ∨ 600 < a3) :
    Calls Try.prog 7 #[.slice a0 len0 cap0, .int .u8 a1, .int .i64 a2, .int .i64 a3] w fun e w' => e = .returned (.bool true) ∧ Below w.heap.size w w' := by
  have hcases : len0 < 1 ∨ (1 ≤ len0 ∧ 40 < len0) ∨ (1 ≤ len0 ∧ len0 ≤ 40 ∧ a2 < 0) ∨ (1 ≤ len0 ∧ len0 ≤ 40 ∧ 0 ≤ a2 ∧ 300 < a2) ∨ (1 ≤ len0 ∧ len0 ≤ 40 ∧ 0 ≤ a2 ∧ a2 ≤ 300 ∧ a3 < -600) ∨ (1 ≤ len0 ∧ len0 ≤ 40 ∧ 0 ≤ a2 ∧ a2 ≤ 300 ∧ -600 ≤ a3 ∧ 600 < a3) := by omega
  clear h
  rcases hcases with h1 | ⟨h1, h2⟩ | ⟨h1, h2, h3⟩ | ⟨h1, h2, h3, h4⟩ | ⟨h1, h2, h3, h4, h5⟩ | ⟨h1, h2, h3, h4, h5, h6⟩
  all_goals
    go_enter Try.func7, Try.ntmps7
    go_wp2_with fail
    refine (alive_any _).mono ?_
    rintro e w1 ⟨rfl, hB1⟩
    have HB1 := hidIt hB1
    clear hB1
    go_wp2
    go_ret
    exact ⟨rfl, HB1.out⟩
end Go.Proofs.Ytbjofdijhcdmaaa
