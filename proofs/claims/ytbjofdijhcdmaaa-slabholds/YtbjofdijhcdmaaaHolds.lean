/-
  SlabHolds: the data that it goes through, and where its loops stand.
-/
import Derived.Test.YtbjofdijhcdmaaaOffs
import Derived.Maps.OwnSet
namespace Go.Proofs.Ytbjofdijhcdmaaa
set_option linter.unusedVariables false
open Go.RowKit Go.Maps

/-- A piece of five slots, and one whose slots are sl. -/
def hSt (n : Nat) (sl : List (Int × Bool)) : Sl := ⟨n + 5, 2, 5 + n, [oneEnt 5, ⟨[n], sl⟩], []⟩
theorem hSt_start (n : Nat) : bSt (n + 5) [5, n] = hSt n (List.replicate n (0, false)) := by simp [bSt, hSt, oneEnt]
section
variable {n k : Nat} {sl : List (Int × Bool)}
theorem hSt_ents : (hSt n sl).ents[1]? = some ⟨[n], sl⟩ := rfl
theorem hSt_find (hl : sl.length = n) (hn : n ≤ 100) (hk : k < n) : mfind (hSt n sl) (mkAddr 0 1 + k) = 0 := by
  obtain ⟨e1, e2, e3, e4⟩ := mk_parts 0 1 k (by omega) (by omega)
  unfold mfind
  rw [if_neg (by omega), e1, e2, e3]
  simp only [hSt_ents]
  simp [hl]
  rw [if_neg (by omega), if_neg (by omega)]
theorem hSt_put (hl : sl.length = n) (hn : n ≤ 100) (hk : k < n) (v : Int × Bool) : mput (hSt n sl) (mkAddr 0 1 + k) v = (hSt n (sl.set k v), 0) := by
  obtain ⟨e1, e2, e3, e4⟩ := mk_parts 0 1 k (by omega) (by omega)
  unfold mput setEnt
  rw [if_neg (by simp [hSt_find hl hn hk]), e1, e3]
  simp only [hSt_ents]
  simp [hSt]
theorem hSt_load (hl : sl.length = n) (hn : n ≤ 100) {s : Int × Bool} (hs : sl[k]? = some s) : mload (hSt n sl) (mkAddr 0 1 + k) = (if s.2 then s.1 else 0, if s.2 then 0 else 15) := by
  have hk : k < n := by rw [← hl]; exact (List.getElem?_eq_some_iff.1 hs).1
  obtain ⟨e1, e2, e3, e4⟩ := mk_parts 0 1 k (by omega) (by omega)
  unfold mload
  rw [if_neg (by simp [hSt_find hl hn hk]), e1, e3]
  simp only [hSt_ents, hs]
  cases s.2 <;> simp
theorem hSt_off (hl : sl.length = n) (hn1 : 1 ≤ n) (hn : n ≤ 100) (hk : k < n) : moff (hSt n sl) (mkAddr 0 1) k = (mkAddr 0 1 + k, 0) := by
  obtain ⟨e1, e2, e3, e4⟩ := mk_parts 0 1 0 (by omega) (by omega)
  have hf := hSt_find hl hn (show 0 < n by omega)
  simp only [Int.natCast_zero, Int.add_zero] at hf e1 e3
  unfold moff
  rw [if_neg (by simp [hf]), e1, e3]
  simp only [hSt_ents]
  rw [if_neg (by simp [hl]; omega)]
  simp
theorem hSt_other (hn : n ≤ 100) : mload (hSt n sl) (mkAddr 0 0) = (0, 15) := by
  obtain ⟨e1, e2, e3, e4⟩ := mk_parts 0 0 0 (by omega) (by omega)
  simp only [Int.natCast_zero, Int.add_zero] at e1 e2 e3 e4
  have he : (hSt n sl).ents[0]? = some (oneEnt 5) := rfl
  have hf : mfind (hSt n sl) (mkAddr 0 0) = 0 := by
    unfold mfind
    rw [if_neg (by omega), e1, e2, e3]
    simp only [he]
    simp [oneEnt]
  unfold mload
  rw [if_neg (by simp [hf]), e1, e3]
  simp only [he]
  simp [oneEnt]
end

/-- The map says what the slots hold. -/
def Agree (n : Nat) (sl : List (Int × Bool)) (D : DataW Unit) : Prop :=
  ∀ (k : Nat) (s : Int × Bool), k < n → sl[k]? = some s → Maps.has D (.int .i64 k) = s.2 ∧ (s.2 = true → D.atKey (.int .i64 k) (.lit (.int .i64 0)) = .lit (.int .i64 s.1))
theorem Agree.put {n k : Nat} {sl : List (Int × Bool)} {D : DataW Unit} (h : Agree n sl D) (hD : IsMap D) (hl : sl.length = n) (hk : k < n) (v : Int) : Agree n (sl.set k (v, true)) (D.put (.int .i64 k) (.lit (.int .i64 v))) := by
  intro j s hj hs
  rcases get_set_some hs with ⟨rfl, rfl, _⟩ | ⟨hne, hs⟩
  · exact ⟨has_put_same hD (show WideAt.IsKeyLit (.int .i64 k) from trivial) _, fun _ => atKey_put_same hD (show WideAt.IsKeyLit (.int .i64 k) from trivial) _ _⟩
  · have hkey : (Lit.int .i64 (j : Int)) ≠ .int .i64 (k : Int) := by
      intro e
      simp only [Lit.int.injEq, true_and] at e
      omega
    rw [has_put_other hkey, atKey_put_other hkey]
    exact h j s hj hs
theorem Agree.del {n k : Nat} {sl : List (Int × Bool)} {D : DataW Unit} (h : Agree n sl D) (hl : sl.length = n) (hk : k < n) : Agree n (sl.set k (0, false)) (D.del (.int .i64 k)) := by
  intro j s hj hs
  rcases get_set_some hs with ⟨rfl, rfl, _⟩ | ⟨hne, hs⟩
  · exact ⟨has_del_same, fun h => by cases h⟩
  · have hkey : (Lit.int .i64 (j : Int)) ≠ .int .i64 (k : Int) := by
      intro e
      simp only [Lit.int.injEq, true_and] at e
      omega
    rw [has_del_other hkey, atKey_del_other hkey]
    exact h j s hj hs
theorem Agree.start (n : Nat) : Agree n (List.replicate n (0, false)) (.map []) := by
  intro k s hk hs
  rw [List.getElem?_replicate, if_pos hk] at hs
  simp only [Option.some.injEq] at hs
  subst hs
  exact ⟨rfl, fun h => by cases h⟩

theorem lawK : Keyed Try.prog 3 := int_keyed Try.underlying3

/-- A slab of that shape, and a map beside it. -/
structure HoldsIn (w : World) (A n B c : Nat) (sl : List (Int × Bool)) (D : DataW Unit) (Ex : Nat → Prop) (W : World) : Prop where
  stage : Stage w Ex A (hSt n sl) W
  exB : Ex B
  geB : w.heap.size ≤ B
  map : W.ownsMap Try.prog 3 (plainElem Try.prog 2) B c D
  inv : Inv (hSt n sl)
  small : Small (hSt n sl) 2
  len : sl.length = n
  agree : Agree n sl D
def HoldsAt (w : World) (A n B c : Nat) (W : World) : Prop := ∃ sl D Ex, HoldsIn w A n B c sl D Ex W

section
variable {w W : World} {A n B c k : Nat} {sl : List (Int × Bool)} {D : DataW Unit} {Ex : Nat → Prop}
theorem map_of_held {W' : World} (h : W.ownsMap Try.prog 3 (plainElem (H := Unit) Try.prog 2) B c D) (hb : W'.heap[B]? = W.heap[B]?) : W'.ownsMap Try.prog 3 (plainElem Try.prog 2) B c D := by
  obtain ⟨es, clock, h1, r⟩ := h
  exact ⟨es, clock, hb.trans h1, r⟩
theorem mk_bd (k : Nat) (hk : k < 4096) : 0 ≤ mkAddr 0 1 + k ∧ mkAddr 0 1 + k < 18446744073709551616 := by unfold mkAddr; omega
theorem HoldsIn.off (h : HoldsIn w A n B c sl D Ex W) (hn1 : 1 ≤ n) (hn : n ≤ 100) (hk : k < n) : Calls Try.prog 20 #[.pointer (some ⟨A, 0, none⟩), .int .u64 (mkAddr 0 1), .int .i64 k] W fun e w' => e = .returned (.tuple #[.int .u64 (mkAddr 0 1 + k), .int .i64 0]) ∧ W = w' := by
  obtain ⟨fp, hR⟩ := h.stage.rep
  have hb := mk_bd 0 (by omega)
  have := off_any hR h.inv (h.small.mono (by omega)) (mkAddr 0 1) k (by omega) (by omega)
  rw [hSt_off h.len hn1 hn hk] at this
  exact this
theorem HoldsIn.load (h : HoldsIn w A n B c sl D Ex W) (hn : n ≤ 100) {s : Int × Bool} (hs : sl[k]? = some s) : Calls Try.prog 18 #[.pointer (some ⟨A, 0, none⟩), .int .u64 (mkAddr 0 1 + k)] W fun e w' => e = .returned (.tuple #[.int .i64 (if s.2 then s.1 else 0), .int .i64 (if s.2 then 0 else 15)]) ∧ W = w' := by
  obtain ⟨fp, hR⟩ := h.stage.rep
  have hk : k < n := by rw [← h.len]; exact (List.getElem?_eq_some_iff.1 hs).1
  have hb := mk_bd k (by omega)
  have := load_any hR h.inv (h.small.mono (by omega)) (mkAddr 0 1 + k) hb.1 hb.2
  rw [hSt_load h.len hn hs] at this
  exact this
theorem HoldsIn.other (h : HoldsIn w A n B c sl D Ex W) (hn : n ≤ 100) : Calls Try.prog 18 #[.pointer (some ⟨A, 0, none⟩), .int .u64 (mkAddr 0 0)] W fun e w' => e = .returned (.tuple #[.int .i64 0, .int .i64 15]) ∧ W = w' := by
  obtain ⟨fp, hR⟩ := h.stage.rep
  have := load_any hR h.inv (h.small.mono (by omega)) (mkAddr 0 0) (by unfold mkAddr; omega) (by unfold mkAddr; omega)
  rw [hSt_other hn] at this
  exact this
/-- A slot was written, and not the map: what holds then, and what is to be said of the map. -/
structure Between (w : World) (A n B c : Nat) (sl sl' : List (Int × Bool)) (D : DataW Unit) (Ex : Nat → Prop) (W : World) : Prop where
  stage : Stage w Ex A (hSt n sl') W
  exB : Ex B
  geB : w.heap.size ≤ B
  map : W.ownsMap Try.prog 3 (plainElem Try.prog 2) B c D
  inv : Inv (hSt n sl')
  small : Small (hSt n sl') 2
  len : sl'.length = n
  agree : Agree n sl D
  old : sl.length = n
theorem HoldsIn.store (h : HoldsIn w A n B c sl D Ex W) (hn : n ≤ 100) (hk : k < n) (v : Int) : Calls Try.prog 16 #[.pointer (some ⟨A, 0, none⟩), .int .u64 (mkAddr 0 1 + k), .int .i64 v] W fun e w' => e = .returned (.int .i64 0) ∧ Between w A n B c sl (sl.set k (v, true)) D Ex w' := by
  have hb := mk_bd k (by omega)
  have hc := h.stage.did (fun fp hR => store_any hR h.inv (h.small.mono (by omega)) (mkAddr 0 1 + k) v hb.1 hb.2)
  rw [hSt_put h.len hn hk] at hc
  refine hc.mono ?_
  rintro e w' ⟨rfl, hS, hH⟩
  have hkp := mput_keep h.inv h.small (mkAddr 0 1 + k) (v, true)
  rw [hSt_put h.len hn hk] at hkp
  exact ⟨rfl, hS, h.exB, h.geB, map_of_held h.map (hH.2 B h.exB), hkp.1, hkp.2, by simpa using h.len, h.agree, h.len⟩
theorem HoldsIn.blank (h : HoldsIn w A n B c sl D Ex W) (hn : n ≤ 100) (hk : k < n) : Calls Try.prog 21 #[.pointer (some ⟨A, 0, none⟩), .int .u64 (mkAddr 0 1 + k)] W fun e w' => e = .returned (.int .i64 0) ∧ Between w A n B c sl (sl.set k (0, false)) D Ex w' := by
  have hb := mk_bd k (by omega)
  have hc := h.stage.did (fun fp hR => blank_any hR h.inv (h.small.mono (by omega)) (mkAddr 0 1 + k) hb.1 hb.2)
  rw [hSt_put h.len hn hk] at hc
  refine hc.mono ?_
  rintro e w' ⟨rfl, hS, hH⟩
  have hkp := mput_keep h.inv h.small (mkAddr 0 1 + k) (0, false)
  rw [hSt_put h.len hn hk] at hkp
  exact ⟨rfl, hS, h.exB, h.geB, map_of_held h.map (hH.2 B h.exB), hkp.1, hkp.2, by simpa using h.len, h.agree, h.len⟩
theorem Between.put {v : Int} {W' : World} (h : Between w A n B c sl (sl.set k (v, true)) D Ex W) (hk : k < n) (hm : W'.ownsMap Try.prog 3 (plainElem Try.prog 2) B (c + 1) (D.put (.int .i64 k) (.lit (.int .i64 v)))) (hg : W.grownBy W' (some B)) : HoldsAt w A n B (c + 1) W' :=
  ⟨_, _, _, { stage := h.stage.other hg fun j hj => by cases hj; exact ⟨h.exB, h.geB⟩, exB := .inl h.exB, geB := h.geB, map := hm, inv := h.inv, small := h.small, len := h.len, agree := h.agree.put h.map.isMap h.old hk v }⟩
theorem Between.del {W' : World} (h : Between w A n B c sl (sl.set k (0, false)) D Ex W) (hk : k < n) (hm : W'.ownsMap Try.prog 3 (plainElem Try.prog 2) B c (D.del (.int .i64 k))) (hg : W.grownBy W' (some B)) : HoldsAt w A n B (c + 1) W' :=
  ⟨_, _, _, { stage := h.stage.other hg fun j hj => by cases hj; exact ⟨h.exB, h.geB⟩, exB := .inl h.exB, geB := h.geB, map := hm.mono (by omega), inv := h.inv, small := h.small, len := h.len, agree := h.agree.del h.old hk }⟩
end
end Go.Proofs.Ytbjofdijhcdmaaa
