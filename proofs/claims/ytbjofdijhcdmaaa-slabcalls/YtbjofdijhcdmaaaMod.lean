/-
  A slab's calls as functions on data; what stays true of the data. No walk, no memory here.
-/
import Derived.Test.YtbjofdijhcdmaaaRep
namespace Go.Proofs.Ytbjofdijhcdmaaa
set_option linter.unusedVariables false

def idx (a : Int) : Nat := (a % 4294967296 / 4096).toNat
def ageN (a : Int) : Nat := ((a - 4611686018427387904) / 4294967296).toNat
def plc (a : Int) : Nat := (a % 4096).toNat
def mkAddr (age index : Nat) : Int := 4611686018427387904 + (age : Int) * 4294967296 + (index : Int) * 4096

def taken (e : Ent) : Bool := e.slots.length != 0

structure Inv (st : Sl) : Prop where
  room : st.room ≤ 16384
  fits : st.used ≤ st.room
  used : st.used = (st.ents.map fun e => e.slots.length).sum
  live : st.live = st.ents.countP taken
  sizes : ∀ e ∈ st.ents, e.sizes ≠ [] ∧ ∀ n ∈ e.sizes, 1 ≤ n ∧ n ≤ 4095
  last : ∀ e ∈ st.ents, e.slots.length = 0 ∨ e.sizes.getLast? = some e.slots.length
  free : ∀ i ∈ st.free, ∃ e, st.ents[i]? = some e ∧ e.slots.length = 0
  nodup : st.free.Nodup

/-- Nothing has grown beyond N. -/
structure Small (st : Sl) (N : Nat) : Prop where
  ents : st.ents.length ≤ N
  free : st.free.length ≤ N
  sizes : ∀ e ∈ st.ents, e.sizes.length ≤ N

/-- The code that 'find' answers. -/
def mfind (st : Sl) (a : Int) : Nat :=
  if a < 4611686018427387904 then 12 else
  match st.ents[idx a]? with
  | none => 12
  | some e => match e.sizes[ageN a]? with
    | none => 12
    | some n => if n ≤ plc a then 12 else if ageN a + 1 < e.sizes.length ∨ e.slots.length = 0 then 14 else 0

theorem mfind_zero {st : Sl} {a : Int} (hv : Inv st) (h : mfind st a = 0) :
    4611686018427387904 ≤ a ∧ ∃ e, st.ents[idx a]? = some e ∧ e.sizes.length = ageN a + 1 ∧ e.sizes[ageN a]? = some e.slots.length ∧ plc a < e.slots.length := by
  unfold mfind at h
  by_cases hb : a < 4611686018427387904
  · simp [hb] at h
  · rw [if_neg hb] at h
    cases he : st.ents[idx a]? with
    | none => simp [he] at h
    | some e =>
      simp only [he] at h
      cases hs : e.sizes[ageN a]? with
      | none => simp [hs] at h
      | some n =>
        simp only [hs] at h
        by_cases hn : n ≤ plc a
        · simp [hn] at h
        · rw [if_neg hn] at h
          by_cases hf : ageN a + 1 < e.sizes.length ∨ e.slots.length = 0
          · rw [if_pos hf] at h
            omega
          · have hmem : e ∈ st.ents := List.mem_of_getElem? he
            have hlt : ageN a < e.sizes.length := (List.getElem?_eq_some_iff.1 hs).1
            have hlen : e.sizes.length = ageN a + 1 := by omega
            rcases hv.last e hmem with h0 | h0
            · omega
            · rw [List.getLast?_eq_getElem?, hlen] at h0
              simp only [Nat.add_sub_cancel] at h0
              rw [hs] at h0
              simp only [Option.some.injEq] at h0
              exact ⟨by omega, e, rfl, hlen, by rw [hs, h0], by omega⟩

theorem mfind_cases (st : Sl) (a : Int) : mfind st a = 0 ∨ mfind st a = 12 ∨ mfind st a = 14 := by
  unfold mfind
  split
  · simp
  · split
    · simp
    · split
      · simp
      · split
        · simp
        · split <;> simp

def mload (st : Sl) (a : Int) : Int × Int :=
  if mfind st a ≠ 0 then (0, mfind st a)
  else match st.ents[idx a]? with
    | none => (0, 0)
    | some e => match e.slots[plc a]? with
      | none => (0, 0)
      | some s => if s.2 then (s.1, 0) else (0, 15)

def msize (st : Sl) (a : Int) : Int × Int :=
  if mfind st a ≠ 0 then (0, mfind st a)
  else match st.ents[idx a]? with
    | none => (0, 0)
    | some e => (e.slots.length, 0)

def moff (st : Sl) (a : Int) (k : Int) : Int × Int :=
  if mfind st a ≠ 0 then (0, mfind st a)
  else match st.ents[idx a]? with
    | none => (0, 0)
    | some e => if k < - (plc a : Int) ∨ (e.slots.length : Int) - plc a ≤ k then (0, 11) else (mkAddr (e.sizes.length - 1) (idx a) + (plc a + k), 0)

def setEnt (st : Sl) (i : Nat) (f : Ent → Ent) : Sl :=
  match st.ents[i]? with
  | none => st
  | some e => { st with ents := st.ents.set i (f e) }

def mput (st : Sl) (a : Int) (v : Int × Bool) : Sl × Int :=
  if mfind st a ≠ 0 then (st, mfind st a)
  else (setEnt st (idx a) fun e => { e with slots := e.slots.set (plc a) v }, 0)

def mfree (st : Sl) (a : Int) : Sl × Int :=
  if mfind st a ≠ 0 then (st, mfind st a)
  else if plc a ≠ 0 then (st, 11)
  else match st.ents[idx a]? with
    | none => (st, 0)
    | some e => ({ st with live := st.live - 1, used := st.used - e.slots.length, ents := st.ents.set (idx a) { e with slots := [] }, free := st.free ++ [idx a] }, 0)

/-- The index of a new piece, and what is left. -/
def mtake (st : Sl) : Sl × Nat :=
  match st.free.getLast? with
  | none => ({ st with ents := st.ents ++ [⟨[], []⟩] }, st.ents.length)
  | some i => ({ st with free := st.free.dropLast }, i)

def mnew (st : Sl) (i n : Nat) : Sl :=
  match st.ents[i]? with
  | none => st
  | some e => { st with live := st.live + 1, used := st.used + n, ents := st.ents.set i ⟨e.sizes ++ [n], List.replicate n (0, false)⟩ }

def ageAt (st : Sl) (i : Nat) : Nat := match st.ents[i]? with
  | none => 0
  | some e => e.sizes.length

def mget (st : Sl) (n : Int) : Sl × Int × Int :=
  if n < 1 ∨ 4095 < n then (st, 0, 11)
  else if (st.room : Int) < st.used + n then (st, 0, 13)
  else (mnew (mtake st).1 (mtake st).2 n.toNat, mkAddr (ageAt (mtake st).1 (mtake st).2) (mtake st).2, 0)
end Go.Proofs.Ytbjofdijhcdmaaa
