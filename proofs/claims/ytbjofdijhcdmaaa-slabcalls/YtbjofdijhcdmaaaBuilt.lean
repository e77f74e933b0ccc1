/-
  A slab of which pieces were got, and none freed: its data. And how a run goes on where another thing beside the slab turns.
-/
import Derived.Test.YtbjofdijhcdmaaaAlive
namespace Go.Proofs.Ytbjofdijhcdmaaa
set_option linter.unusedVariables false
open Go.RowKit

theorem alive_any (w : World) : Calls Try.prog 8 #[] w fun e w' => e = .returned (.bool true) ∧ Below w.heap.size w w' := callsIn_wide.1 (alive_in 3 (Nat.le_refl 3) w)

def oneEnt (n : Nat) : Ent := ⟨[n], List.replicate n (0, false)⟩
def bSt (R : Nat) (l : List Nat) : Sl := ⟨R, l.length, l.sum, l.map oneEnt, []⟩

theorem bSt_nil (R : Nat) : bSt R [] = newSl R := rfl
theorem bSt_get {R : Nat} {l : List Nat} {n : Nat} (h1 : 1 ≤ n) (h2 : n ≤ 4095) (h3 : l.sum + n ≤ R) : mget (bSt R l) n = (bSt R (l ++ [n]), mkAddr 0 l.length, 0) := by
  unfold mget
  rw [if_neg (by omega), if_neg (by simp only [bSt]; omega)]
  have et : mtake (bSt R l) = ({ bSt R l with ents := l.map oneEnt ++ [⟨[], []⟩] }, l.length) := by simp [mtake, bSt]
  rw [et]
  have hg : (l.map oneEnt ++ [(⟨[], []⟩ : Ent)])[l.length]? = some ⟨[], []⟩ := by
    rw [List.getElem?_append_right (by simp)]
    simp
  have e1 : ageAt { bSt R l with ents := l.map oneEnt ++ [⟨[], []⟩] } l.length = 0 := by simp [ageAt]
  have e2 : mnew { bSt R l with ents := l.map oneEnt ++ [⟨[], []⟩] } l.length n = bSt R (l ++ [n]) := by
    have hset : (l.map oneEnt ++ [(⟨[], []⟩ : Ent)]).set l.length ⟨[n], List.replicate n (0, false)⟩ = l.map oneEnt ++ [oneEnt n] := by
      rw [List.set_append_right _ _ (by simp)]
      simp [oneEnt]
    unfold mnew
    simp only [hg, List.nil_append]
    rw [hset]
    simp [bSt]
  simp only [Int.toNat_natCast, e1, e2]
theorem bSt_full {R : Nat} {l : List Nat} {n : Nat} (h1 : 1 ≤ n) (h2 : n ≤ 4095) (h3 : R < l.sum + n) : mget (bSt R l) n = (bSt R l, 0, 13) := by
  unfold mget
  rw [if_neg (by omega), if_pos (by simp only [bSt]; omega)]

theorem bSt_keep {R : Nat} {l : List Nat} {n : Nat} (h1 : 1 ≤ n) (h2 : n ≤ 4095) (h3 : l.sum + n ≤ R) (hi : Inv (bSt R l)) (hs : Small (bSt R l) l.length) : Inv (bSt R (l ++ [n])) ∧ Small (bSt R (l ++ [n])) (l ++ [n]).length := by
  have := mget_keep hi hs n
  rw [bSt_get h1 h2 h3] at this
  simpa using this

theorem mk_parts (g i p : Nat) (hi : i < 1048576) (hp : p < 4096) : idx (mkAddr g i + p) = i ∧ ageN (mkAddr g i + p) = g ∧ plc (mkAddr g i + p) = p ∧ 4611686018427387904 ≤ mkAddr g i + p := by
  unfold idx ageN plc mkAddr
  refine ⟨?_, ?_, ?_, ?_⟩ <;> omega
theorem mk_lt (g i p : Nat) (hg : g < 1000000000) (hi : i < 1048576) (hp : p < 4096) : mkAddr g i + p < 18446744073709551616 := by
  unfold mkAddr
  omega

theorem bSt_find {R : Nat} {l : List Nat} {k n p : Nat} (hk : l[k]? = some n) (hl : l.length < 1048576) (hp : p < n) (hn : n ≤ 4095) : mfind (bSt R l) (mkAddr 0 k + p) = 0 := by
  have hkl : k < l.length := (List.getElem?_eq_some_iff.1 hk).1
  obtain ⟨e1, e2, e3, e4⟩ := mk_parts 0 k p (by omega) (by omega)
  unfold mfind
  rw [if_neg (by omega), e1, e2, e3]
  have he : (bSt R l).ents[k]? = some (oneEnt n) := by simp [bSt, hk]
  simp only [he]
  simp [oneEnt]
  rw [if_neg (by omega), if_neg (by omega)]

section
variable {w0 W W' : World} {Ex : Nat → Prop} {A : Nat} {S : Sl}
/-- Something beside the slab has turned; what is new is held from now on. -/
theorem Stage.other {row : Option Nat} (h : Stage w0 Ex A S W) (hg : W.grownBy W' row) (hr : ∀ k, row = some k → Ex k ∧ w0.heap.size ≤ k) : Stage w0 (fun k => Ex k ∨ (W.heap.size ≤ k ∧ k < W'.heap.size)) A S W' := by
  obtain ⟨fp, hR, hf, hB, hE⟩ := h
  refine ⟨fp, hR.frame hg.size (fun k hk => hg.block k (hR.lt k hk) (fun e => (hf k hk).2 (hr k e.symm).1)), fun k hk => ⟨(hf k hk).1, fun he => ?_⟩, hB.grown hg hB.size (fun k e => (hr k e).2), fun k he => ?_⟩
  · rcases he with he | he
    · exact (hf k hk).2 he
    · have := hR.lt k hk
      omega
  · rcases he with he | he
    · exact Nat.lt_of_lt_of_le (hE k he) hg.size
    · exact he.2
theorem Stage.less {Ex' : Nat → Prop} (h : Stage w0 Ex A S W) (he : ∀ k, Ex' k → Ex k) : Stage w0 Ex' A S W := by
  obtain ⟨fp, hR, hf, hB, hE⟩ := h
  exact ⟨fp, hR, fun k hk => ⟨(hf k hk).1, fun e => (hf k hk).2 (he k e)⟩, hB, fun k hk => hE k (he k hk)⟩
theorem Held.own {base : Nat} {e : TypeId} {size : Nat} {v : Value} {n : Nat} {xs : List Value} (h : Held Ex W W') (ho : W.ownsRow base e size v n xs) (hb : OB Ex v) : W'.ownsRow base e size v n xs :=
  ownsRow_of_block ho fun k hk => h.2 k (hb k hk)
/-- A new block. -/
theorem Stage.alloc (h : Stage w0 Ex A S W) (o : Obj) : Stage w0 Ex A S (W.alloc o) := (h.box o).less fun _ h => .inl h
end

/-- A slab and a list of addresses beside it. -/
structure WithList (w0 : World) (A : Nat) (S : Sl) (lv : Value) (xs : List Int) (Ex : Nat → Prop) (W : World) : Prop where
  stage : Stage w0 Ex A S W
  row : W.ownsRow w0.heap.size 45 1 lv xs.length (xs.map (Value.int .u64))
  ob : OB Ex lv
def ListSt (w0 : World) (A : Nat) (S : Sl) (lv : Value) (xs : List Int) (W : World) : Prop := ∃ Ex, WithList w0 A S lv xs Ex W

/-- One address more in the list. -/
theorem ListSt.push {w0 W w1 : World} {A : Nat} {S : Sl} {lv : Value} {xs : List Int} {x : Int} {g cap : Nat} (h : ListSt w0 A S lv xs W)
    (ho : w1.ownsRow w0.heap.size 45 1 (.slice (some ⟨g, 0, none⟩) (xs.length + 1) cap) (xs.length + 1) (xs.map (Value.int .u64) ++ [.int .u64 x])) (hg : (W.alloc (.cells #[.int .u64 x] 45)).grownBy w1 lv.ownBlock) (hf : lv.ownBlock = some g ∨ g = W.heap.size + 1) (hl : g < w1.heap.size) :
    ListSt w0 A S (.slice (some ⟨g, 0, none⟩) (xs.length + 1) cap) (xs ++ [x]) w1 := by
  obtain ⟨Ex, h⟩ := h
  have h1 := h.stage.alloc (.cells #[.int .u64 x] 45)
  have h2 := h1.other hg (fun k hk => ⟨h.ob k hk, (h.row.lt k hk).1⟩)
  refine ⟨_, h2, by simpa using ho, fun k hk => ?_⟩
  simp [Value.ownBlock] at hk
  subst hk
  rcases hf with hf | hf
  · exact .inl (h.ob _ hf)
  · refine .inr ⟨?_, hl⟩
    simp
    omega
theorem ListSt.did {w0 W : World} {A : Nat} {S S' : Sl} {lv : Value} {xs : List Int} {P : Program} {f : FuncId} {args : Array Value} {E : Ending} (h : ListSt w0 A S lv xs W)
    (hc : ∀ fp, Rep W A S fp → Calls P f args W fun e w' => e = E ∧ Did W A S' fp w') :
    Calls P f args W fun e w' => e = E ∧ ListSt w0 A S' lv xs w' := by
  obtain ⟨Ex, h⟩ := h
  refine (h.stage.did hc).mono ?_
  rintro e w' ⟨rfl, hS, hH⟩
  exact ⟨rfl, Ex, hS, hH.own h.row h.ob, h.ob⟩
theorem ListSt.rep {w0 W : World} {A : Nat} {S : Sl} {lv : Value} {xs : List Int} (h : ListSt w0 A S lv xs W) : ∃ fp, Rep W A S fp := by
  obtain ⟨Ex, h⟩ := h
  exact h.stage.rep
theorem ListSt.below {w0 W : World} {A : Nat} {S : Sl} {lv : Value} {xs : List Int} (h : ListSt w0 A S lv xs W) : Below w0.heap.size w0 W := by
  obtain ⟨Ex, h⟩ := h
  exact h.stage.below
theorem ListSt.row {w0 W : World} {A : Nat} {S : Sl} {lv : Value} {xs : List Int} (h : ListSt w0 A S lv xs W) : W.ownsRow w0.heap.size 45 1 lv xs.length (xs.map (Value.int .u64)) := by
  obtain ⟨Ex, h⟩ := h
  exact h.row
theorem ListSt.cell {w0 W : World} {A : Nat} {S : Sl} {xs : List Int} {g n cap k : Nat} {x : Int} (h : ListSt w0 A S (.slice (some ⟨g, 0, none⟩) n cap) xs W) (hk : xs[k]? = some x) : W.cell? ⟨g, k, none⟩ = some (.int .u64 x) := by
  have hr := h.row
  obtain ⟨ao, c, hv, _⟩ := own_shape hr
  simp only [Value.slice.injEq] at hv
  obtain ⟨rfl, rfl, rfl⟩ := hv
  have hl : k < xs.length := (List.getElem?_eq_some_iff.1 hk).1
  rw [hr.cellAt k (by omega)]
  simp [hk]
/-- A new slab, and an empty list. -/
theorem ListSt.start {w0 W w1 : World} {n : Nat} (hB : Below w0.heap.size w0 W) (hR : Rep w1 W.heap.size (newSl n) (ext (fun _ => False) W w1)) (hk : Kp (fun _ => False) W w1) :
    ListSt w0 W.heap.size (newSl n) (.slice (some ⟨w1.heap.size, 0, none⟩) 0 0) [] (w1.alloc (.cells #[] 45)) := by
  have hS := (Stage.new (w0 := w0) (Ex := fun _ => False) hB (fun _ h => h.elim) hR hk).1
  have hb := hS.box (.cells #[] 45)
  refine ⟨_, hb, World.ownsRow_made w1 #[] 0 hS.below.size (by simp [maxLen]) (by simp), fun k hk => ?_⟩
  simp [Value.ownBlock] at hk
  exact .inr hk.symm
theorem Try.info45 : (Try.prog.info? 45).map (fun i => (i.zero, i.size, i.bytes)) = some (some (.int .u64 0), 1, 8) := by kernel_rfl
def lenV : Value → Nat
  | .slice _ n _ => n
  | _ => 0
end Go.Proofs.Ytbjofdijhcdmaaa
