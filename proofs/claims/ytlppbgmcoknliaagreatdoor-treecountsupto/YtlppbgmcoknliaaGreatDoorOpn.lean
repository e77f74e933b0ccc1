/-
  What comes in, read as programs' data: slices, places, and all that a program is made of; and how much it is in all.
-/
import Derived.Test.YtlppbgmcoknliaaGreatDoorRows
import Derived.Test.YtlppbgmcoknliaaGreatDoorRgt
import Derived.WalkKit
import Derived.ProofKit
import Derived.OpenShut
import Derived.ShutString
import Derived.ChangeOld
import Derived.Below
import Derived.Deep.Slices
import Derived.Deep.Strs
namespace Go.Proofs.YtlppbgmcoknliaaGreatDoor
open Go.ChangeShapes Go.WideShapes Go.ChangeAt Go.RowKit
set_option linter.unusedVariables false

theorem cell_lt {w : World} {a : Addr} {v : Value} (h : w.cell? a = some v) : a.block < w.heap.size := by
 unfold World.cell? at h
 cases hb : w.heap[a.block]? with
 | none => simp [hb] at h
 | some o => exact (Array.getElem?_eq_some_iff.1 hb).1
/-- One for each of a list's. -/
theorem pick {α β : Type} : ∀ (l : List β) (R : Nat → β → α → Prop), (∀ i y, l[i]? = some y → ∃ a, R i y a) → ∃ xs : List α, xs.length = l.length ∧ ∀ i y a, l[i]? = some y → xs[i]? = some a → R i y a
 | [], R, h => ⟨[], rfl, fun i y a hy => by simp at hy⟩
 | y :: l, R, h => by
  obtain ⟨a, ha⟩ := h 0 y rfl
  obtain ⟨xs, h1, h2⟩ := pick l (fun i => R (i + 1)) fun i z hz => h (i + 1) z (by simpa using hz)
  refine ⟨a :: xs, by simp [h1], fun i z b hz hb => ?_⟩
  cases i with
  | zero => simp at hz hb; subst hz hb; exact ha
  | succ i => exact h2 i z b (by simpa using hz) (by simpa using hb)
theorem sum_le {H α : Type} (sz : α → Nat) : ∀ (xs : List α) (l : List (DataW H × List MemPlace)), xs.length = l.length → (∀ (i : Nat) (y : DataW H × List MemPlace) (a : α), l[i]? = some y → xs[i]? = some a → sz a ≤ Rows.uptoBulk y.1) → (xs.map sz).sum ≤ Rows.uptoBulkAll (l.map (·.1))
 | [], [], _, _ => Nat.zero_le _
 | [], _ :: _, h, _ => by simp at h
 | _ :: _, [], h, _ => by simp at h
 | a :: xs, y :: l, h, k => by
  have h0 := k 0 y a rfl rfl
  have h1 := sum_le sz xs l (by simpa using h) fun i z b hz hb => k (i + 1) z b (by simpa using hz) (by simpa using hb)
  simp only [List.map_cons, List.sum_cons, Rows.uptoBulkAll]
  omega
theorem bulk_part {H : Type} {l : List (DataW H)} {d : DataW H} (h : d ∈ l) : Rows.uptoBulk d ≤ Rows.uptoBulkAll l := by
 induction l with
 | nil => cases h
 | cons x r ih =>
  simp only [Rows.uptoBulkAll]
  rcases List.mem_cons.1 h with rfl | e
  · omega
  · have := ih e; omega
theorem bulk_one {H : Type} (d : DataW H) : 1 ≤ Rows.uptoBulk d := by
 cases d with
 | lit l => cases l <;> simp [Rows.uptoBulk]
 | nil => simp [Rows.uptoBulk]
 | ptr d => simp [Rows.uptoBulk]
 | slice elems spare => simp [Rows.uptoBulk]
 | agg parts => simp [Rows.uptoBulk]
 | iface t d => simp [Rows.uptoBulk]
 | map entries => simp [Rows.uptoBulk]
 | held h => simp [Rows.uptoBulk]
theorem bulk_len {H : Type} : ∀ l : List (DataW H), l.length ≤ Rows.uptoBulkAll l
 | [] => Nat.le_refl _
 | d :: l => by
  have h1 := bulk_one d
  have h2 := bulk_len l
  simp only [Rows.uptoBulkAll, List.length_cons]
  omega

section
variable {H : Type} {enc : TypeId × Value → H} {W : World} {fuel : Nat} {x : DataW H × List MemPlace}

theorem open_rows {α : Type} (row : α → List Value) (P : α → Prop) (sz : α → Nat) {t e : TypeId} {k : Nat} {cs : List Value} (ht : Tryz.prog.underlying t = some (.slice e)) (hk : Tryz.prog.cellsOf e = k) (hk0 : 0 < k)
 (h : DataW.trod enc Tryz.prog W 0 (fun _ => true) true fuel t cs = some x) (hlen : ∀ ad len cap, cs = [.slice ad len cap] → len ≤ 1048576)
 (hone : ∀ n cs' y, DataW.trod enc Tryz.prog W 0 (fun _ => true) true n e cs' = some y → Rows.uptoBulk y.1 ≤ Rows.uptoBulk x.1 → ∃ a, cs' = row a ∧ (row a).length = k ∧ P a ∧ sz a ≤ Rows.uptoBulk y.1) :
 ∃ (ad : Option Addr) (c : Nat) (xs : List α), cs = [.slice ad xs.length c] ∧ xs.length ≤ c ∧ c ≤ maxLen ∧ Sl W k ad (xs.map row) ∧ (∀ a ∈ xs, P a) ∧ (xs.map sz).sum + 1 ≤ Rows.uptoBulk x.1 := by
 rcases DataW.trod_slice ht h with ⟨hcs, hx⟩ | ⟨a, len, cap, elems, rest, n, _, hcs, hx, _, hl, hm, hlen2, hel, _⟩
 · exact ⟨none, 0, [], hcs, Nat.le_refl _, Nat.zero_le _, Sl.nil, fun a ha => by simp at ha, by rw [hx]; simp [Rows.uptoBulk]⟩
 · have hbig := hlen _ _ _ hcs
   rw [hk] at hel
   have hb : Rows.uptoBulkAll (elems.map (·.1)) + 1 ≤ Rows.uptoBulk x.1 := by rw [hx]; simp only [Rows.uptoBulk]; omega
   obtain ⟨xs, h1, h2⟩ := pick elems (fun i y b => W.cells? 0 (a.add (i * k)) k = some (row b) ∧ (row b).length = k ∧ P b ∧ sz b ≤ Rows.uptoBulk y.1) fun i y hy => by
    have hi := (List.getElem?_eq_some_iff.1 hy).1
    have := hel i (by omega)
    rw [hy] at this
    obtain ⟨cs', hc1, hc2⟩ := Option.bind_eq_some_iff.1 this
    obtain ⟨b, rfl, hb2, hb3, hb4⟩ := hone n cs' y hc2 (Nat.le_trans (bulk_part (l := elems.map (·.1)) (List.mem_map.2 ⟨y, List.mem_of_getElem? hy, rfl⟩)) (by omega))
    exact ⟨b, hc1, hb2, hb3, hb4⟩
   have each : ∀ i b, xs[i]? = some b → W.cells? 0 (a.add (i * k)) k = some (row b) ∧ (row b).length = k ∧ P b := fun i b hb => by
    have hi := (List.getElem?_eq_some_iff.1 hb).1
    obtain ⟨y, hy⟩ : ∃ y, elems[i]? = some y := ⟨_, List.getElem?_eq_getElem (by omega)⟩
    obtain ⟨e1, e2, e3, _⟩ := h2 i y b hy hb
    exact ⟨e1, e2, e3⟩
   have hs := sum_le sz xs elems h1 fun i y b hy hb => (h2 i y b hy hb).2.2.2
   refine ⟨some a, cap, xs, by rw [hcs, h1, hlen2], by omega, hm, ⟨fun r hr => ?_, by rw [List.length_map]; omega, ?_⟩, fun b hb => ?_, by omega⟩
   · obtain ⟨b, hb, rfl⟩ := List.mem_map.1 hr
     obtain ⟨i, hi⟩ := List.mem_iff_getElem?.1 hb
     exact (each i b hi).2.1
   · cases hx0 : xs with
     | nil => exact .inl rfl
     | cons b0 l0 =>
      refine .inr ?_
      rw [← hx0]
      have cell : ∀ i b j v, xs[i]? = some b → (row b)[j]? = some v → W.cell? ((a.add (i * k)).add j) = some v := fun i b j v hi hj => by
       obtain ⟨e1, e2, _⟩ := each i b hi
       obtain ⟨_, _, hcell⟩ := World.cells?_some e1
       have hjl := (List.getElem?_eq_some_iff.1 hj).1
       rw [hcell j (by omega)]
       exact hj
      have e0 := each 0 b0 (by rw [hx0]; rfl)
      obtain ⟨v0, hv0⟩ : ∃ v, (row b0)[0]? = some v := ⟨_, List.getElem?_eq_getElem (by rw [e0.2.1]; exact hk0)⟩
      have c0 := cell 0 b0 0 v0 (by rw [hx0]; rfl) hv0
      obtain ⟨b, off, spot⟩ := a
      have hspot : spot = none := by simpa [Addr.add] using World.cell?_spot c0
      subst hspot
      refine ⟨b, off, rfl, ?_, fun j r i v hj hi => ?_⟩
      · have h3 := cell_lt c0
        rw [Addr.add_lit, Addr.add_lit] at h3
        exact h3
      · rw [List.getElem?_map, Option.map_eq_some_iff] at hj
        obtain ⟨y, hy, rfl⟩ := hj
        have h3 := cell j y i v hy hi
        rw [Addr.add_lit, Addr.add_lit] at h3
        exact h3
   · obtain ⟨i, hi⟩ := List.mem_iff_getElem?.1 hb
     exact (each i b hi).2.2

end

/-- How much it is in all: letters, and things. -/
def szS (s : ByteArray) : Nat := s.size + 1
def szL {α : Type} (f : α → Nat) (l : List α) : Nat := (l.map f).sum
def PlaceD.sz (p : PlaceD) : Nat := szS p.loc + szL szS p.steps + 1
def VarD.sz (v : VarD) : Nat := szS v.name + szS v.type
def ArmD.sz (a : ArmD) : Nat := szS a.variant + szS a.loc + szS a.block
def StmtD.sz (s : StmtD) : Nat := s.to.sz + szS s.name + szS s.variant + szL PlaceD.sz s.args + 1
def TermD.sz (t : TermD) : Nat := t.to.sz + szS t.name + szL PlaceD.sz t.args + szL szS t.blocks + szL ArmD.sz t.arms + 1
def BlockD.sz (b : BlockD) : Nat := szS b.name + szL StmtD.sz b.stmts + b.term.sz + 1
def FuncD.sz (f : FuncD) : Nat := szS f.name + szS f.result + szL VarD.sz f.params + szL VarD.sz f.locals + szL BlockD.sz f.blocks + 1
def StructD.sz (s : StructD) : Nat := szS s.name + szL VarD.sz s.fields + 1
def EnumD.sz (s : EnumD) : Nat := szS s.name + szL VarD.sz s.variants + 1
def ProgD.sz (p : ProgD) : Nat := szL StructD.sz p.structs + szL EnumD.sz p.enums + szL FuncD.sz p.funcs + 1
theorem szL_map {α β : Type} (f : β → Nat) (g : α → β) (l : List α) : szL f (l.map g) = szL (fun x => f (g x)) l := by unfold szL; rw [List.map_map]; rfl
/-- The capacities that the slices have. -/
def PlaceX.Cap (p : PlaceX) : Prop := p.steps.length ≤ p.sc

section
variable {H : Type} {enc : TypeId × Value → H} {W : World} {fuel : Nat} {x : DataW H × List MemPlace}
theorem open_str {cs : List Value} (h : DataW.trod enc Tryz.prog W 0 (fun _ => true) true fuel 9 cs = some x) : ∃ s : ByteArray, cs = [.string s] ∧ szS s ≤ Rows.uptoBulk x.1 := by
 obtain ⟨s, h1, h2, _⟩ := DataW.trod_string Tryz.underlying9 h
 refine ⟨s, h1, ?_⟩
 rw [h2]
 simp only [Rows.uptoBulk, szS, size_list]
 exact Nat.le_refl _
theorem open_num {cs : List Value} (h : DataW.trod enc Tryz.prog W 0 (fun _ => true) true fuel 3 cs = some x) : ∃ n : Int, cs = [.int .i64 n] ∧ (Lit.int .i64 n).wf = true := by
 obtain ⟨n, h1, _, h3⟩ := DataW.trod_int Tryz.underlying3 h
 exact ⟨n, h1, h3⟩
theorem open_num2 {cs : List Value} (h : DataW.trod enc Tryz.prog W 0 (fun _ => true) true fuel 2 cs = some x) : ∃ n : Int, cs = [.int .i64 n] ∧ (Lit.int .i64 n).wf = true := by
 obtain ⟨n, h1, _, h3⟩ := DataW.trod_int Tryz.underlying2 h
 exact ⟨n, h1, h3⟩
theorem open_flag {cs : List Value} (h : DataW.trod enc Tryz.prog W 0 (fun _ => true) true fuel 4 cs = some x) : ∃ b : Bool, cs = [.bool b] := by
 obtain ⟨b, h1, _⟩ := DataW.trod_bool Tryz.underlying4 h
 exact ⟨b, h1⟩
theorem open_strs {cs : List Value} (h : DataW.trod enc Tryz.prog W 0 (fun _ => true) true fuel 22 cs = some x) (hb : Rows.uptoBulk x.1 ≤ 1048576) :
 ∃ (ad : Option Addr) (c : Nat) (xs : List ByteArray), cs = [.slice ad xs.length c] ∧ xs.length ≤ c ∧ Sl W 1 ad (xs.map (fun s => [Value.string s])) ∧ (∀ a ∈ xs, True) ∧ szL szS xs + 1 ≤ Rows.uptoBulk x.1 := by
 obtain ⟨ad, c, xs, h1, h2, _, h3, h4, h5⟩ := open_rows (fun s => [Value.string s]) (fun a => True) szS Tryz.underlying22 (by kernel_rfl : Tryz.prog.cellsOf 9 = 1) (by decide) h (fun ad len cap hc => by
  rcases DataW.trod_slice Tryz.underlying22 h with ⟨hcs, _⟩ | ⟨a, l, c, elems, rest, n, _, hcs, hx, _, _, _, hl, _⟩
  · rw [hcs] at hc; cases hc; exact Nat.zero_le _
  · rw [hcs] at hc; cases hc
    have e1 := bulk_len (elems.map (·.1))
    rw [List.length_map] at e1
    rw [hx] at hb
    simp only [Rows.uptoBulk] at hb
    omega) (fun n cs' y hy hle => by obtain ⟨s, h1, h2⟩ := open_str hy; exact ⟨s, h1, rfl, trivial, h2⟩)
 exact ⟨ad, c, xs, h1, h2, h3, h4, h5⟩
theorem lit_len {α : Type} : ∀ (n : Nat) (l : List α), l.length = n + 1 → ∃ a r, l = a :: r ∧ r.length = n
 | n, [], h => by simp at h
 | n, a :: r, h => ⟨a, r, rfl, by simpa using h⟩
theorem lit_nil {α : Type} {l : List α} (h : l.length = 0) : l = [] := List.length_eq_zero_iff.1 h
theorem small_of {H : Type} {l : List (DataW H)} {n : Nat} (h : Rows.uptoBulk (DataW.agg l) ≤ n) {d : DataW H} (hd : d ∈ l) : Rows.uptoBulk d ≤ n := by
 have := bulk_part hd
 simp only [Rows.uptoBulk] at h
 omega
theorem open_place {cs : List Value} (h : DataW.trod enc Tryz.prog W 0 (fun _ => true) true fuel 24 cs = some x) (hb : Rows.uptoBulk x.1 ≤ 1048576) :
 ∃ a : PlaceX, cs = a.row ∧ a.row.length = 2 ∧ (a.At W ∧ a.Cap) ∧ a.d.sz ≤ Rows.uptoBulk x.1 := by
 obtain ⟨xs, n, _, hx, hl, hlen, hf⟩ := DataW.trod_struct Tryz.underlying24 h
 rw [show Tryz.prog.cellsOf 24 = 2 by kernel_rfl] at hl
 have hlen : xs.length = 2 := hlen
 obtain ⟨y0, xs_0, rfl, hlen_0⟩ := lit_len 1 _ hlen
 obtain ⟨y1, xs_1, rfl, hlen_1⟩ := lit_len 0 _ hlen_0
 obtain rfl := lit_nil hlen_1
 obtain ⟨v0, cs_0, rfl, hl_0⟩ := lit_len 1 _ hl
 obtain ⟨v1, cs_1, rfl, hl_1⟩ := lit_len 0 _ hl_0
 obtain rfl := lit_nil hl_1
 have f0 : DataW.trod enc Tryz.prog W 0 (fun _ => true) true n 9 ((([v0, v1] : List Value).drop 0).take (Tryz.prog.cellsOf 9)) = ([y0, y1] : List (DataW H × List MemPlace))[0]? := hf 0 _ rfl
 rw [show Tryz.prog.cellsOf 9 = 1 by kernel_rfl] at f0
 have f1 : DataW.trod enc Tryz.prog W 0 (fun _ => true) true n 22 ((([v0, v1] : List Value).drop 1).take (Tryz.prog.cellsOf 22)) = ([y0, y1] : List (DataW H × List MemPlace))[1]? := hf 1 _ rfl
 rw [show Tryz.prog.cellsOf 22 = 1 by kernel_rfl] at f1
 rw [hx] at hb ⊢
 have b0 : Rows.uptoBulk y0.1 ≤ 1048576 := small_of hb (by simp)
 have b1 : Rows.uptoBulk y1.1 ≤ 1048576 := small_of hb (by simp)
 have g0 : DataW.trod enc Tryz.prog W 0 (fun _ => true) true n 9 [v0] = some y0 := f0
 have g1 : DataW.trod enc Tryz.prog W 0 (fun _ => true) true n 22 [v1] = some y1 := f1
 obtain ⟨s0, e0, z0⟩ := open_str g0
 obtain ⟨ad1, c1, l1, e1, k1, m1, a1, z1⟩ := open_strs g1 b1
 simp only [List.map_cons, List.map_nil, Rows.uptoBulk, Rows.uptoBulkAll]
 cases e0
 cases e1
 refine ⟨⟨s0, ad1, c1, l1⟩, rfl, rfl, ⟨m1, k1⟩, ?_⟩
 simp only [PlaceX.d, PlaceD.sz]
 omega
theorem open_var {cs : List Value} (h : DataW.trod enc Tryz.prog W 0 (fun _ => true) true fuel 52 cs = some x) (hb : Rows.uptoBulk x.1 ≤ 1048576) :
 ∃ a : VarD, cs = a.row ∧ a.row.length = 2 ∧ True ∧ a.sz ≤ Rows.uptoBulk x.1 := by
 obtain ⟨xs, n, _, hx, hl, hlen, hf⟩ := DataW.trod_struct Tryz.underlying52 h
 rw [show Tryz.prog.cellsOf 52 = 2 by kernel_rfl] at hl
 have hlen : xs.length = 2 := hlen
 obtain ⟨y0, xs_0, rfl, hlen_0⟩ := lit_len 1 _ hlen
 obtain ⟨y1, xs_1, rfl, hlen_1⟩ := lit_len 0 _ hlen_0
 obtain rfl := lit_nil hlen_1
 obtain ⟨v0, cs_0, rfl, hl_0⟩ := lit_len 1 _ hl
 obtain ⟨v1, cs_1, rfl, hl_1⟩ := lit_len 0 _ hl_0
 obtain rfl := lit_nil hl_1
 have f0 : DataW.trod enc Tryz.prog W 0 (fun _ => true) true n 9 ((([v0, v1] : List Value).drop 0).take (Tryz.prog.cellsOf 9)) = ([y0, y1] : List (DataW H × List MemPlace))[0]? := hf 0 _ rfl
 rw [show Tryz.prog.cellsOf 9 = 1 by kernel_rfl] at f0
 have f1 : DataW.trod enc Tryz.prog W 0 (fun _ => true) true n 9 ((([v0, v1] : List Value).drop 1).take (Tryz.prog.cellsOf 9)) = ([y0, y1] : List (DataW H × List MemPlace))[1]? := hf 1 _ rfl
 rw [show Tryz.prog.cellsOf 9 = 1 by kernel_rfl] at f1
 rw [hx] at hb ⊢
 have b0 : Rows.uptoBulk y0.1 ≤ 1048576 := small_of hb (by simp)
 have b1 : Rows.uptoBulk y1.1 ≤ 1048576 := small_of hb (by simp)
 have g0 : DataW.trod enc Tryz.prog W 0 (fun _ => true) true n 9 [v0] = some y0 := f0
 have g1 : DataW.trod enc Tryz.prog W 0 (fun _ => true) true n 9 [v1] = some y1 := f1
 obtain ⟨s0, e0, z0⟩ := open_str g0
 obtain ⟨s1, e1, z1⟩ := open_str g1
 simp only [List.map_cons, List.map_nil, Rows.uptoBulk, Rows.uptoBulkAll]
 cases e0
 cases e1
 refine ⟨⟨s0, s1⟩, rfl, rfl, trivial, ?_⟩
 simp only [VarD.sz]
 omega
theorem open_arm {cs : List Value} (h : DataW.trod enc Tryz.prog W 0 (fun _ => true) true fuel 103 cs = some x) (hb : Rows.uptoBulk x.1 ≤ 1048576) :
 ∃ a : ArmD, cs = a.row ∧ a.row.length = 3 ∧ True ∧ a.sz ≤ Rows.uptoBulk x.1 := by
 obtain ⟨xs, n, _, hx, hl, hlen, hf⟩ := DataW.trod_struct Tryz.underlying103 h
 rw [show Tryz.prog.cellsOf 103 = 3 by kernel_rfl] at hl
 have hlen : xs.length = 3 := hlen
 obtain ⟨y0, xs_0, rfl, hlen_0⟩ := lit_len 2 _ hlen
 obtain ⟨y1, xs_1, rfl, hlen_1⟩ := lit_len 1 _ hlen_0
 obtain ⟨y2, xs_2, rfl, hlen_2⟩ := lit_len 0 _ hlen_1
 obtain rfl := lit_nil hlen_2
 obtain ⟨v0, cs_0, rfl, hl_0⟩ := lit_len 2 _ hl
 obtain ⟨v1, cs_1, rfl, hl_1⟩ := lit_len 1 _ hl_0
 obtain ⟨v2, cs_2, rfl, hl_2⟩ := lit_len 0 _ hl_1
 obtain rfl := lit_nil hl_2
 have f0 : DataW.trod enc Tryz.prog W 0 (fun _ => true) true n 9 ((([v0, v1, v2] : List Value).drop 0).take (Tryz.prog.cellsOf 9)) = ([y0, y1, y2] : List (DataW H × List MemPlace))[0]? := hf 0 _ rfl
 rw [show Tryz.prog.cellsOf 9 = 1 by kernel_rfl] at f0
 have f1 : DataW.trod enc Tryz.prog W 0 (fun _ => true) true n 9 ((([v0, v1, v2] : List Value).drop 1).take (Tryz.prog.cellsOf 9)) = ([y0, y1, y2] : List (DataW H × List MemPlace))[1]? := hf 1 _ rfl
 rw [show Tryz.prog.cellsOf 9 = 1 by kernel_rfl] at f1
 have f2 : DataW.trod enc Tryz.prog W 0 (fun _ => true) true n 9 ((([v0, v1, v2] : List Value).drop 2).take (Tryz.prog.cellsOf 9)) = ([y0, y1, y2] : List (DataW H × List MemPlace))[2]? := hf 2 _ rfl
 rw [show Tryz.prog.cellsOf 9 = 1 by kernel_rfl] at f2
 rw [hx] at hb ⊢
 have b0 : Rows.uptoBulk y0.1 ≤ 1048576 := small_of hb (by simp)
 have b1 : Rows.uptoBulk y1.1 ≤ 1048576 := small_of hb (by simp)
 have b2 : Rows.uptoBulk y2.1 ≤ 1048576 := small_of hb (by simp)
 have g0 : DataW.trod enc Tryz.prog W 0 (fun _ => true) true n 9 [v0] = some y0 := f0
 have g1 : DataW.trod enc Tryz.prog W 0 (fun _ => true) true n 9 [v1] = some y1 := f1
 have g2 : DataW.trod enc Tryz.prog W 0 (fun _ => true) true n 9 [v2] = some y2 := f2
 obtain ⟨s0, e0, z0⟩ := open_str g0
 obtain ⟨s1, e1, z1⟩ := open_str g1
 obtain ⟨s2, e2, z2⟩ := open_str g2
 simp only [List.map_cons, List.map_nil, Rows.uptoBulk, Rows.uptoBulkAll]
 cases e0
 cases e1
 cases e2
 refine ⟨⟨s0, s1, s2⟩, rfl, rfl, trivial, ?_⟩
 simp only [ArmD.sz]
 omega
theorem open_places {cs : List Value} (h : DataW.trod enc Tryz.prog W 0 (fun _ => true) true fuel 46 cs = some x) (hb : Rows.uptoBulk x.1 ≤ 1048576) :
 ∃ (ad : Option Addr) (c : Nat) (xs : List PlaceX), cs = [.slice ad xs.length c] ∧ xs.length ≤ c ∧ Sl W 2 ad (xs.map PlaceX.row) ∧ (∀ a ∈ xs, (a.At W ∧ a.Cap)) ∧ szL (fun a => a.d.sz) xs + 1 ≤ Rows.uptoBulk x.1 := by
 obtain ⟨ad, c, xs, h1, h2, _, h3, h4, h5⟩ := open_rows PlaceX.row (fun a => (a.At W ∧ a.Cap)) (fun a => a.d.sz) Tryz.underlying46 (by kernel_rfl : Tryz.prog.cellsOf 24 = 2) (by decide) h (fun ad len cap hc => by
  rcases DataW.trod_slice Tryz.underlying46 h with ⟨hcs, _⟩ | ⟨a, l, c, elems, rest, n, _, hcs, hx, _, _, _, hl, _⟩
  · rw [hcs] at hc; cases hc; exact Nat.zero_le _
  · rw [hcs] at hc; cases hc
    have e1 := bulk_len (elems.map (·.1))
    rw [List.length_map] at e1
    rw [hx] at hb
    simp only [Rows.uptoBulk] at hb
    omega) (fun n cs' y hy hle => by obtain ⟨a, h1, h2, h3, h4⟩ := open_place hy (Nat.le_trans hle hb); exact ⟨a, h1, h2, h3, h4⟩)
 exact ⟨ad, c, xs, h1, h2, h3, h4, h5⟩
theorem open_vars {cs : List Value} (h : DataW.trod enc Tryz.prog W 0 (fun _ => true) true fuel 42 cs = some x) (hb : Rows.uptoBulk x.1 ≤ 1048576) :
 ∃ (ad : Option Addr) (c : Nat) (xs : List VarD), cs = [.slice ad xs.length c] ∧ xs.length ≤ c ∧ Sl W 2 ad (xs.map VarD.row) ∧ (∀ a ∈ xs, True) ∧ szL VarD.sz xs + 1 ≤ Rows.uptoBulk x.1 := by
 obtain ⟨ad, c, xs, h1, h2, _, h3, h4, h5⟩ := open_rows VarD.row (fun a => True) VarD.sz Tryz.underlying42 (by kernel_rfl : Tryz.prog.cellsOf 52 = 2) (by decide) h (fun ad len cap hc => by
  rcases DataW.trod_slice Tryz.underlying42 h with ⟨hcs, _⟩ | ⟨a, l, c, elems, rest, n, _, hcs, hx, _, _, _, hl, _⟩
  · rw [hcs] at hc; cases hc; exact Nat.zero_le _
  · rw [hcs] at hc; cases hc
    have e1 := bulk_len (elems.map (·.1))
    rw [List.length_map] at e1
    rw [hx] at hb
    simp only [Rows.uptoBulk] at hb
    omega) (fun n cs' y hy hle => by obtain ⟨a, h1, h2, h3, h4⟩ := open_var hy (Nat.le_trans hle hb); exact ⟨a, h1, h2, h3, h4⟩)
 exact ⟨ad, c, xs, h1, h2, h3, h4, h5⟩
theorem open_arms {cs : List Value} (h : DataW.trod enc Tryz.prog W 0 (fun _ => true) true fuel 59 cs = some x) (hb : Rows.uptoBulk x.1 ≤ 1048576) :
 ∃ (ad : Option Addr) (c : Nat) (xs : List ArmD), cs = [.slice ad xs.length c] ∧ xs.length ≤ c ∧ Sl W 3 ad (xs.map ArmD.row) ∧ (∀ a ∈ xs, True) ∧ szL ArmD.sz xs + 1 ≤ Rows.uptoBulk x.1 := by
 obtain ⟨ad, c, xs, h1, h2, _, h3, h4, h5⟩ := open_rows ArmD.row (fun a => True) ArmD.sz Tryz.underlying59 (by kernel_rfl : Tryz.prog.cellsOf 103 = 3) (by decide) h (fun ad len cap hc => by
  rcases DataW.trod_slice Tryz.underlying59 h with ⟨hcs, _⟩ | ⟨a, l, c, elems, rest, n, _, hcs, hx, _, _, _, hl, _⟩
  · rw [hcs] at hc; cases hc; exact Nat.zero_le _
  · rw [hcs] at hc; cases hc
    have e1 := bulk_len (elems.map (·.1))
    rw [List.length_map] at e1
    rw [hx] at hb
    simp only [Rows.uptoBulk] at hb
    omega) (fun n cs' y hy hle => by obtain ⟨a, h1, h2, h3, h4⟩ := open_arm hy (Nat.le_trans hle hb); exact ⟨a, h1, h2, h3, h4⟩)
 exact ⟨ad, c, xs, h1, h2, h3, h4, h5⟩
/-- What is known of the parts of a statement. -/
def StmtX.Ok (w : World) (s : StmtX) : Prop := s.At w ∧ (s.to.Cap ∧ (∀ p ∈ s.args, p.Cap)) ∧ (Lit.int .i64 s.kind).wf = true ∧ (Lit.int .i64 s.n).wf = true
def TermX.Ok (w : World) (s : TermX) : Prop := s.At w ∧ (s.to.Cap ∧ (∀ p ∈ s.args, p.Cap)) ∧ (Lit.int .i64 s.kind).wf = true
def BlockX.Ok (w : World) (b : BlockX) : Prop := b.At w ∧ (∀ s ∈ b.stmts, s.Ok w) ∧ b.term.Ok w
def FuncX.Ok (w : World) (f : FuncX) : Prop := f.At w ∧ (∀ b ∈ f.blocks, b.Ok w) ∧ f.params.length ≤ f.pc ∧ f.locals.length ≤ f.lc
def ProgX.Ok (w : World) (p : ProgX) : Prop := p.At w ∧ (∀ f ∈ p.funcs, f.Ok w) ∧ p.structs.length ≤ p.sc ∧ p.enums.length ≤ p.ec ∧ p.funcs.length ≤ p.fc
theorem open_stmt {cs : List Value} (h : DataW.trod enc Tryz.prog W 0 (fun _ => true) true fuel 68 cs = some x) (hb : Rows.uptoBulk x.1 ≤ 1048576) :
 ∃ a : StmtX, cs = a.row ∧ a.row.length = 8 ∧ a.Ok W ∧ a.d.sz ≤ Rows.uptoBulk x.1 := by
 obtain ⟨xs, n, _, hx, hl, hlen, hf⟩ := DataW.trod_struct Tryz.underlying68 h
 rw [show Tryz.prog.cellsOf 68 = 8 by kernel_rfl] at hl
 have hlen : xs.length = 7 := hlen
 obtain ⟨y0, xs_0, rfl, hlen_0⟩ := lit_len 6 _ hlen
 obtain ⟨y1, xs_1, rfl, hlen_1⟩ := lit_len 5 _ hlen_0
 obtain ⟨y2, xs_2, rfl, hlen_2⟩ := lit_len 4 _ hlen_1
 obtain ⟨y3, xs_3, rfl, hlen_3⟩ := lit_len 3 _ hlen_2
 obtain ⟨y4, xs_4, rfl, hlen_4⟩ := lit_len 2 _ hlen_3
 obtain ⟨y5, xs_5, rfl, hlen_5⟩ := lit_len 1 _ hlen_4
 obtain ⟨y6, xs_6, rfl, hlen_6⟩ := lit_len 0 _ hlen_5
 obtain rfl := lit_nil hlen_6
 obtain ⟨v0, cs_0, rfl, hl_0⟩ := lit_len 7 _ hl
 obtain ⟨v1, cs_1, rfl, hl_1⟩ := lit_len 6 _ hl_0
 obtain ⟨v2, cs_2, rfl, hl_2⟩ := lit_len 5 _ hl_1
 obtain ⟨v3, cs_3, rfl, hl_3⟩ := lit_len 4 _ hl_2
 obtain ⟨v4, cs_4, rfl, hl_4⟩ := lit_len 3 _ hl_3
 obtain ⟨v5, cs_5, rfl, hl_5⟩ := lit_len 2 _ hl_4
 obtain ⟨v6, cs_6, rfl, hl_6⟩ := lit_len 1 _ hl_5
 obtain ⟨v7, cs_7, rfl, hl_7⟩ := lit_len 0 _ hl_6
 obtain rfl := lit_nil hl_7
 have f0 : DataW.trod enc Tryz.prog W 0 (fun _ => true) true n 3 ((([v0, v1, v2, v3, v4, v5, v6, v7] : List Value).drop 0).take (Tryz.prog.cellsOf 3)) = ([y0, y1, y2, y3, y4, y5, y6] : List (DataW H × List MemPlace))[0]? := hf 0 _ rfl
 rw [show Tryz.prog.cellsOf 3 = 1 by kernel_rfl] at f0
 have f1 : DataW.trod enc Tryz.prog W 0 (fun _ => true) true n 3 ((([v0, v1, v2, v3, v4, v5, v6, v7] : List Value).drop 1).take (Tryz.prog.cellsOf 3)) = ([y0, y1, y2, y3, y4, y5, y6] : List (DataW H × List MemPlace))[1]? := hf 1 _ rfl
 rw [show Tryz.prog.cellsOf 3 = 1 by kernel_rfl] at f1
 have f2 : DataW.trod enc Tryz.prog W 0 (fun _ => true) true n 24 ((([v0, v1, v2, v3, v4, v5, v6, v7] : List Value).drop 2).take (Tryz.prog.cellsOf 24)) = ([y0, y1, y2, y3, y4, y5, y6] : List (DataW H × List MemPlace))[2]? := hf 2 _ rfl
 rw [show Tryz.prog.cellsOf 24 = 2 by kernel_rfl] at f2
 have f3 : DataW.trod enc Tryz.prog W 0 (fun _ => true) true n 2 ((([v0, v1, v2, v3, v4, v5, v6, v7] : List Value).drop 4).take (Tryz.prog.cellsOf 2)) = ([y0, y1, y2, y3, y4, y5, y6] : List (DataW H × List MemPlace))[3]? := hf 3 _ rfl
 rw [show Tryz.prog.cellsOf 2 = 1 by kernel_rfl] at f3
 have f4 : DataW.trod enc Tryz.prog W 0 (fun _ => true) true n 9 ((([v0, v1, v2, v3, v4, v5, v6, v7] : List Value).drop 5).take (Tryz.prog.cellsOf 9)) = ([y0, y1, y2, y3, y4, y5, y6] : List (DataW H × List MemPlace))[4]? := hf 4 _ rfl
 rw [show Tryz.prog.cellsOf 9 = 1 by kernel_rfl] at f4
 have f5 : DataW.trod enc Tryz.prog W 0 (fun _ => true) true n 9 ((([v0, v1, v2, v3, v4, v5, v6, v7] : List Value).drop 6).take (Tryz.prog.cellsOf 9)) = ([y0, y1, y2, y3, y4, y5, y6] : List (DataW H × List MemPlace))[5]? := hf 5 _ rfl
 rw [show Tryz.prog.cellsOf 9 = 1 by kernel_rfl] at f5
 have f6 : DataW.trod enc Tryz.prog W 0 (fun _ => true) true n 46 ((([v0, v1, v2, v3, v4, v5, v6, v7] : List Value).drop 7).take (Tryz.prog.cellsOf 46)) = ([y0, y1, y2, y3, y4, y5, y6] : List (DataW H × List MemPlace))[6]? := hf 6 _ rfl
 rw [show Tryz.prog.cellsOf 46 = 1 by kernel_rfl] at f6
 rw [hx] at hb ⊢
 have b0 : Rows.uptoBulk y0.1 ≤ 1048576 := small_of hb (by simp)
 have b1 : Rows.uptoBulk y1.1 ≤ 1048576 := small_of hb (by simp)
 have b2 : Rows.uptoBulk y2.1 ≤ 1048576 := small_of hb (by simp)
 have b3 : Rows.uptoBulk y3.1 ≤ 1048576 := small_of hb (by simp)
 have b4 : Rows.uptoBulk y4.1 ≤ 1048576 := small_of hb (by simp)
 have b5 : Rows.uptoBulk y5.1 ≤ 1048576 := small_of hb (by simp)
 have b6 : Rows.uptoBulk y6.1 ≤ 1048576 := small_of hb (by simp)
 have g0 : DataW.trod enc Tryz.prog W 0 (fun _ => true) true n 3 [v0] = some y0 := f0
 have g1 : DataW.trod enc Tryz.prog W 0 (fun _ => true) true n 3 [v1] = some y1 := f1
 have g2 : DataW.trod enc Tryz.prog W 0 (fun _ => true) true n 24 [v2, v3] = some y2 := f2
 have g3 : DataW.trod enc Tryz.prog W 0 (fun _ => true) true n 2 [v4] = some y3 := f3
 have g4 : DataW.trod enc Tryz.prog W 0 (fun _ => true) true n 9 [v5] = some y4 := f4
 have g5 : DataW.trod enc Tryz.prog W 0 (fun _ => true) true n 9 [v6] = some y5 := f5
 have g6 : DataW.trod enc Tryz.prog W 0 (fun _ => true) true n 46 [v7] = some y6 := f6
 obtain ⟨n0, e0, w0⟩ := open_num g0
 obtain ⟨n1, e1, w1⟩ := open_num g1
 obtain ⟨p2, e2, _, a2, z2⟩ := open_place g2 b2
 obtain ⟨n3, e3, w3⟩ := open_num2 g3
 obtain ⟨s4, e4, z4⟩ := open_str g4
 obtain ⟨s5, e5, z5⟩ := open_str g5
 obtain ⟨ad6, c6, l6, e6, k6, m6, a6, z6⟩ := open_places g6 b6
 simp only [List.map_cons, List.map_nil, Rows.uptoBulk, Rows.uptoBulkAll]
 cases e0
 cases e1
 cases e2
 cases e3
 cases e4
 cases e5
 cases e6
 refine ⟨⟨n0, n1, p2, n3, s4, s5, ad6, c6, l6⟩, rfl, rfl, ⟨⟨a2.1, m6, fun p hp => (a6 p hp).1⟩, ⟨a2.2, fun p hp => (a6 p hp).2⟩, w1, w3⟩, ?_⟩
 simp only [StmtX.d, StmtD.sz, szL_map]
 omega
theorem open_stmts {cs : List Value} (h : DataW.trod enc Tryz.prog W 0 (fun _ => true) true fuel 62 cs = some x) (hb : Rows.uptoBulk x.1 ≤ 1048576) :
 ∃ (ad : Option Addr) (c : Nat) (xs : List StmtX), cs = [.slice ad xs.length c] ∧ xs.length ≤ c ∧ Sl W 8 ad (xs.map StmtX.row) ∧ (∀ a ∈ xs, a.Ok W) ∧ szL (fun a => a.d.sz) xs + 1 ≤ Rows.uptoBulk x.1 := by
 obtain ⟨ad, c, xs, h1, h2, _, h3, h4, h5⟩ := open_rows StmtX.row (fun a => a.Ok W) (fun a => a.d.sz) Tryz.underlying62 (by kernel_rfl : Tryz.prog.cellsOf 68 = 8) (by decide) h (fun ad len cap hc => by
  rcases DataW.trod_slice Tryz.underlying62 h with ⟨hcs, _⟩ | ⟨a, l, c, elems, rest, n, _, hcs, hx, _, _, _, hl, _⟩
  · rw [hcs] at hc; cases hc; exact Nat.zero_le _
  · rw [hcs] at hc; cases hc
    have e1 := bulk_len (elems.map (·.1))
    rw [List.length_map] at e1
    rw [hx] at hb
    simp only [Rows.uptoBulk] at hb
    omega) (fun n cs' y hy hle => by obtain ⟨a, h1, h2, h3, h4⟩ := open_stmt hy (Nat.le_trans hle hb); exact ⟨a, h1, h2, h3, h4⟩)
 exact ⟨ad, c, xs, h1, h2, h3, h4, h5⟩
theorem open_term {cs : List Value} (h : DataW.trod enc Tryz.prog W 0 (fun _ => true) true fuel 61 cs = some x) (hb : Rows.uptoBulk x.1 ≤ 1048576) :
 ∃ a : TermX, cs = a.row ∧ a.row.length = 8 ∧ a.Ok W ∧ a.d.sz ≤ Rows.uptoBulk x.1 := by
 obtain ⟨xs, n, _, hx, hl, hlen, hf⟩ := DataW.trod_struct Tryz.underlying61 h
 rw [show Tryz.prog.cellsOf 61 = 8 by kernel_rfl] at hl
 have hlen : xs.length = 7 := hlen
 obtain ⟨y0, xs_0, rfl, hlen_0⟩ := lit_len 6 _ hlen
 obtain ⟨y1, xs_1, rfl, hlen_1⟩ := lit_len 5 _ hlen_0
 obtain ⟨y2, xs_2, rfl, hlen_2⟩ := lit_len 4 _ hlen_1
 obtain ⟨y3, xs_3, rfl, hlen_3⟩ := lit_len 3 _ hlen_2
 obtain ⟨y4, xs_4, rfl, hlen_4⟩ := lit_len 2 _ hlen_3
 obtain ⟨y5, xs_5, rfl, hlen_5⟩ := lit_len 1 _ hlen_4
 obtain ⟨y6, xs_6, rfl, hlen_6⟩ := lit_len 0 _ hlen_5
 obtain rfl := lit_nil hlen_6
 obtain ⟨v0, cs_0, rfl, hl_0⟩ := lit_len 7 _ hl
 obtain ⟨v1, cs_1, rfl, hl_1⟩ := lit_len 6 _ hl_0
 obtain ⟨v2, cs_2, rfl, hl_2⟩ := lit_len 5 _ hl_1
 obtain ⟨v3, cs_3, rfl, hl_3⟩ := lit_len 4 _ hl_2
 obtain ⟨v4, cs_4, rfl, hl_4⟩ := lit_len 3 _ hl_3
 obtain ⟨v5, cs_5, rfl, hl_5⟩ := lit_len 2 _ hl_4
 obtain ⟨v6, cs_6, rfl, hl_6⟩ := lit_len 1 _ hl_5
 obtain ⟨v7, cs_7, rfl, hl_7⟩ := lit_len 0 _ hl_6
 obtain rfl := lit_nil hl_7
 have f0 : DataW.trod enc Tryz.prog W 0 (fun _ => true) true n 3 ((([v0, v1, v2, v3, v4, v5, v6, v7] : List Value).drop 0).take (Tryz.prog.cellsOf 3)) = ([y0, y1, y2, y3, y4, y5, y6] : List (DataW H × List MemPlace))[0]? := hf 0 _ rfl
 rw [show Tryz.prog.cellsOf 3 = 1 by kernel_rfl] at f0
 have f1 : DataW.trod enc Tryz.prog W 0 (fun _ => true) true n 3 ((([v0, v1, v2, v3, v4, v5, v6, v7] : List Value).drop 1).take (Tryz.prog.cellsOf 3)) = ([y0, y1, y2, y3, y4, y5, y6] : List (DataW H × List MemPlace))[1]? := hf 1 _ rfl
 rw [show Tryz.prog.cellsOf 3 = 1 by kernel_rfl] at f1
 have f2 : DataW.trod enc Tryz.prog W 0 (fun _ => true) true n 24 ((([v0, v1, v2, v3, v4, v5, v6, v7] : List Value).drop 2).take (Tryz.prog.cellsOf 24)) = ([y0, y1, y2, y3, y4, y5, y6] : List (DataW H × List MemPlace))[2]? := hf 2 _ rfl
 rw [show Tryz.prog.cellsOf 24 = 2 by kernel_rfl] at f2
 have f3 : DataW.trod enc Tryz.prog W 0 (fun _ => true) true n 9 ((([v0, v1, v2, v3, v4, v5, v6, v7] : List Value).drop 4).take (Tryz.prog.cellsOf 9)) = ([y0, y1, y2, y3, y4, y5, y6] : List (DataW H × List MemPlace))[3]? := hf 3 _ rfl
 rw [show Tryz.prog.cellsOf 9 = 1 by kernel_rfl] at f3
 have f4 : DataW.trod enc Tryz.prog W 0 (fun _ => true) true n 46 ((([v0, v1, v2, v3, v4, v5, v6, v7] : List Value).drop 5).take (Tryz.prog.cellsOf 46)) = ([y0, y1, y2, y3, y4, y5, y6] : List (DataW H × List MemPlace))[4]? := hf 4 _ rfl
 rw [show Tryz.prog.cellsOf 46 = 1 by kernel_rfl] at f4
 have f5 : DataW.trod enc Tryz.prog W 0 (fun _ => true) true n 22 ((([v0, v1, v2, v3, v4, v5, v6, v7] : List Value).drop 6).take (Tryz.prog.cellsOf 22)) = ([y0, y1, y2, y3, y4, y5, y6] : List (DataW H × List MemPlace))[5]? := hf 5 _ rfl
 rw [show Tryz.prog.cellsOf 22 = 1 by kernel_rfl] at f5
 have f6 : DataW.trod enc Tryz.prog W 0 (fun _ => true) true n 59 ((([v0, v1, v2, v3, v4, v5, v6, v7] : List Value).drop 7).take (Tryz.prog.cellsOf 59)) = ([y0, y1, y2, y3, y4, y5, y6] : List (DataW H × List MemPlace))[6]? := hf 6 _ rfl
 rw [show Tryz.prog.cellsOf 59 = 1 by kernel_rfl] at f6
 rw [hx] at hb ⊢
 have b0 : Rows.uptoBulk y0.1 ≤ 1048576 := small_of hb (by simp)
 have b1 : Rows.uptoBulk y1.1 ≤ 1048576 := small_of hb (by simp)
 have b2 : Rows.uptoBulk y2.1 ≤ 1048576 := small_of hb (by simp)
 have b3 : Rows.uptoBulk y3.1 ≤ 1048576 := small_of hb (by simp)
 have b4 : Rows.uptoBulk y4.1 ≤ 1048576 := small_of hb (by simp)
 have b5 : Rows.uptoBulk y5.1 ≤ 1048576 := small_of hb (by simp)
 have b6 : Rows.uptoBulk y6.1 ≤ 1048576 := small_of hb (by simp)
 have g0 : DataW.trod enc Tryz.prog W 0 (fun _ => true) true n 3 [v0] = some y0 := f0
 have g1 : DataW.trod enc Tryz.prog W 0 (fun _ => true) true n 3 [v1] = some y1 := f1
 have g2 : DataW.trod enc Tryz.prog W 0 (fun _ => true) true n 24 [v2, v3] = some y2 := f2
 have g3 : DataW.trod enc Tryz.prog W 0 (fun _ => true) true n 9 [v4] = some y3 := f3
 have g4 : DataW.trod enc Tryz.prog W 0 (fun _ => true) true n 46 [v5] = some y4 := f4
 have g5 : DataW.trod enc Tryz.prog W 0 (fun _ => true) true n 22 [v6] = some y5 := f5
 have g6 : DataW.trod enc Tryz.prog W 0 (fun _ => true) true n 59 [v7] = some y6 := f6
 obtain ⟨n0, e0, w0⟩ := open_num g0
 obtain ⟨n1, e1, w1⟩ := open_num g1
 obtain ⟨p2, e2, _, a2, z2⟩ := open_place g2 b2
 obtain ⟨s3, e3, z3⟩ := open_str g3
 obtain ⟨ad4, c4, l4, e4, k4, m4, a4, z4⟩ := open_places g4 b4
 obtain ⟨ad5, c5, l5, e5, k5, m5, a5, z5⟩ := open_strs g5 b5
 obtain ⟨ad6, c6, l6, e6, k6, m6, a6, z6⟩ := open_arms g6 b6
 simp only [List.map_cons, List.map_nil, Rows.uptoBulk, Rows.uptoBulkAll]
 cases e0
 cases e1
 cases e2
 cases e3
 cases e4
 cases e5
 cases e6
 refine ⟨⟨n0, n1, p2, s3, ad4, c4, l4, ad5, c5, l5, ad6, c6, l6⟩, rfl, rfl, ⟨⟨a2.1, ⟨m4, fun p hp => (a4 p hp).1⟩, m5, m6⟩, ⟨a2.2, fun p hp => (a4 p hp).2⟩, w1⟩, ?_⟩
 simp only [TermX.d, TermD.sz, szL_map]
 omega
theorem open_block {cs : List Value} (h : DataW.trod enc Tryz.prog W 0 (fun _ => true) true fuel 64 cs = some x) (hb : Rows.uptoBulk x.1 ≤ 1048576) :
 ∃ a : BlockX, cs = a.row ∧ a.row.length = 11 ∧ a.Ok W ∧ a.d.sz ≤ Rows.uptoBulk x.1 := by
 obtain ⟨xs, n, _, hx, hl, hlen, hf⟩ := DataW.trod_struct Tryz.underlying64 h
 rw [show Tryz.prog.cellsOf 64 = 11 by kernel_rfl] at hl
 have hlen : xs.length = 4 := hlen
 obtain ⟨y0, xs_0, rfl, hlen_0⟩ := lit_len 3 _ hlen
 obtain ⟨y1, xs_1, rfl, hlen_1⟩ := lit_len 2 _ hlen_0
 obtain ⟨y2, xs_2, rfl, hlen_2⟩ := lit_len 1 _ hlen_1
 obtain ⟨y3, xs_3, rfl, hlen_3⟩ := lit_len 0 _ hlen_2
 obtain rfl := lit_nil hlen_3
 obtain ⟨v0, cs_0, rfl, hl_0⟩ := lit_len 10 _ hl
 obtain ⟨v1, cs_1, rfl, hl_1⟩ := lit_len 9 _ hl_0
 obtain ⟨v2, cs_2, rfl, hl_2⟩ := lit_len 8 _ hl_1
 obtain ⟨v3, cs_3, rfl, hl_3⟩ := lit_len 7 _ hl_2
 obtain ⟨v4, cs_4, rfl, hl_4⟩ := lit_len 6 _ hl_3
 obtain ⟨v5, cs_5, rfl, hl_5⟩ := lit_len 5 _ hl_4
 obtain ⟨v6, cs_6, rfl, hl_6⟩ := lit_len 4 _ hl_5
 obtain ⟨v7, cs_7, rfl, hl_7⟩ := lit_len 3 _ hl_6
 obtain ⟨v8, cs_8, rfl, hl_8⟩ := lit_len 2 _ hl_7
 obtain ⟨v9, cs_9, rfl, hl_9⟩ := lit_len 1 _ hl_8
 obtain ⟨v10, cs_10, rfl, hl_10⟩ := lit_len 0 _ hl_9
 obtain rfl := lit_nil hl_10
 have f0 : DataW.trod enc Tryz.prog W 0 (fun _ => true) true n 3 ((([v0, v1, v2, v3, v4, v5, v6, v7, v8, v9, v10] : List Value).drop 0).take (Tryz.prog.cellsOf 3)) = ([y0, y1, y2, y3] : List (DataW H × List MemPlace))[0]? := hf 0 _ rfl
 rw [show Tryz.prog.cellsOf 3 = 1 by kernel_rfl] at f0
 have f1 : DataW.trod enc Tryz.prog W 0 (fun _ => true) true n 9 ((([v0, v1, v2, v3, v4, v5, v6, v7, v8, v9, v10] : List Value).drop 1).take (Tryz.prog.cellsOf 9)) = ([y0, y1, y2, y3] : List (DataW H × List MemPlace))[1]? := hf 1 _ rfl
 rw [show Tryz.prog.cellsOf 9 = 1 by kernel_rfl] at f1
 have f2 : DataW.trod enc Tryz.prog W 0 (fun _ => true) true n 62 ((([v0, v1, v2, v3, v4, v5, v6, v7, v8, v9, v10] : List Value).drop 2).take (Tryz.prog.cellsOf 62)) = ([y0, y1, y2, y3] : List (DataW H × List MemPlace))[2]? := hf 2 _ rfl
 rw [show Tryz.prog.cellsOf 62 = 1 by kernel_rfl] at f2
 have f3 : DataW.trod enc Tryz.prog W 0 (fun _ => true) true n 61 ((([v0, v1, v2, v3, v4, v5, v6, v7, v8, v9, v10] : List Value).drop 3).take (Tryz.prog.cellsOf 61)) = ([y0, y1, y2, y3] : List (DataW H × List MemPlace))[3]? := hf 3 _ rfl
 rw [show Tryz.prog.cellsOf 61 = 8 by kernel_rfl] at f3
 rw [hx] at hb ⊢
 have b0 : Rows.uptoBulk y0.1 ≤ 1048576 := small_of hb (by simp)
 have b1 : Rows.uptoBulk y1.1 ≤ 1048576 := small_of hb (by simp)
 have b2 : Rows.uptoBulk y2.1 ≤ 1048576 := small_of hb (by simp)
 have b3 : Rows.uptoBulk y3.1 ≤ 1048576 := small_of hb (by simp)
 have g0 : DataW.trod enc Tryz.prog W 0 (fun _ => true) true n 3 [v0] = some y0 := f0
 have g1 : DataW.trod enc Tryz.prog W 0 (fun _ => true) true n 9 [v1] = some y1 := f1
 have g2 : DataW.trod enc Tryz.prog W 0 (fun _ => true) true n 62 [v2] = some y2 := f2
 have g3 : DataW.trod enc Tryz.prog W 0 (fun _ => true) true n 61 [v3, v4, v5, v6, v7, v8, v9, v10] = some y3 := f3
 obtain ⟨n0, e0, w0⟩ := open_num g0
 obtain ⟨s1, e1, z1⟩ := open_str g1
 obtain ⟨ad2, c2, l2, e2, k2, m2, a2, z2⟩ := open_stmts g2 b2
 obtain ⟨p3, e3, _, a3, z3⟩ := open_term g3 b3
 simp only [List.map_cons, List.map_nil, Rows.uptoBulk, Rows.uptoBulkAll]
 cases e0
 cases e1
 cases e2
 cases e3
 refine ⟨⟨n0, s1, ad2, c2, l2, p3⟩, rfl, rfl, ⟨⟨⟨m2, fun p hp => (a2 p hp).1⟩, a3.1⟩, a2, a3⟩, ?_⟩
 simp only [BlockX.d, BlockD.sz, szL_map]
 omega
theorem open_blocks {cs : List Value} (h : DataW.trod enc Tryz.prog W 0 (fun _ => true) true fuel 43 cs = some x) (hb : Rows.uptoBulk x.1 ≤ 1048576) :
 ∃ (ad : Option Addr) (c : Nat) (xs : List BlockX), cs = [.slice ad xs.length c] ∧ xs.length ≤ c ∧ Sl W 11 ad (xs.map BlockX.row) ∧ (∀ a ∈ xs, a.Ok W) ∧ szL (fun a => a.d.sz) xs + 1 ≤ Rows.uptoBulk x.1 := by
 obtain ⟨ad, c, xs, h1, h2, _, h3, h4, h5⟩ := open_rows BlockX.row (fun a => a.Ok W) (fun a => a.d.sz) Tryz.underlying43 (by kernel_rfl : Tryz.prog.cellsOf 64 = 11) (by decide) h (fun ad len cap hc => by
  rcases DataW.trod_slice Tryz.underlying43 h with ⟨hcs, _⟩ | ⟨a, l, c, elems, rest, n, _, hcs, hx, _, _, _, hl, _⟩
  · rw [hcs] at hc; cases hc; exact Nat.zero_le _
  · rw [hcs] at hc; cases hc
    have e1 := bulk_len (elems.map (·.1))
    rw [List.length_map] at e1
    rw [hx] at hb
    simp only [Rows.uptoBulk] at hb
    omega) (fun n cs' y hy hle => by obtain ⟨a, h1, h2, h3, h4⟩ := open_block hy (Nat.le_trans hle hb); exact ⟨a, h1, h2, h3, h4⟩)
 exact ⟨ad, c, xs, h1, h2, h3, h4, h5⟩
theorem open_func {cs : List Value} (h : DataW.trod enc Tryz.prog W 0 (fun _ => true) true fuel 45 cs = some x) (hb : Rows.uptoBulk x.1 ≤ 1048576) :
 ∃ a : FuncX, cs = a.row ∧ a.row.length = 6 ∧ a.Ok W ∧ a.d.sz ≤ Rows.uptoBulk x.1 := by
 obtain ⟨xs, n, _, hx, hl, hlen, hf⟩ := DataW.trod_struct Tryz.underlying45 h
 rw [show Tryz.prog.cellsOf 45 = 6 by kernel_rfl] at hl
 have hlen : xs.length = 6 := hlen
 obtain ⟨y0, xs_0, rfl, hlen_0⟩ := lit_len 5 _ hlen
 obtain ⟨y1, xs_1, rfl, hlen_1⟩ := lit_len 4 _ hlen_0
 obtain ⟨y2, xs_2, rfl, hlen_2⟩ := lit_len 3 _ hlen_1
 obtain ⟨y3, xs_3, rfl, hlen_3⟩ := lit_len 2 _ hlen_2
 obtain ⟨y4, xs_4, rfl, hlen_4⟩ := lit_len 1 _ hlen_3
 obtain ⟨y5, xs_5, rfl, hlen_5⟩ := lit_len 0 _ hlen_4
 obtain rfl := lit_nil hlen_5
 obtain ⟨v0, cs_0, rfl, hl_0⟩ := lit_len 5 _ hl
 obtain ⟨v1, cs_1, rfl, hl_1⟩ := lit_len 4 _ hl_0
 obtain ⟨v2, cs_2, rfl, hl_2⟩ := lit_len 3 _ hl_1
 obtain ⟨v3, cs_3, rfl, hl_3⟩ := lit_len 2 _ hl_2
 obtain ⟨v4, cs_4, rfl, hl_4⟩ := lit_len 1 _ hl_3
 obtain ⟨v5, cs_5, rfl, hl_5⟩ := lit_len 0 _ hl_4
 obtain rfl := lit_nil hl_5
 have f0 : DataW.trod enc Tryz.prog W 0 (fun _ => true) true n 3 ((([v0, v1, v2, v3, v4, v5] : List Value).drop 0).take (Tryz.prog.cellsOf 3)) = ([y0, y1, y2, y3, y4, y5] : List (DataW H × List MemPlace))[0]? := hf 0 _ rfl
 rw [show Tryz.prog.cellsOf 3 = 1 by kernel_rfl] at f0
 have f1 : DataW.trod enc Tryz.prog W 0 (fun _ => true) true n 9 ((([v0, v1, v2, v3, v4, v5] : List Value).drop 1).take (Tryz.prog.cellsOf 9)) = ([y0, y1, y2, y3, y4, y5] : List (DataW H × List MemPlace))[1]? := hf 1 _ rfl
 rw [show Tryz.prog.cellsOf 9 = 1 by kernel_rfl] at f1
 have f2 : DataW.trod enc Tryz.prog W 0 (fun _ => true) true n 42 ((([v0, v1, v2, v3, v4, v5] : List Value).drop 2).take (Tryz.prog.cellsOf 42)) = ([y0, y1, y2, y3, y4, y5] : List (DataW H × List MemPlace))[2]? := hf 2 _ rfl
 rw [show Tryz.prog.cellsOf 42 = 1 by kernel_rfl] at f2
 have f3 : DataW.trod enc Tryz.prog W 0 (fun _ => true) true n 42 ((([v0, v1, v2, v3, v4, v5] : List Value).drop 3).take (Tryz.prog.cellsOf 42)) = ([y0, y1, y2, y3, y4, y5] : List (DataW H × List MemPlace))[3]? := hf 3 _ rfl
 rw [show Tryz.prog.cellsOf 42 = 1 by kernel_rfl] at f3
 have f4 : DataW.trod enc Tryz.prog W 0 (fun _ => true) true n 9 ((([v0, v1, v2, v3, v4, v5] : List Value).drop 4).take (Tryz.prog.cellsOf 9)) = ([y0, y1, y2, y3, y4, y5] : List (DataW H × List MemPlace))[4]? := hf 4 _ rfl
 rw [show Tryz.prog.cellsOf 9 = 1 by kernel_rfl] at f4
 have f5 : DataW.trod enc Tryz.prog W 0 (fun _ => true) true n 43 ((([v0, v1, v2, v3, v4, v5] : List Value).drop 5).take (Tryz.prog.cellsOf 43)) = ([y0, y1, y2, y3, y4, y5] : List (DataW H × List MemPlace))[5]? := hf 5 _ rfl
 rw [show Tryz.prog.cellsOf 43 = 1 by kernel_rfl] at f5
 rw [hx] at hb ⊢
 have b0 : Rows.uptoBulk y0.1 ≤ 1048576 := small_of hb (by simp)
 have b1 : Rows.uptoBulk y1.1 ≤ 1048576 := small_of hb (by simp)
 have b2 : Rows.uptoBulk y2.1 ≤ 1048576 := small_of hb (by simp)
 have b3 : Rows.uptoBulk y3.1 ≤ 1048576 := small_of hb (by simp)
 have b4 : Rows.uptoBulk y4.1 ≤ 1048576 := small_of hb (by simp)
 have b5 : Rows.uptoBulk y5.1 ≤ 1048576 := small_of hb (by simp)
 have g0 : DataW.trod enc Tryz.prog W 0 (fun _ => true) true n 3 [v0] = some y0 := f0
 have g1 : DataW.trod enc Tryz.prog W 0 (fun _ => true) true n 9 [v1] = some y1 := f1
 have g2 : DataW.trod enc Tryz.prog W 0 (fun _ => true) true n 42 [v2] = some y2 := f2
 have g3 : DataW.trod enc Tryz.prog W 0 (fun _ => true) true n 42 [v3] = some y3 := f3
 have g4 : DataW.trod enc Tryz.prog W 0 (fun _ => true) true n 9 [v4] = some y4 := f4
 have g5 : DataW.trod enc Tryz.prog W 0 (fun _ => true) true n 43 [v5] = some y5 := f5
 obtain ⟨n0, e0, w0⟩ := open_num g0
 obtain ⟨s1, e1, z1⟩ := open_str g1
 obtain ⟨ad2, c2, l2, e2, k2, m2, a2, z2⟩ := open_vars g2 b2
 obtain ⟨ad3, c3, l3, e3, k3, m3, a3, z3⟩ := open_vars g3 b3
 obtain ⟨s4, e4, z4⟩ := open_str g4
 obtain ⟨ad5, c5, l5, e5, k5, m5, a5, z5⟩ := open_blocks g5 b5
 simp only [List.map_cons, List.map_nil, Rows.uptoBulk, Rows.uptoBulkAll]
 cases e0
 cases e1
 cases e2
 cases e3
 cases e4
 cases e5
 refine ⟨⟨n0, s1, ad2, c2, l2, ad3, c3, l3, s4, ad5, c5, l5⟩, rfl, rfl, ⟨⟨m2, m3, m5, fun p hp => (a5 p hp).1⟩, a5, k2, k3⟩, ?_⟩
 simp only [FuncX.d, FuncD.sz, szL_map]
 omega
theorem open_funcs {cs : List Value} (h : DataW.trod enc Tryz.prog W 0 (fun _ => true) true fuel 34 cs = some x) (hb : Rows.uptoBulk x.1 ≤ 1048576) :
 ∃ (ad : Option Addr) (c : Nat) (xs : List FuncX), cs = [.slice ad xs.length c] ∧ xs.length ≤ c ∧ Sl W 6 ad (xs.map FuncX.row) ∧ (∀ a ∈ xs, a.Ok W) ∧ szL (fun a => a.d.sz) xs + 1 ≤ Rows.uptoBulk x.1 := by
 obtain ⟨ad, c, xs, h1, h2, _, h3, h4, h5⟩ := open_rows FuncX.row (fun a => a.Ok W) (fun a => a.d.sz) Tryz.underlying34 (by kernel_rfl : Tryz.prog.cellsOf 45 = 6) (by decide) h (fun ad len cap hc => by
  rcases DataW.trod_slice Tryz.underlying34 h with ⟨hcs, _⟩ | ⟨a, l, c, elems, rest, n, _, hcs, hx, _, _, _, hl, _⟩
  · rw [hcs] at hc; cases hc; exact Nat.zero_le _
  · rw [hcs] at hc; cases hc
    have e1 := bulk_len (elems.map (·.1))
    rw [List.length_map] at e1
    rw [hx] at hb
    simp only [Rows.uptoBulk] at hb
    omega) (fun n cs' y hy hle => by obtain ⟨a, h1, h2, h3, h4⟩ := open_func hy (Nat.le_trans hle hb); exact ⟨a, h1, h2, h3, h4⟩)
 exact ⟨ad, c, xs, h1, h2, h3, h4, h5⟩
theorem open_struct {cs : List Value} (h : DataW.trod enc Tryz.prog W 0 (fun _ => true) true fuel 58 cs = some x) (hb : Rows.uptoBulk x.1 ≤ 1048576) :
 ∃ a : StructX, cs = a.row ∧ a.row.length = 5 ∧ a.At W ∧ a.d.sz ≤ Rows.uptoBulk x.1 := by
 obtain ⟨xs, n, _, hx, hl, hlen, hf⟩ := DataW.trod_struct Tryz.underlying58 h
 rw [show Tryz.prog.cellsOf 58 = 5 by kernel_rfl] at hl
 have hlen : xs.length = 5 := hlen
 obtain ⟨y0, xs_0, rfl, hlen_0⟩ := lit_len 4 _ hlen
 obtain ⟨y1, xs_1, rfl, hlen_1⟩ := lit_len 3 _ hlen_0
 obtain ⟨y2, xs_2, rfl, hlen_2⟩ := lit_len 2 _ hlen_1
 obtain ⟨y3, xs_3, rfl, hlen_3⟩ := lit_len 1 _ hlen_2
 obtain ⟨y4, xs_4, rfl, hlen_4⟩ := lit_len 0 _ hlen_3
 obtain rfl := lit_nil hlen_4
 obtain ⟨v0, cs_0, rfl, hl_0⟩ := lit_len 4 _ hl
 obtain ⟨v1, cs_1, rfl, hl_1⟩ := lit_len 3 _ hl_0
 obtain ⟨v2, cs_2, rfl, hl_2⟩ := lit_len 2 _ hl_1
 obtain ⟨v3, cs_3, rfl, hl_3⟩ := lit_len 1 _ hl_2
 obtain ⟨v4, cs_4, rfl, hl_4⟩ := lit_len 0 _ hl_3
 obtain rfl := lit_nil hl_4
 have f0 : DataW.trod enc Tryz.prog W 0 (fun _ => true) true n 3 ((([v0, v1, v2, v3, v4] : List Value).drop 0).take (Tryz.prog.cellsOf 3)) = ([y0, y1, y2, y3, y4] : List (DataW H × List MemPlace))[0]? := hf 0 _ rfl
 rw [show Tryz.prog.cellsOf 3 = 1 by kernel_rfl] at f0
 have f1 : DataW.trod enc Tryz.prog W 0 (fun _ => true) true n 9 ((([v0, v1, v2, v3, v4] : List Value).drop 1).take (Tryz.prog.cellsOf 9)) = ([y0, y1, y2, y3, y4] : List (DataW H × List MemPlace))[1]? := hf 1 _ rfl
 rw [show Tryz.prog.cellsOf 9 = 1 by kernel_rfl] at f1
 have f2 : DataW.trod enc Tryz.prog W 0 (fun _ => true) true n 4 ((([v0, v1, v2, v3, v4] : List Value).drop 2).take (Tryz.prog.cellsOf 4)) = ([y0, y1, y2, y3, y4] : List (DataW H × List MemPlace))[2]? := hf 2 _ rfl
 rw [show Tryz.prog.cellsOf 4 = 1 by kernel_rfl] at f2
 have f3 : DataW.trod enc Tryz.prog W 0 (fun _ => true) true n 4 ((([v0, v1, v2, v3, v4] : List Value).drop 3).take (Tryz.prog.cellsOf 4)) = ([y0, y1, y2, y3, y4] : List (DataW H × List MemPlace))[3]? := hf 3 _ rfl
 rw [show Tryz.prog.cellsOf 4 = 1 by kernel_rfl] at f3
 have f4 : DataW.trod enc Tryz.prog W 0 (fun _ => true) true n 42 ((([v0, v1, v2, v3, v4] : List Value).drop 4).take (Tryz.prog.cellsOf 42)) = ([y0, y1, y2, y3, y4] : List (DataW H × List MemPlace))[4]? := hf 4 _ rfl
 rw [show Tryz.prog.cellsOf 42 = 1 by kernel_rfl] at f4
 rw [hx] at hb ⊢
 have b0 : Rows.uptoBulk y0.1 ≤ 1048576 := small_of hb (by simp)
 have b1 : Rows.uptoBulk y1.1 ≤ 1048576 := small_of hb (by simp)
 have b2 : Rows.uptoBulk y2.1 ≤ 1048576 := small_of hb (by simp)
 have b3 : Rows.uptoBulk y3.1 ≤ 1048576 := small_of hb (by simp)
 have b4 : Rows.uptoBulk y4.1 ≤ 1048576 := small_of hb (by simp)
 have g0 : DataW.trod enc Tryz.prog W 0 (fun _ => true) true n 3 [v0] = some y0 := f0
 have g1 : DataW.trod enc Tryz.prog W 0 (fun _ => true) true n 9 [v1] = some y1 := f1
 have g2 : DataW.trod enc Tryz.prog W 0 (fun _ => true) true n 4 [v2] = some y2 := f2
 have g3 : DataW.trod enc Tryz.prog W 0 (fun _ => true) true n 4 [v3] = some y3 := f3
 have g4 : DataW.trod enc Tryz.prog W 0 (fun _ => true) true n 42 [v4] = some y4 := f4
 obtain ⟨n0, e0, w0⟩ := open_num g0
 obtain ⟨s1, e1, z1⟩ := open_str g1
 obtain ⟨t2, e2⟩ := open_flag g2
 obtain ⟨t3, e3⟩ := open_flag g3
 obtain ⟨ad4, c4, l4, e4, k4, m4, a4, z4⟩ := open_vars g4 b4
 simp only [List.map_cons, List.map_nil, Rows.uptoBulk, Rows.uptoBulkAll]
 cases e0
 cases e1
 cases e2
 cases e3
 cases e4
 refine ⟨⟨n0, s1, t2, t3, ad4, c4, l4⟩, rfl, rfl, m4, ?_⟩
 simp only [StructX.d, StructD.sz]
 omega
theorem open_structs {cs : List Value} (h : DataW.trod enc Tryz.prog W 0 (fun _ => true) true fuel 32 cs = some x) (hb : Rows.uptoBulk x.1 ≤ 1048576) :
 ∃ (ad : Option Addr) (c : Nat) (xs : List StructX), cs = [.slice ad xs.length c] ∧ xs.length ≤ c ∧ Sl W 5 ad (xs.map StructX.row) ∧ (∀ a ∈ xs, a.At W) ∧ szL (fun a => a.d.sz) xs + 1 ≤ Rows.uptoBulk x.1 := by
 obtain ⟨ad, c, xs, h1, h2, _, h3, h4, h5⟩ := open_rows StructX.row (fun a => a.At W) (fun a => a.d.sz) Tryz.underlying32 (by kernel_rfl : Tryz.prog.cellsOf 58 = 5) (by decide) h (fun ad len cap hc => by
  rcases DataW.trod_slice Tryz.underlying32 h with ⟨hcs, _⟩ | ⟨a, l, c, elems, rest, n, _, hcs, hx, _, _, _, hl, _⟩
  · rw [hcs] at hc; cases hc; exact Nat.zero_le _
  · rw [hcs] at hc; cases hc
    have e1 := bulk_len (elems.map (·.1))
    rw [List.length_map] at e1
    rw [hx] at hb
    simp only [Rows.uptoBulk] at hb
    omega) (fun n cs' y hy hle => by obtain ⟨a, h1, h2, h3, h4⟩ := open_struct hy (Nat.le_trans hle hb); exact ⟨a, h1, h2, h3, h4⟩)
 exact ⟨ad, c, xs, h1, h2, h3, h4, h5⟩
theorem open_enum {cs : List Value} (h : DataW.trod enc Tryz.prog W 0 (fun _ => true) true fuel 70 cs = some x) (hb : Rows.uptoBulk x.1 ≤ 1048576) :
 ∃ a : EnumX, cs = a.row ∧ a.row.length = 3 ∧ a.At W ∧ a.d.sz ≤ Rows.uptoBulk x.1 := by
 obtain ⟨xs, n, _, hx, hl, hlen, hf⟩ := DataW.trod_struct Tryz.underlying70 h
 rw [show Tryz.prog.cellsOf 70 = 3 by kernel_rfl] at hl
 have hlen : xs.length = 3 := hlen
 obtain ⟨y0, xs_0, rfl, hlen_0⟩ := lit_len 2 _ hlen
 obtain ⟨y1, xs_1, rfl, hlen_1⟩ := lit_len 1 _ hlen_0
 obtain ⟨y2, xs_2, rfl, hlen_2⟩ := lit_len 0 _ hlen_1
 obtain rfl := lit_nil hlen_2
 obtain ⟨v0, cs_0, rfl, hl_0⟩ := lit_len 2 _ hl
 obtain ⟨v1, cs_1, rfl, hl_1⟩ := lit_len 1 _ hl_0
 obtain ⟨v2, cs_2, rfl, hl_2⟩ := lit_len 0 _ hl_1
 obtain rfl := lit_nil hl_2
 have f0 : DataW.trod enc Tryz.prog W 0 (fun _ => true) true n 3 ((([v0, v1, v2] : List Value).drop 0).take (Tryz.prog.cellsOf 3)) = ([y0, y1, y2] : List (DataW H × List MemPlace))[0]? := hf 0 _ rfl
 rw [show Tryz.prog.cellsOf 3 = 1 by kernel_rfl] at f0
 have f1 : DataW.trod enc Tryz.prog W 0 (fun _ => true) true n 9 ((([v0, v1, v2] : List Value).drop 1).take (Tryz.prog.cellsOf 9)) = ([y0, y1, y2] : List (DataW H × List MemPlace))[1]? := hf 1 _ rfl
 rw [show Tryz.prog.cellsOf 9 = 1 by kernel_rfl] at f1
 have f2 : DataW.trod enc Tryz.prog W 0 (fun _ => true) true n 42 ((([v0, v1, v2] : List Value).drop 2).take (Tryz.prog.cellsOf 42)) = ([y0, y1, y2] : List (DataW H × List MemPlace))[2]? := hf 2 _ rfl
 rw [show Tryz.prog.cellsOf 42 = 1 by kernel_rfl] at f2
 rw [hx] at hb ⊢
 have b0 : Rows.uptoBulk y0.1 ≤ 1048576 := small_of hb (by simp)
 have b1 : Rows.uptoBulk y1.1 ≤ 1048576 := small_of hb (by simp)
 have b2 : Rows.uptoBulk y2.1 ≤ 1048576 := small_of hb (by simp)
 have g0 : DataW.trod enc Tryz.prog W 0 (fun _ => true) true n 3 [v0] = some y0 := f0
 have g1 : DataW.trod enc Tryz.prog W 0 (fun _ => true) true n 9 [v1] = some y1 := f1
 have g2 : DataW.trod enc Tryz.prog W 0 (fun _ => true) true n 42 [v2] = some y2 := f2
 obtain ⟨n0, e0, w0⟩ := open_num g0
 obtain ⟨s1, e1, z1⟩ := open_str g1
 obtain ⟨ad2, c2, l2, e2, k2, m2, a2, z2⟩ := open_vars g2 b2
 simp only [List.map_cons, List.map_nil, Rows.uptoBulk, Rows.uptoBulkAll]
 cases e0
 cases e1
 cases e2
 refine ⟨⟨n0, s1, ad2, c2, l2⟩, rfl, rfl, m2, ?_⟩
 simp only [EnumX.d, EnumD.sz]
 omega
theorem open_enums {cs : List Value} (h : DataW.trod enc Tryz.prog W 0 (fun _ => true) true fuel 33 cs = some x) (hb : Rows.uptoBulk x.1 ≤ 1048576) :
 ∃ (ad : Option Addr) (c : Nat) (xs : List EnumX), cs = [.slice ad xs.length c] ∧ xs.length ≤ c ∧ Sl W 3 ad (xs.map EnumX.row) ∧ (∀ a ∈ xs, a.At W) ∧ szL (fun a => a.d.sz) xs + 1 ≤ Rows.uptoBulk x.1 := by
 obtain ⟨ad, c, xs, h1, h2, _, h3, h4, h5⟩ := open_rows EnumX.row (fun a => a.At W) (fun a => a.d.sz) Tryz.underlying33 (by kernel_rfl : Tryz.prog.cellsOf 70 = 3) (by decide) h (fun ad len cap hc => by
  rcases DataW.trod_slice Tryz.underlying33 h with ⟨hcs, _⟩ | ⟨a, l, c, elems, rest, n, _, hcs, hx, _, _, _, hl, _⟩
  · rw [hcs] at hc; cases hc; exact Nat.zero_le _
  · rw [hcs] at hc; cases hc
    have e1 := bulk_len (elems.map (·.1))
    rw [List.length_map] at e1
    rw [hx] at hb
    simp only [Rows.uptoBulk] at hb
    omega) (fun n cs' y hy hle => by obtain ⟨a, h1, h2, h3, h4⟩ := open_enum hy (Nat.le_trans hle hb); exact ⟨a, h1, h2, h3, h4⟩)
 exact ⟨ad, c, xs, h1, h2, h3, h4, h5⟩
theorem open_prog {cs : List Value} (h : DataW.trod enc Tryz.prog W 0 (fun _ => true) true fuel 36 cs = some x) (hb : Rows.uptoBulk x.1 ≤ 1048576) :
 ∃ a : ProgX, cs = a.row ∧ a.row.length = 3 ∧ a.Ok W ∧ a.d.sz ≤ Rows.uptoBulk x.1 := by
 obtain ⟨xs, n, _, hx, hl, hlen, hf⟩ := DataW.trod_struct Tryz.underlying36 h
 rw [show Tryz.prog.cellsOf 36 = 3 by kernel_rfl] at hl
 have hlen : xs.length = 3 := hlen
 obtain ⟨y0, xs_0, rfl, hlen_0⟩ := lit_len 2 _ hlen
 obtain ⟨y1, xs_1, rfl, hlen_1⟩ := lit_len 1 _ hlen_0
 obtain ⟨y2, xs_2, rfl, hlen_2⟩ := lit_len 0 _ hlen_1
 obtain rfl := lit_nil hlen_2
 obtain ⟨v0, cs_0, rfl, hl_0⟩ := lit_len 2 _ hl
 obtain ⟨v1, cs_1, rfl, hl_1⟩ := lit_len 1 _ hl_0
 obtain ⟨v2, cs_2, rfl, hl_2⟩ := lit_len 0 _ hl_1
 obtain rfl := lit_nil hl_2
 have f0 : DataW.trod enc Tryz.prog W 0 (fun _ => true) true n 32 ((([v0, v1, v2] : List Value).drop 0).take (Tryz.prog.cellsOf 32)) = ([y0, y1, y2] : List (DataW H × List MemPlace))[0]? := hf 0 _ rfl
 rw [show Tryz.prog.cellsOf 32 = 1 by kernel_rfl] at f0
 have f1 : DataW.trod enc Tryz.prog W 0 (fun _ => true) true n 33 ((([v0, v1, v2] : List Value).drop 1).take (Tryz.prog.cellsOf 33)) = ([y0, y1, y2] : List (DataW H × List MemPlace))[1]? := hf 1 _ rfl
 rw [show Tryz.prog.cellsOf 33 = 1 by kernel_rfl] at f1
 have f2 : DataW.trod enc Tryz.prog W 0 (fun _ => true) true n 34 ((([v0, v1, v2] : List Value).drop 2).take (Tryz.prog.cellsOf 34)) = ([y0, y1, y2] : List (DataW H × List MemPlace))[2]? := hf 2 _ rfl
 rw [show Tryz.prog.cellsOf 34 = 1 by kernel_rfl] at f2
 rw [hx] at hb ⊢
 have b0 : Rows.uptoBulk y0.1 ≤ 1048576 := small_of hb (by simp)
 have b1 : Rows.uptoBulk y1.1 ≤ 1048576 := small_of hb (by simp)
 have b2 : Rows.uptoBulk y2.1 ≤ 1048576 := small_of hb (by simp)
 have g0 : DataW.trod enc Tryz.prog W 0 (fun _ => true) true n 32 [v0] = some y0 := f0
 have g1 : DataW.trod enc Tryz.prog W 0 (fun _ => true) true n 33 [v1] = some y1 := f1
 have g2 : DataW.trod enc Tryz.prog W 0 (fun _ => true) true n 34 [v2] = some y2 := f2
 obtain ⟨ad0, c0, l0, e0, k0, m0, a0, z0⟩ := open_structs g0 b0
 obtain ⟨ad1, c1, l1, e1, k1, m1, a1, z1⟩ := open_enums g1 b1
 obtain ⟨ad2, c2, l2, e2, k2, m2, a2, z2⟩ := open_funcs g2 b2
 simp only [List.map_cons, List.map_nil, Rows.uptoBulk, Rows.uptoBulkAll]
 cases e0
 cases e1
 cases e2
 refine ⟨⟨ad0, c0, l0, ad1, c1, l1, ad2, c2, l2⟩, rfl, rfl, ⟨⟨⟨m0, a0⟩, ⟨m1, a1⟩, ⟨m2, fun p hp => (a2 p hp).1⟩⟩, a2, k0, k1, k2⟩, ?_⟩
 simp only [ProgX.d, ProgD.sz, szL_map]
 omega
end
end Go.Proofs.YtlppbgmcoknliaaGreatDoor
