/-
  SlabOnce: what lies in memory: the slab, the list of addresses, the map of those that were seen.
-/
import Derived.Test.YtbjofdijhcdmaaaOnce
import Derived.Deep.AppendLies
namespace Go.Proofs.Ytbjofdijhcdmaaa
set_option linter.unusedVariables false
open Go.RowKit Go.Maps

theorem lawA : Keyed Try.prog 45 := int_keyed Try.underlying45
theorem zeroE4 (w : World) : (zeroValue 4).run Try.prog w = .ok (.bool false) w := by kernel_rfl

structure OnceMem (w : World) (A B c : Nat) (S : Sl) (live : List Int) (lv : Value) (D : DataW Unit) (Ex : Nat → Prop) (W : World) : Prop where
  stage : Stage w Ex A S W
  row : W.ownsRow w.heap.size 45 1 lv live.length (live.map (Value.int .u64))
  ob : OB Ex lv
  exB : Ex B
  geB : w.heap.size ≤ B
  map : W.ownsMap Try.prog 45 (plainElem Try.prog 4) B c D

section
variable {w W : World} {A B c : Nat} {S S' : Sl} {live : List Int} {lv : Value} {D : DataW Unit} {Ex : Nat → Prop}
theorem map45_of_held {W' : World} (h : W.ownsMap Try.prog 45 (plainElem (H := Unit) Try.prog 4) B c D) (hb : W'.heap[B]? = W.heap[B]?) : W'.ownsMap Try.prog 45 (plainElem Try.prog 4) B c D := by
  obtain ⟨es, clock, h1, r⟩ := h
  exact ⟨es, clock, hb.trans h1, r⟩
theorem OnceMem.did {P : Program} {f : FuncId} {args : Array Value} {E : Ending} (h : OnceMem w A B c S live lv D Ex W) (hc : ∀ fp, Rep W A S fp → Calls P f args W fun e w' => e = E ∧ Did W A S' fp w') :
    Calls P f args W fun e w' => e = E ∧ OnceMem w A B c S' live lv D Ex w' := by
  refine (h.stage.did hc).mono ?_
  rintro e w' ⟨rfl, hS, hH⟩
  exact ⟨rfl, hS, hH.own h.row h.ob, h.ob, h.exB, h.geB, map45_of_held h.map (hH.2 B h.exB)⟩
theorem OnceMem.mapped {W' : World} {D' : DataW Unit} (h : OnceMem w A B c S live lv D Ex W) (hm : W'.ownsMap Try.prog 45 (plainElem Try.prog 4) B (c + 1) D') (hg : W.grownBy W' (some B)) :
    OnceMem w A B (c + 1) S live lv D' (fun k => Ex k ∨ (W.heap.size ≤ k ∧ k < W'.heap.size)) W' := by
  have hne : lv.ownBlock ≠ some B := fun hk => by
    obtain ⟨cur, hc⟩ := own_block h.row hk
    obtain ⟨es, cl, hb, _⟩ := h.map
    rw [hc] at hb
    cases hb
  exact ⟨h.stage.other hg fun k hk => by cases hk; exact ⟨h.exB, h.geB⟩, ownsRow_of_block h.row fun k hk => hg.block k (own_lt h.row k hk) (fun e => hne (by rw [hk, e])), fun k hk => .inl (h.ob k hk), .inl h.exB, h.geB, hm⟩
/-- The list turns: another row, new or its own; the map lies as it lay. -/
theorem OnceMem.listed {W' : World} {lv' : Value} {live' : List Int} {row : Option Nat} (h : OnceMem w A B c S live lv D Ex W) (hg : W.grownBy W' row) (hr : ∀ k, row = some k → Ex k ∧ w.heap.size ≤ k ∧ k ≠ B)
    (ho : W'.ownsRow w.heap.size 45 1 lv' live'.length (live'.map (Value.int .u64))) (hf : ∀ k, lv'.ownBlock = some k → Ex k ∨ W.heap.size ≤ k) :
    OnceMem w A B c S live' lv' D (fun k => Ex k ∨ (W.heap.size ≤ k ∧ k < W'.heap.size)) W' :=
  ⟨h.stage.other hg fun k hk => ⟨(hr k hk).1, (hr k hk).2.1⟩, ho, fun k hk => (hf k hk).imp id fun x => ⟨x, own_lt ho k hk⟩, .inl h.exB, h.geB, map45_of_held h.map (hg.block B h.map.lt (fun e => (hr B e.symm).2.2 rfl))⟩
theorem OnceMem.less {Ex' : Nat → Prop} (h : OnceMem w A B c S live lv D Ex W) (he : ∀ k, Ex' k → Ex k) (h1 : OB Ex' lv) (h2 : Ex' B) : OnceMem w A B c S live lv D Ex' W := ⟨h.stage.less he, h.row, h1, h2, h.geB, h.map⟩
theorem OnceMem.ne (h : OnceMem w A B c S live lv D Ex W) : ∀ k, lv.ownBlock = some k → k ≠ B := fun k hk e => by
  subst e
  obtain ⟨cur, hc⟩ := own_block h.row hk
  obtain ⟨es, cl, hb, _⟩ := h.map
  rw [hc] at hb
  cases hb
theorem OnceMem.push {w1 : World} {x : Int} {g cap : Nat} (h : OnceMem w A B c S live lv D Ex W)
    (ho : w1.ownsRow w.heap.size 45 1 (.slice (some ⟨g, 0, none⟩) (live.length + 1) cap) (live.length + 1) (live.map (Value.int .u64) ++ [.int .u64 x])) (hg : (W.alloc (.cells #[.int .u64 x] 45)).grownBy w1 lv.ownBlock) (hf : lv.ownBlock = some g ∨ g = W.heap.size + 1) :
    ∃ Ex', OnceMem w A B c S (live ++ [x]) (.slice (some ⟨g, 0, none⟩) (live.length + 1) cap) D Ex' w1 := by
  have ha : (W.grownBy w1 lv.ownBlock) := (World.grownBy_alloc W (.cells #[.int .u64 x] 45) lv.ownBlock).trans hg
  refine ⟨_, h.listed ha (fun k hk => ⟨h.ob k hk, (h.row.lt k hk).1, h.ne k hk⟩) (by simpa using ho) (fun k hk => ?_)⟩
  simp [Value.ownBlock] at hk
  subst hk
  rcases hf with hf | hf
  · exact .inl (h.ob _ hf)
  · right
    omega
theorem OnceMem.cell {g n cap k : Nat} {x : Int} (h : OnceMem w A B c S live (.slice (some ⟨g, 0, none⟩) n cap) D Ex W) (hk : live[k]? = some x) : W.cell? ⟨g, k, none⟩ = some (.int .u64 x) := by
  have hr := h.row
  obtain ⟨ao, c, hv, _⟩ := own_shape hr
  simp only [Value.slice.injEq] at hv
  obtain ⟨rfl, rfl, rfl⟩ := hv
  have hl : k < live.length := (List.getElem?_eq_some_iff.1 hk).1
  rw [hr.cellAt k (by omega)]
  simp [hk]
end

/-- 'append' onto what is owned, as one step of a region that draws its order. -/
theorem step_append_own {P : Program} {ops : Array Oper} {o : Oper} {a : Act} (w : World) {K : Act → World → Prop} {Q : Exit → Act → World → Prop} {E : Prop} (hgd : o.guard = none) (s x : Operand) (t : TypeId)
    (ho : o.op = .call { callee := .builtin .append, args := #[s, x], argTypes := #[t, t] })
    (base : Nat) (e : TypeId) (i : TypeInfo) (z : Value) (size bytes : Nat) (ht : P.underlying t = some (.slice e)) (hi : P.info? e = some i) (hz : i.zero = some z)
    (hsize : i.size = size) (hby : i.bytes = bytes) (hzs : z.cells.size = size) (hsz : 0 < size)
    (v : Value) (n : Nat) (xs : List Value) (hs : a.eval s = v) (hown : w.ownsRow base e size v n xs)
    (ad : Addr) (m c : Nat) (news : List Value) (hx : a.eval x = .slice (some ad) m c) (hl : news.length = m * size) (hnews : ∀ j u, news[j]? = some u → w.cell? (ad.add j) = some u) (h1 : ∀ u ∈ news, u.oneCell' = true)
    (h63 : n + m ≤ maxLen) (hbytes : (n + m) * bytes ≤ 140737488355328) (hbase : base ≤ w.heap.size)
    (h : ∀ v' w', w'.ownsRow base e size v' (n + m) (xs ++ news) → w.grownBy w' v.ownBlock → K (a.put o.dst v') w') :
    if Region.wanted o (yielded ops a.tmps) = true then Oper.wp P o a w K Q else E := by
  have hw : Region.wanted o (yielded ops a.tmps) = true := by simp [Region.wanted, hgd]
  rw [if_pos hw]
  exact wp_append_own w s x t ho base e i z size bytes ht hi hz hsize hby hzs hsz v n xs hs hown ad m c news hx hl hnews h1 h63 hbytes hbase fun v' w' a b _ => h v' w' a b

section
variable {w W : World} {A B c : Nat} {S : Sl} {L : List Int} {D : DataW Unit} {Ex : Nat → Prop} {g n cap k : Nat}
theorem add_plain0 (g o j : Nat) : (⟨g, o, none⟩ : Addr).add j = ⟨g, o + j, none⟩ := by unfold Addr.add; split <;> simp_all
/-- The cells of a part of the list, where nothing of it has turned. -/
theorem OnceMem.part {W' : World} (h : OnceMem w A B c S L (.slice (some ⟨g, 0, none⟩) n cap) D Ex W) (hb : W'.heap[g]? = W.heap[g]?) (o : Nat) (l : List Int) (hl : ∀ j x, l[j]? = some x → L[o + j]? = some x) :
    ∀ j u, (l.map (Value.int .u64))[j]? = some u → W'.cell? ((⟨g, o, none⟩ : Addr).add j) = some u := by
  intro j u hu
  rw [List.getElem?_map] at hu
  cases hx : l[j]? with
  | none => rw [hx] at hu; cases hu
  | some x =>
    rw [hx] at hu
    simp only [Option.map_some, Option.some.injEq] at hu
    subst hu
    rw [add_plain0]
    exact (World.cell?_of_block (w := W) hb).trans (h.cell (hl j x hx))
theorem ints_one (l : List Int) : ∀ u ∈ l.map (Value.int .u64), u.oneCell' = true := by
  intro u hu
  simp only [List.mem_map] at hu
  obtain ⟨x, _, rfl⟩ := hu
  rfl
/-- The list without one of its addresses, in a row of its own. -/
theorem OnceMem.erased {lv : Value} {w1 w2 : World} {v1 v2 : Value} {n1 n2 : Nat} {xs1 xs2 : List Value} (h : OnceMem w A B c S L lv D Ex W) (hg1 : (W.drew.alloc (.cells #[] 45)).grownBy w1 (some W.heap.size))
    (ho1 : w1.ownsRow W.heap.size 45 1 v1 n1 xs1) (hg2 : w1.grownBy w2 v1.ownBlock) (ho2 : w2.ownsRow W.heap.size 45 1 v2 n2 xs2) (L' : List Int) (hn : n2 = L'.length) (hxs : xs2 = L'.map (Value.int .u64)) :
    ∃ Ex', OnceMem w A B c S L' v2 D Ex' w2 := by
  have e0 : (W.drew.alloc (.cells #[] 45)).heap.size = W.heap.size + 1 := by rw [World.size_alloc]; rfl
  have hs1 : W.heap.size + 1 ≤ w1.heap.size := by
    have := hg1.size
    omega
  have hg : W.grownBy w2 none := ⟨hg2.os.trans hg1.os, hg2.tape.trans hg1.tape, hg2.output.trans hg1.output, by have := hg2.size; omega, fun j hj _ => by
    rw [hg2.block j (by omega) (fun e => by have := (ho1.lt j e.symm).1; omega)]
    rw [hg1.block j (by omega) (fun e => by cases e; omega)]
    exact Below.heap_alloc W.drew _ j hj⟩
  subst hn hxs
  exact ⟨_, h.listed hg (fun k hk => by cases hk) (own_raise ho2 h.stage.below.size) (fun k hk => .inr (ho2.lt k hk).1)⟩
end

/-- Where the loop of SlabOnce stands. -/
def OnceAt (w : World) (A B m : Nat) (lv : Value) (W : World) : Prop := ∃ S live seen c D Ex, OnceMem w A B c S live lv D Ex W ∧ OnceInv (2 * m) S live seen ∧ SeenIn D seen ∧ c ≤ m ∧ live.length ≤ m
end Go.Proofs.Ytbjofdijhcdmaaa
