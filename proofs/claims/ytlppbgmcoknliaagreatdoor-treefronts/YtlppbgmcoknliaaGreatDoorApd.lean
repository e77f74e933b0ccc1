/-
  append of whatever slice to a row that the call owns; slices.Grow of nil, slices.Concat of two, Vars.
-/
import Derived.Test.YtlppbgmcoknliaaGreatDoorCln3
import Derived.Laws.AppendOwnNone
import Derived.Lib.AppendZeros
namespace Go.Proofs.YtlppbgmcoknliaaGreatDoor
set_option linter.unusedVariables false
open Go.RowKit

theorem run_append_none {P : Program} {w : World} (base : Nat) (t ty e : TypeId) (i : TypeInfo) (size : Nat) (ht : P.underlying t = some (.slice e)) (hi : P.info? e = some i)
    (v : Value) (n c : Nat) (xs : List Value) (hown : w.ownsRow base e size v n xs) : (Builtin.append_ #[t, t] ty #[v, .slice none 0 c]).run P w = .ok v w := by
  rcases hown.2 with ⟨rfl, rfl⟩ | ⟨g, cap, cur, rfl, hbg, hg, hnc, hcm, hcs, htake⟩
  · simp [Builtin.append_, run_underlying ht, sizeOf, typeInfo, hi, Builtin.lenOf, Builtin.firstCells]
  · simp [Builtin.append_, run_underlying ht, sizeOf, typeInfo, hi, Builtin.lenOf, hnc, Builtin.firstCells, storeCells]

/-- append(v, x...), v the call's own, x any slice whose rows lie in memory. -/
theorem wpList_append_sl {P : Program} {w : World} {ops : Array Oper} {rest : List Oper} {o : Oper} {a : Act} {Q : Exit → Act → World → Prop} (hgd : o.guard = none) (s x : Operand) (t : TypeId)
    (ho : o.op = .call { callee := .builtin .append, args := #[s, x], argTypes := #[t, t] })
    (base : Nat) (e : TypeId) (i : TypeInfo) (z : Value) (size bytes : Nat) (ht : P.underlying t = some (.slice e)) (hi : P.info? e = some i) (hz : i.zero = some z)
    (hsize : i.size = size) (hby : i.bytes = bytes) (hzs : z.cells.size = size) (hsz : 0 < size)
    (v : Value) (n : Nat) (xs : List Value) (hs : a.eval s = v) (hown : w.ownsRow base e size v n xs)
    (ao : Option Addr) (m c : Nat) (rows : List (List Value)) (hm : rows.length = m) (hx : a.eval x = .slice ao m c) (hsl : Sl w size ao rows) (h1 : ∀ u ∈ rows.flatten, u.oneCell' = true)
    (h63 : n + m ≤ maxLen) (hbytes : (n + m) * bytes ≤ 140737488355328) (hbase : base ≤ w.heap.size)
    (h : ∀ v' w', w'.ownsRow base e size v' (n + m) (xs ++ rows.flatten) → w.grownBy w' v.ownBlock → wpList P ops Q rest (a.put o.dst v') w') : wpList P ops Q (o :: rest) a w := by
  cases ao with
  | none =>
    have e0 : rows = [] := by
      rcases hsl.at_ with h0 | ⟨b, off, e, _⟩
      · exact h0
      · cases e
    subst e0
    obtain rfl : 0 = m := hm
    refine wpList_plain hgd fun K hK => ?_
    have hrun := run_append_none (P := P) (w := w) base t o.type e i size ht hi v n c xs hown
    unfold Oper.wp
    simp [execOp, ho, resolve, invoke, builtin, hs, hx, hrun, Result.andThen]
    refine hK _ _ (h v w (by simpa using hown) ⟨rfl, rfl, rfl, Nat.le_refl _, fun _ _ _ => rfl⟩)
  | some p =>
    refine wpList_append_own w hgd s x t ho base e i z size bytes ht hi hz hsize hby hzs hsz v n xs hs hown p m c rows.flatten hx (by rw [flat_len hsl.len, hm]) (fun j u hj => ?_) h1 h63 hbytes hbase fun v' w' h1 h2 _ => h v' w' h1 h2
    rcases hsl.at_ with h0 | ⟨b, off, e, hlt, hc⟩
    · rw [h0] at hj; simp at hj
    · cases e
      obtain ⟨j1, r, i1, hj1, hi1, e1⟩ := flat_of hsl.len hj
      rw [Addr.add_lit, e1, ← Nat.add_assoc]
      exact hc j1 r i1 u hj1 hi1

theorem infoV : ∃ i0, Tryz.prog.info? 52 = some i0 ∧ i0.zero = some (.agg #[.string ⟨#[]⟩, .string ⟨#[]⟩]) ∧ i0.size = 2 ∧ i0.bytes ≤ 1000 := by
  have := cinfo_var
  cases hh : Tryz.prog.info? 52 with
  | none => rw [hh] at this; cases this
  | some i => rw [hh] at this; simp only [Option.map_some, Option.some.injEq, Prod.mk.injEq, decide_eq_true_eq] at this; exact ⟨i, rfl, this.1, this.2.1, this.2.2⟩

set_option maxHeartbeats 1000000 in
set_option maxRecDepth 100000 in
theorem grow_nil (n : Nat) (hn : n ≤ 2097152) (w : World) :
    Calls Tryz.prog 116 #[.slice none 0 0, .int .i64 n] w fun e w' => ∃ a c, e = .returned (.slice a 0 c) ∧ w'.ownsRow w.heap.size 52 2 (.slice a 0 c) 0 [] ∧ Below w.heap.size w w' := by
  obtain ⟨i0, hi, hz0, hz1, hz2⟩ := infoV
  by_cases h0 : n = 0
  · subst h0
    clear hi hz0 hz1 hz2
    go_enter Tryz.func116, Tryz.ntmps116
    go_wp2
    go_ret
    exact ⟨none, 0, rfl, World.ownsRow_nil _ _ _ _, Below.refl _ _⟩
  · have hr : ∀ ty, (Builtin.append_ #[42, 3] ty #[.slice none 0 0, .int .i64 (n : Int)]).run Tryz.prog w = .ok (.slice (some ⟨w.heap.size, 0, none⟩) n (grownCap w n 0 52)) (w.drew.alloc (.cells (Builtin.zeroCells (Value.agg #[.string ⟨#[]⟩, .string ⟨#[]⟩]).cells n ++ Builtin.zeroCells (Value.agg #[.string ⟨#[]⟩, .string ⟨#[]⟩]).cells (grownCap w n 0 52 - n)) 52)) := fun ty =>
      Lib.run_append_nil_zeros w 42 3 ty 52 i0 _ .i64 .i64 Tryz.underlying42 Tryz.underlying3 hi hz0 n (by omega) (by omega) (by omega) (by
        have : n * i0.bytes ≤ 2097152 * 1000 := Nat.mul_le_mul hn hz2
        omega)
    have hG := grownCap_le_maxLen w n 0 52 (by unfold maxLen; omega)
    have hGe := grownCap_ge w n 0 52
    have OWN : Hid ((w.drew.alloc (.cells (Builtin.zeroCells (Value.agg #[.string ⟨#[]⟩, .string ⟨#[]⟩]).cells n ++ Builtin.zeroCells (Value.agg #[.string ⟨#[]⟩, .string ⟨#[]⟩]).cells (grownCap w n 0 52 - n)) 52)).ownsRow w.heap.size 52 2 (.slice (some ⟨w.heap.size, 0, none⟩) 0 (grownCap w n 0 52)) 0 []) := hidIt ⟨rfl, .inr ⟨w.heap.size, _, _, rfl, Nat.le_refl _, heap_alloc_new w.drew _, Nat.zero_le _, hG, by
        simp only [Array.size_append, size_zeroCells, Value.cells]
        show n * 2 + (grownCap w n 0 52 - n) * 2 = grownCap w n 0 52 * 2
        omega, rfl⟩⟩
    have BEL : Hid (Below w.heap.size w (w.drew.alloc (.cells (Builtin.zeroCells (Value.agg #[.string ⟨#[]⟩, .string ⟨#[]⟩]).cells n ++ Builtin.zeroCells (Value.agg #[.string ⟨#[]⟩, .string ⟨#[]⟩]).cells (grownCap w n 0 52 - n)) 52))) := hidIt ((Below.refl _ _).drew.alloc (Nat.le_refl _) _)
    generalize (w.drew.alloc (.cells (Builtin.zeroCells (Value.agg #[.string ⟨#[]⟩, .string ⟨#[]⟩]).cells n ++ Builtin.zeroCells (Value.agg #[.string ⟨#[]⟩, .string ⟨#[]⟩]).cells (grownCap w n 0 52 - n)) 52)) = W at hr OWN BEL
    generalize grownCap w n 0 52 = G at hr OWN hG hGe
    have hG2 : (n : Int) ≤ (G : Int) := by omega
    have hp : ¬ ((n : Int) < 0) := by omega
    have hq : (n : Int) > 0 := by omega
    have hmx : G ≤ 9223372036854775807 := by unfold maxLen at hG; omega
    clear hi hz0 hz1 hz2 hG hGe
    go_enter Tryz.func116, Tryz.ntmps116
    go_wp2_with (at_builtin; refine Lib.wpList_append_run _ rfl _ _ _ _ rfl _ _ rfl rfl _ _ (hr _) ?_)
    all_goals (go_ret; exact ⟨_, _, rfl, OWN.out, BEL.out⟩)
end Go.Proofs.YtlppbgmcoknliaaGreatDoor
