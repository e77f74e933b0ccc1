/-
  The walks of the Builder's copyCheck, WriteByte, WriteString, and of Join.
-/
import Derived.Test.YtinppjjhjijoeaaLex
import Derived.Lib.AppendStr
namespace Go.Proofs.Ytinppjjhjijoeaa
set_option linter.unusedVariables false
open Go.RowKit

/-- Rows of tokens stand as they stood. -/
def K35 (w w' : World) : Prop := ∀ (k : Nat) (cs : Array Value) (fr : Nat × Nat), w.heap[k]? = some (Obj.cells cs 35 fr) → w'.heap[k]? = some (Obj.cells cs 35 fr)
theorem K35.refl (w : World) : K35 w w := fun _ _ _ h => h
theorem K35.trans {a b c : World} (h : K35 a b) (k : K35 b c) : K35 a c := fun i cs fr hi => k i cs fr (h i cs fr hi)
theorem K35.setCell {w : World} {b : Nat} {cs : Array Value} {t : TypeId} {fr : Nat × Nat} (hb : w.heap[b]? = some (.cells cs t fr)) (ht : t ≠ 35) (i : Nat) (u : Value) : K35 w (w.setCell ⟨b, i, none⟩ u) := by
  intro k cs' fr' h
  rw [Below.heap_setCell _ _ _ _ (fun e => by
    have e : k = b := e
    subst e
    rw [hb] at h
    simp only [Option.some.injEq, Obj.cells.injEq] at h
    exact ht h.2.1)]
  exact h
theorem K35.alloc (w : World) (o : Obj) : K35 w (w.alloc o) := by
  intro k cs fr h
  rw [Below.heap_alloc _ _ _ (Array.getElem?_eq_some_iff.1 h).1]
  exact h
theorem K35.grown {w w' : World} {B : Nat} {v : Value} {n : Nat} {xs : List Value} (ho : w.ownsRow B 5 1 v n xs) (hg : w.grownBy w' v.ownBlock) : K35 w w' := by
  intro k cs fr h
  rw [hg.block k (Array.getElem?_eq_some_iff.1 h).1 (fun e => Lib.ownBlock_ne ho h (by decide) e.symm)]
  exact h

theorem size52 : (Try.prog.info? 52).map (fun i => i.size) = some 2 := by kernel_rfl
theorem info5 : (Try.prog.info? 5).map (fun i => (i.zero, i.size, i.bytes)) = some (some (.int .u8 0), 1, 1) := by kernel_rfl

set_option maxHeartbeats 1000000 in
theorem check_used (b : Nat) (w : World) (h0 : w.cell? ⟨b, 0, none⟩ = some (.pointer (some ⟨b, 0, none⟩))) :
    Calls Try.prog 39 #[.pointer (some ⟨b, 0, none⟩)] w fun e w' => e = .returned (.tuple #[]) ∧ w = w' := by
  obtain ⟨j, hj, _⟩ := Option.map_eq_some_iff.1 size52
  go_enter Try.func39, Try.ntmps39
  go_wp2
  rw [Lib.run_neq_ptr_same w _ Try.underlying49 hj]
  go_wp2
  go_end0
  exact ⟨rfl, rfl⟩

set_option maxHeartbeats 1000000 in
theorem check_fresh (b : Nat) (w : World) (h0 : w.cell? ⟨b, 0, none⟩ = some (.pointer none)) (hsh : w.shape? b = some (52, 2)) (hfz : w.frozen? ⟨b, 0, none⟩ = false) :
    Calls Try.prog 39 #[.pointer (some ⟨b, 0, none⟩)] w fun e w' => e = .returned (.tuple #[]) ∧ w' = w.setCell ⟨b, 0, none⟩ (.pointer (some ⟨b, 0, none⟩)) := by
  obtain ⟨j, hj, hjs⟩ := Option.map_eq_some_iff.1 size52
  go_enter Try.func39, Try.ntmps39
  go_wp2
  rw [Lib.run_to_unsafe w ⟨b, 0, none⟩ Try.underlying49 Try.underlying66 hj (by rw [hjs]; decide) hsh (Nat.zero_lt_succ 1)]
  simp only [Result.andThen]
  rw [Oper.upon_value]
  go_wp2
  rw [run_callFunc_extern Try.func45 (by kernel_rfl) (by kernel_rfl) (by kernel_rfl) (e := Extern.AbiNoEscape.same) (by kernel_rfl)]
  rw [Lib.run_noEscape]
  simp only [Result.andThen]
  rw [Oper.upon_value]
  go_wp2
  rw [Lib.run_from_unsafe w ⟨b, 0, none⟩ Try.underlying66 Try.underlying49 hj hsh (by kernel_rfl)]
  simp only [Result.andThen]
  rw [Oper.upon_value]
  go_wp2
  go_end0
  exact ⟨rfl, rfl⟩

theorem builder_heap {B b : Nat} {bs : List Value} {w : World} (h : Lib.IsBuilder 52 5 B b bs w) : ∃ cs, w.heap[b]? = some (.cells cs 52 (0, 0)) := by
  rcases h with h | h
  · obtain ⟨_, v, hb, _⟩ := h; exact ⟨_, hb⟩
  · obtain ⟨_, v, hb, _⟩ := h; exact ⟨_, hb⟩
theorem check_any (B b : Nat) (bs : List Value) (w : World) (h : Lib.IsBuilder 52 5 B b bs w) :
    Calls Try.prog 39 #[.pointer (some ⟨b, 0, none⟩)] w fun e w' => e = .returned (.tuple #[]) ∧ Lib.BuilderAt 52 5 B b (.pointer (some ⟨b, 0, none⟩)) bs w' ∧ Below B w w' ∧ K35 w w' := by
  obtain ⟨cs, hq⟩ := builder_heap h
  rcases h with h | h
  · refine (check_fresh b w h.cell0 h.shape h.frozen0).mono ?_
    rintro e w' ⟨rfl, rfl⟩
    exact ⟨rfl, h.used _, (Below.refl B w).setCell (p := ⟨b, 0, none⟩) h.1 _, K35.setCell hq (by decide) _ _⟩
  · refine (check_used b w h.cell0).mono ?_
    rintro e w' ⟨rfl, rfl⟩
    exact ⟨rfl, h, Below.refl B _, K35.refl _⟩

/-- Behind a write. -/
structure Wrote (B b : Nat) (bs : List Value) (w w' : World) : Prop where
  bld : Lib.IsBuilder 52 5 B b bs w'
  bel : Below B w w'
  k35 : K35 w w'

set_option maxHeartbeats 1000000 in
theorem writeByte_any (B b : Nat) (bs : List Value) (c : Int) (w : World) (h : Lib.IsBuilder 52 5 B b bs w) (hlen : bs.length ≤ 100000000) (hBw : B ≤ w.heap.size) :
    Calls Try.prog 28 #[.pointer (some ⟨b, 0, none⟩), .int .u8 c] w fun e w' => e = .returned .nilIface ∧ Wrote B b (bs ++ [.int .u8 c]) w w' := by
  have c39 := check_any B b bs w h
  clear h
  go_enter Try.func28, Try.ntmps28
  obtain ⟨i0, hi, hz0, hz1, hz2⟩ := info_parts info5
  go_wp2_with (go_at_call 39; refine c39.mono ?_)
  rintro e w1 ⟨rfl, h1, hb1, hk1⟩
  obtain ⟨hB, v, hbk, hown, hne⟩ := h1
  have c0 : w1.cell? ⟨b, 0, none⟩ = some (.pointer (some ⟨b, 0, none⟩)) := cell_at hbk 0
  have c1 : w1.cell? ⟨b, 1, none⟩ = some v := cell_at hbk 1
  have hs1 := hb1.size
  have hbk := hidIt hbk
  have hown := hidIt hown
  have hne := hidIt hne
  have hb1 := hidIt hb1
  have hk1 := hidIt hk1
  go_wp2_with (at_builtin; go_must (refine wpList_append_own _ rfl _ _ 50 rfl B 5 i0 _ 1 1 Try.underlying50 hi hz0 hz1 hz2 rfl (by decide) _ _ _ rfl (hown.out.alloc _) ⟨w1.heap.size, 0, none⟩ 1 1 [.int .u8 c] rfl rfl (cell_one_new _ _ _) (by simp [Value.oneCell']) (by unfold maxLen; omega) (by omega) (by simp; omega) ?_))
  intro v' w2 hown' hgrow _
  have hlt : b < w1.heap.size := (Array.getElem?_eq_some_iff.1 hbk.out).1
  have hb2 : w2.heap[b]? = some (.cells #[.pointer (some ⟨b, 0, none⟩), v] 52 (0, 0)) := by
    rw [hgrow.block b (by rw [World.size_alloc]; omega) (fun e => hne.out e.symm), Below.heap_alloc _ _ _ hlt]
    exact hbk.out
  have d0 : w2.cell? ⟨b, 0, none⟩ = some (.pointer (some ⟨b, 0, none⟩)) := cell_at hb2 0
  have d1 : w2.cell? ⟨b, 1, none⟩ = some v := cell_at hb2 1
  have f1 : w2.frozen? ⟨b, 1, none⟩ = false := frozen_at hb2 1
  obtain ⟨ao, n', cap, rfl⟩ : ∃ ao n' cap, v' = .slice ao n' cap := by
    rcases hown'.2 with ⟨hv, _⟩ | ⟨g, cap, cur, hv, _⟩
    · exact ⟨_, _, _, hv⟩
    · exact ⟨_, _, _, hv⟩
  have HB := hidIt hb2
  have HO := hidIt hown'
  have HK : Hid (K35 w w2 ∧ Below B w w2) := hidIt ⟨hk1.out.trans ((K35.alloc _ _).trans (K35.grown (hown.out.alloc _) hgrow)), (hb1.out.alloc (by omega) _).grown hgrow (by rw [World.size_alloc]; omega) (fun k hk => (hown.out.lt k hk).1)⟩
  clear hown' hgrow hb2 hk1 hb1 hbk hown hne c0 c1 c39
  go_wp2
  go_ret
  refine ⟨rfl, .inr (Lib.BuilderAt.put (T := 52) (e := 5) hB HB.out (bs' := bs ++ [.int .u8 c]) (by simpa using HO.out) (by decide)), HK.out.2.setCell (p := ⟨b, 1, none⟩) hB _, HK.out.1.trans (K35.setCell HB.out (by decide) _ _)⟩

set_option maxHeartbeats 1000000 in
theorem writeString_any (B b : Nat) (bs : List Value) (s : ByteArray) (w : World) (h : Lib.IsBuilder 52 5 B b bs w) (hlen : bs.length + s.size ≤ 100000000) (hBw : B ≤ w.heap.size) :
    Calls Try.prog 29 #[.pointer (some ⟨b, 0, none⟩), .string s] w fun e w' => e = .returned (.tuple #[.int .i64 s.size, .nilIface]) ∧ Wrote B b (bs ++ Lib.strCells s) w w' := by
  have c39 := check_any B b bs w h
  clear h
  go_enter Try.func29, Try.ntmps29
  obtain ⟨i0, hi, hz0, hz1, hz2⟩ := info_parts info5
  go_wp2_with (go_at_call 39; refine c39.mono ?_)
  rintro e w1 ⟨rfl, h1, hb1, hk1⟩
  obtain ⟨hB, v, hbk, hown, hne⟩ := h1
  have c0 : w1.cell? ⟨b, 0, none⟩ = some (.pointer (some ⟨b, 0, none⟩)) := cell_at hbk 0
  have c1 : w1.cell? ⟨b, 1, none⟩ = some v := cell_at hbk 1
  have hs1 := hb1.size
  have hbk := hidIt hbk
  have hown := hidIt hown
  have hne := hidIt hne
  have hb1 := hidIt hb1
  have hk1 := hidIt hk1
  go_wp2_with (at_builtin; go_must (refine Lib.wpList_append_own_string _ rfl _ _ 50 9 rfl B 5 i0 Try.underlying50 Try.underlying9 hi hz0 hz1 hz2 _ _ _ rfl hown.out s rfl (by unfold maxLen; omega) (by omega) (by omega) ?_))
  intro v' w2 hown' hgrow _
  have hlt : b < w1.heap.size := (Array.getElem?_eq_some_iff.1 hbk.out).1
  have hb2 : w2.heap[b]? = some (.cells #[.pointer (some ⟨b, 0, none⟩), v] 52 (0, 0)) := by
    rw [hgrow.block b hlt (fun e => hne.out e.symm)]
    exact hbk.out
  have d0 : w2.cell? ⟨b, 0, none⟩ = some (.pointer (some ⟨b, 0, none⟩)) := cell_at hb2 0
  have d1 : w2.cell? ⟨b, 1, none⟩ = some v := cell_at hb2 1
  have f1 : w2.frozen? ⟨b, 1, none⟩ = false := frozen_at hb2 1
  have hle := hown'.1
  obtain ⟨ao, n', cap, rfl⟩ : ∃ ao n' cap, v' = .slice ao n' cap := by
    rcases hown'.2 with ⟨hv, _⟩ | ⟨g, cap, cur, hv, _⟩
    · exact ⟨_, _, _, hv⟩
    · exact ⟨_, _, _, hv⟩
  have HB := hidIt hb2
  have HO := hidIt hown'
  have HL := hidIt hle
  have HK : Hid (K35 w w2 ∧ Below B w w2) := hidIt ⟨hk1.out.trans (K35.grown hown.out hgrow), hb1.out.grown hgrow (by omega) (fun k hk => (hown.out.lt k hk).1)⟩
  clear hown' hgrow hb2 hk1 hb1 hbk hown hne c0 c1 c39 hle
  go_wp2
  go_ret2
  refine ⟨rfl, .inr (Lib.BuilderAt.put (T := 52) (e := 5) hB HB.out (bs' := bs ++ Lib.strCells s) (by have h1 := HO.out; have h2 := HL.out; rw [Nat.mul_one] at h2; rw [h2]; exact h1) (by decide)), HK.out.2.setCell (p := ⟨b, 1, none⟩) hB _, HK.out.1.trans (K35.setCell HB.out (by decide) _ _)⟩
end Go.Proofs.Ytinppjjhjijoeaa
