/-
  The walks of the Builder's copyCheck, WriteByte, WriteString, and of Text.
-/
import Derived.Test.YtlppbgmcoknliaaGreatDoorRgt
import Derived.Lib.AppendStr
namespace Go.Proofs.YtlppbgmcoknliaaGreatDoor
set_option linter.unusedVariables false
open Go.RowKit

theorem size78 : (Tryz.prog.info? 78).map (fun i => i.size) = some 2 := by kernel_rfl
theorem info5b : (Tryz.prog.info? 5).map (fun i => (i.zero, i.size, i.bytes)) = some (some (.int .u8 0), 1, 1) := by kernel_rfl

set_option maxHeartbeats 1000000 in
set_option maxRecDepth 100000 in
theorem check_used (b : Nat) (w : World) (h0 : w.cell? ⟨b, 0, none⟩ = some (.pointer (some ⟨b, 0, none⟩))) :
 Calls Tryz.prog 87 #[.pointer (some ⟨b, 0, none⟩)] w fun e w' => e = .returned (.tuple #[]) ∧ w = w' := by
 go_enter Tryz.func87, Tryz.ntmps87
 obtain ⟨j, hj, _⟩ := Option.map_eq_some_iff.1 size78
 go_wp2
 rw [Lib.run_neq_ptr_same w _ Tryz.underlying75 hj]
 go_wp2
 go_end0
 exact ⟨rfl, rfl⟩

set_option maxHeartbeats 1000000 in
set_option maxRecDepth 100000 in
theorem check_fresh (b : Nat) (w : World) (h0 : w.cell? ⟨b, 0, none⟩ = some (.pointer none)) (hsh : w.shape? b = some (78, 2)) (hfz : w.frozen? ⟨b, 0, none⟩ = false) :
 Calls Tryz.prog 87 #[.pointer (some ⟨b, 0, none⟩)] w fun e w' => e = .returned (.tuple #[]) ∧ w' = w.setCell ⟨b, 0, none⟩ (.pointer (some ⟨b, 0, none⟩)) := by
 go_enter Tryz.func87, Tryz.ntmps87
 obtain ⟨j, hj, hjs⟩ := Option.map_eq_some_iff.1 size78
 go_wp2
 rw [Lib.run_to_unsafe w ⟨b, 0, none⟩ Tryz.underlying75 Tryz.underlying155 hj (by rw [hjs]; decide) hsh (Nat.zero_lt_succ 1)]
 simp only [Result.andThen]
 rw [Oper.upon_value]
 go_wp2
 rw [run_callFunc_extern Tryz.func123 (by kernel_rfl) (by kernel_rfl) (by kernel_rfl) (e := Extern.AbiNoEscape.same) (by kernel_rfl)]
 rw [Lib.run_noEscape]
 simp only [Result.andThen]
 rw [Oper.upon_value]
 go_wp2
 rw [Lib.run_from_unsafe w ⟨b, 0, none⟩ Tryz.underlying155 Tryz.underlying75 hj hsh (by kernel_rfl)]
 simp only [Result.andThen]
 rw [Oper.upon_value]
 go_wp2
 go_end0
 exact ⟨rfl, rfl⟩

theorem check_any (B b : Nat) (bs : List Value) (w : World) (h : Lib.IsBuilder 78 5 B b bs w) :
 Calls Tryz.prog 87 #[.pointer (some ⟨b, 0, none⟩)] w fun e w' => e = .returned (.tuple #[]) ∧ Lib.BuilderAt 78 5 B b (.pointer (some ⟨b, 0, none⟩)) bs w' ∧ Below B w w' := by
 rcases h with h | h
 · refine (check_fresh b w h.cell0 h.shape h.frozen0).mono ?_
   rintro e w' ⟨rfl, rfl⟩
   exact ⟨rfl, h.used _, (Below.refl B w).setCell (p := ⟨b, 0, none⟩) h.1 _⟩
 · refine (check_used b w h.cell0).mono ?_
   rintro e w' ⟨rfl, rfl⟩
   exact ⟨rfl, h, Below.refl B _⟩

/-- Behind a write. -/
structure Wrote (B b : Nat) (bs : List Value) (w w' : World) : Prop where
 bld : Lib.IsBuilder 78 5 B b bs w'
 bel : Below B w w'

set_option maxHeartbeats 1000000 in
theorem writeByte_any (B b : Nat) (bs : List Value) (c : Int) (w : World) (h : Lib.IsBuilder 78 5 B b bs w) (hlen : bs.length ≤ 100000000) (hBw : B ≤ w.heap.size) :
 Calls Tryz.prog 41 #[.pointer (some ⟨b, 0, none⟩), .int .u8 c] w fun e w' => e = .returned .nilIface ∧ Wrote B b (bs ++ [.int .u8 c]) w w' := by
 have c87 := check_any B b bs w h
 clear h
 go_enter Tryz.func41, Tryz.ntmps41
 obtain ⟨i0, hi, hz0, hz1, hz2⟩ := info_parts info5b
 go_wp2_with (go_at_call 87; refine c87.mono ?_)
 rintro e w1 ⟨rfl, h1, hb1⟩
 obtain ⟨hB, v, hbk, hown, hne⟩ := h1
 obtain ⟨c0, c1⟩ := cells_2 hbk
 have hs1 := hb1.size
 have hbk := hidIt hbk
 have hown := hidIt hown
 have hne := hidIt hne
 have hb1 := hidIt hb1
 go_wp2_with (at_builtin; go_must (refine wpList_append_own _ rfl _ _ 76 rfl B 5 i0 _ 1 1 Tryz.underlying76 hi hz0 hz1 hz2 rfl (by decide) _ _ _ rfl (hown.out.alloc _) ⟨w1.heap.size, 0, none⟩ 1 1 [.int .u8 c] rfl rfl (cell_one_new _ _ _) (by simp [Value.oneCell']) (by unfold maxLen; omega) (by omega) (by simp; omega) ?_))
 intro v' w2 hown' hgrow _
 have hlt : b < w1.heap.size := (Array.getElem?_eq_some_iff.1 hbk.out).1
 have hb2 : w2.heap[b]? = some (.cells #[.pointer (some ⟨b, 0, none⟩), v] 78 (0, 0)) := by
  rw [hgrow.block b (by rw [World.size_alloc]; omega) (fun e => hne.out e.symm), Below.heap_alloc _ _ _ hlt]
  exact hbk.out
 obtain ⟨d0, d1⟩ := cells_2 hb2
 have f1 : w2.frozen? ⟨b, 1, none⟩ = false := frozen_at hb2 1
 obtain ⟨ao, n', cap, rfl⟩ : ∃ ao n' cap, v' = .slice ao n' cap := by
  rcases hown'.2 with ⟨hv, _⟩ | ⟨g, cap, cur, hv, _⟩
  · exact ⟨_, _, _, hv⟩
  · exact ⟨_, _, _, hv⟩
 have HB := hidIt hb2
 have HO := hidIt hown'
 have HK : Hid (Below B w w2) := hidIt ((hb1.out.alloc (by omega) _).grown hgrow (by rw [World.size_alloc]; omega) (fun k hk => (hown.out.lt k hk).1))
 clear hown' hgrow hb2 hb1 hbk hown hne c0 c1 c87
 go_wp2
 go_ret
 refine ⟨rfl, .inr (Lib.BuilderAt.put (T := 78) (e := 5) hB HB.out (bs' := bs ++ [.int .u8 c]) (by simpa using HO.out) (by decide)), HK.out.setCell (p := ⟨b, 1, none⟩) hB _⟩

set_option maxHeartbeats 1000000 in
theorem writeString_any (B b : Nat) (bs : List Value) (s : ByteArray) (w : World) (h : Lib.IsBuilder 78 5 B b bs w) (hlen : bs.length + s.size ≤ 100000000) (hBw : B ≤ w.heap.size) :
 Calls Tryz.prog 40 #[.pointer (some ⟨b, 0, none⟩), .string s] w fun e w' => e = .returned (.tuple #[.int .i64 s.size, .nilIface]) ∧ Wrote B b (bs ++ Lib.strCells s) w w' := by
 have c87 := check_any B b bs w h
 clear h
 go_enter Tryz.func40, Tryz.ntmps40
 obtain ⟨i0, hi, hz0, hz1, hz2⟩ := info_parts info5b
 go_wp2_with (go_at_call 87; refine c87.mono ?_)
 rintro e w1 ⟨rfl, h1, hb1⟩
 obtain ⟨hB, v, hbk, hown, hne⟩ := h1
 obtain ⟨c0, c1⟩ := cells_2 hbk
 have hs1 := hb1.size
 have hbk := hidIt hbk
 have hown := hidIt hown
 have hne := hidIt hne
 have hb1 := hidIt hb1
 go_wp2_with (at_builtin; go_must (refine Lib.wpList_append_own_string _ rfl _ _ 76 9 rfl B 5 i0 Tryz.underlying76 Tryz.underlying9 hi hz0 hz1 hz2 _ _ _ rfl hown.out s rfl (by unfold maxLen; omega) (by omega) (by omega) ?_))
 intro v' w2 hown' hgrow _
 have hlt : b < w1.heap.size := (Array.getElem?_eq_some_iff.1 hbk.out).1
 have hb2 : w2.heap[b]? = some (.cells #[.pointer (some ⟨b, 0, none⟩), v] 78 (0, 0)) := by
  rw [hgrow.block b hlt (fun e => hne.out e.symm)]
  exact hbk.out
 obtain ⟨d0, d1⟩ := cells_2 hb2
 have f1 : w2.frozen? ⟨b, 1, none⟩ = false := frozen_at hb2 1
 have hle := hown'.1
 obtain ⟨ao, n', cap, rfl⟩ : ∃ ao n' cap, v' = .slice ao n' cap := by
  rcases hown'.2 with ⟨hv, _⟩ | ⟨g, cap, cur, hv, _⟩
  · exact ⟨_, _, _, hv⟩
  · exact ⟨_, _, _, hv⟩
 have HB := hidIt hb2
 have HO := hidIt hown'
 have HL := hidIt hle
 have HK : Hid (Below B w w2) := hidIt (hb1.out.grown hgrow (by omega) (fun k hk => (hown.out.lt k hk).1))
 clear hown' hgrow hb2 hb1 hbk hown hne c0 c1 c87 hle
 go_wp2
 go_ret2
 refine ⟨rfl, .inr (Lib.BuilderAt.put (T := 78) (e := 5) hB HB.out (bs' := bs ++ Lib.strCells s) (by have h1 := HO.out; have h2 := HL.out; rw [Nat.mul_one] at h2; rw [h2]; exact h1) (by decide)), HK.out.setCell (p := ⟨b, 1, none⟩) hB _⟩

/-- A place's text. -/
def textL (p : PlaceD) : List UInt8 := p.loc.data.toList ++ p.steps.flatMap fun s => 46 :: s.data.toList
theorem textL_next (l : ByteArray) (xs : List ByteArray) (k : Nat) (x : ByteArray) (h : xs[k]? = some x) : textL ⟨l, xs.take (k + 1)⟩ = textL ⟨l, xs.take k⟩ ++ 46 :: x.data.toList := by
 unfold textL
 rw [List.take_add_one, h]
 simp
theorem textL_take (l : ByteArray) : ∀ (xs : List ByteArray) (k : Nat), (textL ⟨l, xs.take k⟩).length ≤ (textL ⟨l, xs⟩).length
 | xs, k => by
  conv => rhs; rw [← List.take_append_drop k xs]
  simp only [textL, List.flatMap_append, List.length_append]
  omega

set_option maxHeartbeats 1000000 in
set_option maxRecDepth 100000 in
theorem text_any (p : PlaceX) (w : World) (hp : p.At w) (hl : (textL p.d).length ≤ 100000000) :
 Calls Tryz.prog 13 #[.agg #[.string p.loc, .slice p.sa p.steps.length p.sc]] w fun e w' => e = .returned (.string ⟨(textL p.d).toArray⟩) ∧ Below w.heap.size w w' := by
 obtain ⟨l, sa, sc, xs⟩ := p
 have hbig : xs.length ≤ 1048576 := St.big hp
 simp only [PlaceX.d] at hl ⊢
 have hl0 : l.size ≤ 100000000 := by
  have := hl
  simp only [textL, List.length_append] at this
  have e : l.size = l.data.toList.length := Lib.size_eq l
  omega
 have hp := hidIt hp
 have HL := hidIt hl
 have HL0 := hidIt hl0
 clear hl hl0
 have hsz := World.size_alloc w (.cells #[.string l, .slice sa xs.length sc] 24)
 obtain ⟨b, eb⟩ : ∃ b, b = w.heap.size + 1 := ⟨_, rfl⟩
 have hbl : Hid (Lib.IsBuilder 78 5 b b [] ((w.alloc (.cells #[.string l, .slice sa xs.length sc] 24)).alloc (.cells #[.pointer none, .slice none 0 0] 78))) := hidIt (by rw [eb, ← hsz]; exact Lib.fresh_isBuilder 78 5 _)
 have hb := hidIt (below_next (below_new w (.cells #[.string l, .slice sa xs.length sc] 24)) (below_new _ (.cells #[.pointer none, .slice none 0 0] 78)))
 have H1 := hidIt (two_at (w := w) (cs := #[.string l, .slice sa xs.length sc]) (ds := #[.pointer none, .slice none 0 0]) (t := 24) (u := 78) rfl rfl (Below.refl _ _)).1
 have hs2 : Hid (b ≤ ((w.alloc (.cells #[.string l, .slice sa xs.length sc] 24)).alloc (.cells #[.pointer none, .slice none 0 0] 78)).heap.size) := hidIt (by rw [eb, World.size_alloc, World.size_alloc]; omega)
 clear hsz
 obtain ⟨n, hn⟩ : ∃ n, xs.length = n := ⟨_, rfl⟩
 rw [hn] at hbig hbl hb H1 hs2 ⊢
 have hn := hidIt hn
 go_enter Tryz.func13, Tryz.ntmps13
 go_upto_region 2 with fail
 rw [← eb]
 have EB := hidIt eb
 clear eb
 generalize ((w.alloc (.cells #[.string l, .slice sa n sc] 24)).alloc (.cells #[.pointer none, .slice none 0 0] 78)) = W2 at hbl hb H1 hs2 ⊢
 obtain ⟨p0, p1⟩ := cells_2 H1.out
 have c40 := hidIt (writeString_any b b [] l W2 hbl.out (by have := HL0.out; simp; exact this) hs2.out)
 go_wp2_with (go_at_call 40; refine c40.out.mono ?_)
 rintro e w3 ⟨rfl, hw⟩
 have hw := hidIt hw
 have H3 : w3.heap[w.heap.size]? = some (.cells #[.string l, .slice sa n sc] 24 (0, 0)) := by rw [hw.out.bel.block _ (by rw [EB.out]; omega)]; exact H1.out
 clear p0 p1 c40 hbl H1
 obtain ⟨p0, p1⟩ := cells_2 H3
 clear H3
 have S0 : Hid (Lib.IsBuilder 78 5 b b (Lib.byteCells (textL ⟨l, xs.take 0⟩)) w3 ∧ Below b W2 w3) := hidIt ⟨by
  have := hw.out.bld
  rw [show Lib.byteCells (textL ⟨l, xs.take 0⟩) = [] ++ Lib.strCells l by simp [textL, Lib.byteCells, Lib.strCells]]
  exact this, hw.out.bel⟩
 clear hw
 go_wp2
 go_loopg [5, 12] n (fun g s5 s12 wr => ∃ k : Nat, k ≤ n ∧ n - k ≤ g ∧ s12 = .int .i64 k ∧ Hid (Lib.IsBuilder 78 5 b b (Lib.byteCells (textL ⟨l, xs.take k⟩)) wr ∧ Below b W2 wr))
 case atStart => exact ⟨0, Nat.zero_le _, by omega, rfl, S0⟩
 case round =>
  clear S0
  obtain ⟨k, hk, hg, rfl, R⟩ := hrel
  have hbw : Hid (Below w.heap.size w wr) := hidIt (hb.out.trans (R.out.2.mono (by rw [EB.out]; omega)))
  have hsw : Hid (b ≤ wr.heap.size) := hidIt (Nat.le_trans hs2.out R.out.2.size)
  by_cases hlt : k < n
  · obtain ⟨x, hx⟩ : ∃ x, xs[k]? = some x := ⟨_, List.getElem?_eq_getElem (by rw [hn.out]; exact hlt)⟩
    obtain ⟨b1, o1, rfl, g1⟩ := St.cell hp.out hx
    have g1 := g1 wr hbw.out
    have L1 := textL_take l xs (k + 1)
    rw [textL_next l xs k x hx, List.length_append, List.length_cons] at L1
    have L2 := HL.out
    have ex : x.size = x.data.toList.length := Lib.size_eq x
    have C41 := hidIt (writeByte_any b b (Lib.byteCells (textL ⟨l, xs.take k⟩)) 46 wr R.out.1 (by rw [Lib.byteCells_length]; omega) hsw.out)
    have C40 := hidIt (fun W h1 h2 => writeString_any b b (Lib.byteCells (textL ⟨l, xs.take k⟩) ++ [.int .u8 46]) x W h1 (by rw [List.length_append, Lib.byteCells_length, List.length_singleton]; omega) h2)
    have E1 : Hid (Lib.byteCells (textL ⟨l, xs.take k⟩) ++ [.int .u8 46] ++ Lib.strCells x = Lib.byteCells (textL ⟨l, xs.take (k + 1)⟩)) := hidIt (by rw [textL_next l xs k x hx]; simp [Lib.byteCells, Lib.strCells])
    clear L1 L2 ex hx
    go_wp2_with (first | (go_at_call 41; refine C41.out.mono ?_; rintro e w4 ⟨rfl, hw4⟩; have hw4 := hidIt hw4) | (go_at_call 40; refine (C40.out w4 hw4.out.bld (Nat.le_trans hsw.out hw4.out.bel.size)).mono ?_; rintro e w5 ⟨rfl, hw5⟩; have hw5 := hidIt hw5))
    go_roundg (n - (k + 1))
    case measure => omega
    case rel => exact ⟨k + 1, by omega, by omega, by go_num, hidIt ⟨by rw [← E1.out]; exact hw5.out.bld, (R.out.2.trans hw4.out.bel).trans hw5.out.bel⟩⟩
  · have : k = n := by omega
    subst this
    have hB := R.out.1
    rw [List.take_of_length_le (by rw [hn.out]; exact Nat.le_refl _)] at hB
    have C42 := hidIt (Tryz.Builder_String_any b b _ wr hB hsw.out)
    clear hB p0 p1
    go_wp2_with (go_at_call 42; refine C42.out.mono ?_)
    rintro e w4 ⟨rfl, hq4⟩
    go_wp2
    go_ret
    exact ⟨rfl, hbw.out.trans (hq4.mono (by rw [EB.out]; omega))⟩
end Go.Proofs.YtlppbgmcoknliaaGreatDoor
