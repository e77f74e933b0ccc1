/-
  The document's slab: Load, Off, Size.
-/
import Derived.Test.YtbjofdijhcdmaaaRWalk
namespace Go.Proofs.Ytbjofdijhcdmaaa
set_option linter.unusedVariables false
open Go.RowKit

/-- A search that fails: by its code. -/
def FindErr (w : World) (A : Nat) (a : Int) (c : Nat) : Prop :=
  ∃ i k : Int, Calls Try.prog 47 #[.pointer (some ⟨A, 0, none⟩), .int .u64 a] w fun e w' => e = .returned (.tuple #[.int .i64 i, .int .i64 k, .int .i64 c]) ∧ Kp (fun _ => False) w w'
/-- A search that finds a piece that is there. -/
def FindGood (w : World) (A : Nat) (a : Int) (i j : Nat) : Prop :=
  Calls Try.prog 47 #[.pointer (some ⟨A, 0, none⟩), .int .u64 a] w fun e w' => e = .returned (.tuple #[.int .i64 i, .int .i64 j, .int .i64 0]) ∧ Kp (fun _ => False) w w'

/-- What the search comes to, by what the slab's own comes to. -/
theorem rfind_sim {w : World} {A N : Nat} {st : Sl} {rs : RS} {fp : Nat → Prop} (h : RRep w A rs fp) (hS : Sim N st rs) (hv : Inv st) (hs : Small st N) (hN : N ≤ 900000) (a : Int) (h0 : 0 ≤ a) (h1 : a < 18446744073709551616) :
    (mfind st a ≠ 0 ∧ FindErr w A a (mfind st a)) ∨ (mfind st a = 0 ∧ ∃ (i : Nat) (p : RP), rs.ps[i]? = some p ∧ hit a p = true ∧ p.freed = false ∧ FindGood w A a i (plc a)) := by
  have hf := rfind_any h (hS.ok hv hs hN) a h0 h1
  by_cases hm : ∃ (k : Nat) (p : RP), rs.ps[k]? = some p ∧ hit a p = true
  · obtain ⟨k, p, hk, hp⟩ := hm
    obtain ⟨x1, x2, x3, x4, x5⟩ := hS.hit_parts hv hs hN hk hp
    have hc : Calls Try.prog 47 #[.pointer (some ⟨A, 0, none⟩), .int .u64 a] w fun e w' => e = .returned (.tuple #[.int .i64 k, .int .i64 (plc a), .int .i64 (rcode p)]) ∧ Kp (fun _ => False) w w' := by
      refine hf.mono ?_
      rintro e w' ⟨hK, ⟨_, hno⟩ | ⟨k', p', rfl, hk', hp'⟩⟩
      · have := hno k p (List.getElem?_eq_some_iff.1 hk).1 hk
        rw [hp] at this
        cases this
      · have := hS.hit_one hv hs hN hk hk' hp hp'
        subst this
        rw [hk] at hk'
        simp only [Option.some.injEq] at hk'
        subst hk'
        exact ⟨by rw [x3], hK⟩
    cases hfr : p.freed with
    | true =>
      have e1 : rcode p = 14 := by simp [rcode, hfr]
      rw [e1] at hc x5
      left
      rw [x5]
      exact ⟨by decide, _, _, hc⟩
    | false =>
      have e1 : rcode p = 0 := by simp [rcode, hfr]
      rw [e1] at hc x5
      exact .inr ⟨x5, k, p, hk, hp, hfr, hc⟩
  · have hno : ∀ (k : Nat) (p : RP), rs.ps[k]? = some p → hit a p = false := fun k p hk => by
      cases hh : hit a p with
      | false => rfl
      | true => exact absurd ⟨k, p, hk, hh⟩ hm
    left
    rw [hS.find_none hno]
    refine ⟨by decide, 0, 0, hf.mono ?_⟩
    rintro e w' ⟨hK, ⟨rfl, _⟩ | ⟨k, p, _, hk, hp⟩⟩
    · exact ⟨rfl, hK⟩
    · rw [hno k p hk] at hp
      cases hp

section
variable {w : World} {A N : Nat} {st : Sl} {rs : RS} {fp : Nat → Prop}

set_option maxHeartbeats 400000 in
theorem rload_err (a : Int) (c : Nat) (hc : ((c : Int) != 0) = true) (hf : Hid (FindErr w A a c)) :
    Calls Try.prog 27 #[.pointer (some ⟨A, 0, none⟩), .int .u64 a] w fun e w' => e = .returned (.tuple #[.int .i64 0, .int .i64 c]) ∧ Kp (fun _ => False) w w' := by
  obtain ⟨i, k, hf⟩ := hf.out
  have Hf := hidIt hf
  clear hf
  go_enter Try.func27, Try.ntmps27
  go_wp2_with (go_at_call 47; go_must (refine Hf.out.mono ?_); rintro e w' ⟨rfl, hK⟩)
  go_ret2
  exact ⟨rfl, hK⟩

set_option maxHeartbeats 1000000 in
theorem rload_good (a : Int) (i j g n cap : Nat) (gh nh ch gv nv cv : Nat) (x : Int) (b : Bool) (hf : Hid (FindGood w A a i j)) (hi : i < n) (hn : n ≤ 900000) (hj : j < nh) (hjv : j < nv) (hnh : nh ≤ 4095)
    (hw : Hid (∀ w', Kp (fun _ => False) w w' → w'.cell? ⟨A, 1, none⟩ = some (.slice (some ⟨g, 0, none⟩) n cap) ∧ w'.cell? ⟨g, i * 5 + 2, none⟩ = some (.slice (some ⟨gv, 0, none⟩) nv cv) ∧ w'.cell? ⟨g, i * 5 + 3, none⟩ = some (.slice (some ⟨gh, 0, none⟩) nh ch) ∧
      w'.cell? ⟨gv, j, none⟩ = some (.int .i64 x) ∧ w'.cell? ⟨gh, j, none⟩ = some (.bool b))) :
    Calls Try.prog 27 #[.pointer (some ⟨A, 0, none⟩), .int .u64 a] w fun e w' => e = .returned (if b then .tuple #[.int .i64 x, .int .i64 0] else .tuple #[.int .i64 0, .int .i64 15]) ∧ Kp (fun _ => False) w w' := by
  cases b with
  | true =>
    go_enter Try.func27, Try.ntmps27
    go_wp2_with fail
    refine hf.out.mono ?_
    rintro e w' ⟨rfl, hK⟩
    obtain ⟨c1, c2, c3, c4, c5⟩ := hw.out w' hK
    have HK := hidIt hK
    clear hK hw hf
    go_wp2
    go_ret2
    exact ⟨rfl, HK.out⟩
  | false =>
    go_enter Try.func27, Try.ntmps27
    go_wp2_with fail
    refine hf.out.mono ?_
    rintro e w' ⟨rfl, hK⟩
    obtain ⟨c1, c2, c3, c4, c5⟩ := hw.out w' hK
    have HK := hidIt hK
    clear hK hw hf
    go_wp2
    go_ret2
    exact ⟨rfl, HK.out⟩

set_option maxHeartbeats 400000 in
theorem rsize_err (a : Int) (c : Nat) (hc : ((c : Int) != 0) = true) (hf : Hid (FindErr w A a c)) :
    Calls Try.prog 31 #[.pointer (some ⟨A, 0, none⟩), .int .u64 a] w fun e w' => e = .returned (.tuple #[.int .i64 0, .int .i64 c]) ∧ Kp (fun _ => False) w w' := by
  obtain ⟨i, k, hf⟩ := hf.out
  have Hf := hidIt hf
  clear hf
  go_enter Try.func31, Try.ntmps31
  go_wp2_with (go_at_call 47; go_must (refine Hf.out.mono ?_); rintro e w' ⟨rfl, hK⟩)
  go_ret2
  exact ⟨rfl, hK⟩

set_option maxHeartbeats 1000000 in
theorem rsize_good (a : Int) (i j g n cap : Nat) (gv nv cv : Nat) (hf : Hid (FindGood w A a i j)) (hi : i < n) (hn : n ≤ 900000) (hnv : nv ≤ 4095)
    (hw : Hid (∀ w', Kp (fun _ => False) w w' → w'.cell? ⟨A, 1, none⟩ = some (.slice (some ⟨g, 0, none⟩) n cap) ∧ w'.cell? ⟨g, i * 5 + 2, none⟩ = some (.slice (some ⟨gv, 0, none⟩) nv cv))) :
    Calls Try.prog 31 #[.pointer (some ⟨A, 0, none⟩), .int .u64 a] w fun e w' => e = .returned (.tuple #[.int .i64 nv, .int .i64 0]) ∧ Kp (fun _ => False) w w' := by
  go_enter Try.func31, Try.ntmps31
  go_wp2_with fail
  refine hf.out.mono ?_
  rintro e w' ⟨rfl, hK⟩
  obtain ⟨c1, c2⟩ := hw.out w' hK
  have HK := hidIt hK
  clear hK hw hf
  go_wp2
  go_ret2
  exact ⟨rfl, HK.out⟩

set_option maxHeartbeats 400000 in
theorem roff_err (a s : Int) (c : Nat) (hc : ((c : Int) != 0) = true) (hf : Hid (FindErr w A a c)) :
    Calls Try.prog 30 #[.pointer (some ⟨A, 0, none⟩), .int .u64 a, .int .i64 s] w fun e w' => e = .returned (.tuple #[.int .u64 0, .int .i64 c]) ∧ Kp (fun _ => False) w w' := by
  obtain ⟨i, k, hf⟩ := hf.out
  have Hf := hidIt hf
  clear hf
  go_enter Try.func30, Try.ntmps30
  go_wp2_with (go_at_call 47; go_must (refine Hf.out.mono ?_); rintro e w' ⟨rfl, hK⟩)
  go_ret2
  exact ⟨rfl, hK⟩

set_option maxHeartbeats 2000000 in
theorem roff_bad (a s : Int) (i j g n cap : Nat) (gv nv cv : Nat) (hf : Hid (FindGood w A a i j)) (hi : i < n) (hn : n ≤ 900000) (hnv : nv ≤ 4095) (hj : j < nv) (hs1 : -9223372036854775808 ≤ s) (hs2 : s ≤ 9223372036854775807)
    (hbad : s < -(j : Int) ∨ (nv : Int) - j ≤ s)
    (hw : Hid (∀ w', Kp (fun _ => False) w w' → w'.cell? ⟨A, 1, none⟩ = some (.slice (some ⟨g, 0, none⟩) n cap) ∧ w'.cell? ⟨g, i * 5 + 2, none⟩ = some (.slice (some ⟨gv, 0, none⟩) nv cv))) :
    Calls Try.prog 30 #[.pointer (some ⟨A, 0, none⟩), .int .u64 a, .int .i64 s] w fun e w' => e = .returned (.tuple #[.int .u64 0, .int .i64 11]) ∧ Kp (fun _ => False) w w' := by
  have key : s < -(nv : Int) ∨ (-(nv : Int) ≤ s ∧ (nv : Int) < s) ∨ (-(nv : Int) ≤ s ∧ s ≤ nv ∧ (j : Int) + s < 0) ∨ (-(nv : Int) ≤ s ∧ s ≤ nv ∧ 0 ≤ (j : Int) + s ∧ (nv : Int) ≤ (j : Int) + s) := by omega
  clear hbad
  rcases key with h1 | ⟨h1, h2⟩ | ⟨h1, h2, h3⟩ | ⟨h1, h2, h3, h4⟩
  all_goals
    go_enter Try.func30, Try.ntmps30
    go_wp2_with fail
    refine hf.out.mono ?_
    rintro e w' ⟨rfl, hK⟩
    obtain ⟨c1, c2⟩ := hw.out w' hK
    have HK := hidIt hK
    clear hK hw hf
    go_wp2
    go_ret2
    exact ⟨rfl, HK.out⟩

set_option maxHeartbeats 2000000 in
theorem roff_good (a s : Int) (i j g n cap : Nat) (gv nv cv : Nat) (p : RP) (v : Value) (hf : Hid (FindGood w A a i j)) (hi : i < n) (hn : n ≤ 900000) (hnv : nv ≤ 4095) (hj : j < nv) (hp1 : p.ix < 900000) (hp2 : p.age < 900000)
    (h1 : -(j : Int) ≤ s) (h2 : s < (nv : Int) - j)
    (hw : Hid (∀ w', Kp (fun _ => False) w w' → w'.cell? ⟨A, 1, none⟩ = some (.slice (some ⟨g, 0, none⟩) n cap) ∧ w'.cell? ⟨g, i * 5, none⟩ = some (.int .i64 p.ix) ∧ w'.cell? ⟨g, i * 5 + 1, none⟩ = some (.int .i64 p.age) ∧ w'.cell? ⟨g, i * 5 + 2, none⟩ = some (.slice (some ⟨gv, 0, none⟩) nv cv) ∧ w'.cell? ⟨g, i * 5 + 3, none⟩ = some v ∧ w'.cell? ⟨g, i * 5 + 4, none⟩ = some (.bool p.freed))) :
    Calls Try.prog 30 #[.pointer (some ⟨A, 0, none⟩), .int .u64 a, .int .i64 s] w fun e w' => e = .returned (.tuple #[.int .u64 (rfirst p + (j + s)), .int .i64 0]) ∧ Kp (fun _ => False) w w' := by
  go_enter Try.func30, Try.ntmps30
  go_wp2_with fail
  refine hf.out.mono ?_
  rintro e w' ⟨rfl, hK⟩
  obtain ⟨c1, c2, c3, c4, c5, c6⟩ := hw.out w' hK
  have HK := hidIt hK
  clear hK hw hf
  go_wp2_with fail
  refine (raddr_any p (.slice (some ⟨gv, 0, none⟩) nv cv) v (j + s) _ (by omega) (by omega) (by omega) (by omega)).mono ?_
  rintro e w2 ⟨rfl, hk2⟩
  have HK2 : Hid (Kp (fun _ => False) w w2) := HK.out.trans' hk2
  clear hk2 HK c1 c2 c3 c4 c5 c6
  go_wp2
  go_ret2
  exact ⟨rfl, HK2.out⟩

/-- A piece that there is, as it lies. -/
theorem RAt.seen {vp vf : Value} {es : List PV} (h : RAt w A rs fp vp vf es) (hok : ROk rs) {i : Nat} {p : RP} (hp : rs.ps[i]? = some p) :
    ∃ g cap gv cv gh ch, es[i]? = some (p, .slice (some ⟨gv, 0, none⟩) p.vals.length cv, .slice (some ⟨gh, 0, none⟩) p.vals.length ch) ∧ vp = .slice (some ⟨g, 0, none⟩) rs.ps.length cap ∧
      ∀ w', Kp (fun _ => False) w w' → w'.cell? ⟨A, 1, none⟩ = some (.slice (some ⟨g, 0, none⟩) rs.ps.length cap) ∧ w'.cell? ⟨g, i * 5, none⟩ = some (.int .i64 p.ix) ∧ w'.cell? ⟨g, i * 5 + 1, none⟩ = some (.int .i64 p.age) ∧ w'.cell? ⟨g, i * 5 + 2, none⟩ = some (.slice (some ⟨gv, 0, none⟩) p.vals.length cv) ∧ w'.cell? ⟨g, i * 5 + 3, none⟩ = some (.slice (some ⟨gh, 0, none⟩) p.vals.length ch) ∧ w'.cell? ⟨g, i * 5 + 4, none⟩ = some (.bool p.freed) ∧
        (∀ (j : Nat) (x : Int), p.vals[j]? = some x → w'.cell? ⟨gv, j, none⟩ = some (.int .i64 x)) ∧ (∀ (j : Nat) (b : Bool), p.has[j]? = some b → w'.cell? ⟨gh, j, none⟩ = some (.bool b)) := by
  obtain ⟨q1, q2, q3, q4, q5⟩ := hok.piece p (List.mem_of_getElem? hp)
  obtain ⟨g, cap, rfl⟩ := h.pos hp
  obtain ⟨u, v, hu⟩ := h.get hp
  obtain ⟨gv, cv, huu, _⟩ := own_pos (h.data.vals i _ hu).1 q3
  obtain ⟨gh, ch, hvv, _⟩ := own_pos (h.data.has i _ hu).1 (by simp only; omega)
  simp only at huu hvv
  rw [q5] at hvv
  subst huu hvv
  refine ⟨g, cap, gv, cv, gh, ch, hu, rfl, fun w' hk => ?_⟩
  have h' := h.kp hk
  obtain ⟨d0, d1, d2, d3, d4⟩ := h'.cell hu
  refine ⟨h'.cells.2.1, d0, d1, d2, d3, d4, fun j x hx => ?_, fun j b hb => ?_⟩
  · have hjl : j < p.vals.length := (List.getElem?_eq_some_iff.1 hx).1
    refine ((h'.data.vals i _ hu).1.cellAt j (by omega)).trans ?_
    simp [valCells, hx]
  · have hjl : j < p.has.length := (List.getElem?_eq_some_iff.1 hb).1
    have ho := (h'.data.has i _ hu).1
    simp only at ho
    rw [q5] at ho
    refine (ho.cellAt j (by omega)).trans ?_
    simp [hasCells, hb]

theorem rload_any (h : RRep w A rs fp) (hS : Sim N st rs) (hv : Inv st) (hs : Small st N) (hN : N ≤ 900000) (a : Int) (h0 : 0 ≤ a) (h1 : a < 18446744073709551616) :
    Calls Try.prog 27 #[.pointer (some ⟨A, 0, none⟩), .int .u64 a] w fun e w' => e = .returned (.tuple #[.int .i64 (mload st a).1, .int .i64 (mload st a).2]) ∧ Kp (fun _ => False) w w' := by
  rcases rfind_sim h hS hv hs hN a h0 h1 with ⟨hc, hf⟩ | ⟨hc, i, p, hp, hh, hfr, hf⟩
  · have em : mload st a = (0, (mfind st a : Int)) := by simp [mload, hc]
    rw [em]
    exact rload_err a _ (by rw [bne_iff_ne]; omega) hf
  · obtain ⟨x1, x2, x3, x4, x5⟩ := hS.hit_parts hv hs hN hp hh
    obtain ⟨vp, vf, es, hR⟩ := h
    have hok := hS.ok hv hs hN
    obtain ⟨q1, q2, q3, q4, q5⟩ := hok.piece p (List.mem_of_getElem? hp)
    obtain ⟨g, cap, gv, cv, gh, ch, hu, rfl, hw⟩ := hR.seen hok hp
    obtain ⟨x, hx⟩ : ∃ x, p.vals[plc a]? = some x := ⟨_, List.getElem?_eq_getElem x4⟩
    obtain ⟨b, hb⟩ : ∃ b, p.has[plc a]? = some b := ⟨_, List.getElem?_eq_getElem (by omega)⟩
    obtain ⟨e, he, hz, _, hf2⟩ := hS.at_ i p hp
    have hsl : e.slots[plc a]? = some (x, b) := by rw [(hf2 hfr).2]; simp [List.getElem?_zip_eq_some, hx, hb]
    refine (rload_good a i (plc a) g rs.ps.length cap gh p.vals.length ch gv p.vals.length cv x b hf (List.getElem?_eq_some_iff.1 hp).1 hok.len x4 x4 q4 (hidIt fun w' hk => ?_)).mono ?_
    · obtain ⟨d0, d1, d2, d3, d4, d5, d6, d7⟩ := hw w' hk
      exact ⟨d0, d3, d4, d6 _ _ hx, d7 _ _ hb⟩
    · rintro _ w' ⟨rfl, hk⟩
      refine ⟨?_, hk⟩
      have em : mload st a = if b then (x, 0) else (0, 15) := by simp [mload, hc, x1, he, hsl]
      rw [em]
      cases b <;> rfl

theorem rsize_any (h : RRep w A rs fp) (hS : Sim N st rs) (hv : Inv st) (hs : Small st N) (hN : N ≤ 900000) (a : Int) (h0 : 0 ≤ a) (h1 : a < 18446744073709551616) :
    Calls Try.prog 31 #[.pointer (some ⟨A, 0, none⟩), .int .u64 a] w fun e w' => e = .returned (.tuple #[.int .i64 (msize st a).1, .int .i64 (msize st a).2]) ∧ Kp (fun _ => False) w w' := by
  rcases rfind_sim h hS hv hs hN a h0 h1 with ⟨hc, hf⟩ | ⟨hc, i, p, hp, hh, hfr, hf⟩
  · have em : msize st a = (0, (mfind st a : Int)) := by simp [msize, hc]
    rw [em]
    exact rsize_err a _ (by rw [bne_iff_ne]; omega) hf
  · obtain ⟨x1, x2, x3, x4, x5⟩ := hS.hit_parts hv hs hN hp hh
    obtain ⟨vp, vf, es, hR⟩ := h
    have hok := hS.ok hv hs hN
    obtain ⟨q1, q2, q3, q4, q5⟩ := hok.piece p (List.mem_of_getElem? hp)
    obtain ⟨g, cap, gv, cv, gh, ch, hu, rfl, hw⟩ := hR.seen hok hp
    obtain ⟨e, he, hz, _, hf2⟩ := hS.at_ i p hp
    have hsl : e.slots.length = p.vals.length := by rw [(hf2 hfr).2, List.length_zip, q5, Nat.min_self]
    have em : msize st a = ((p.vals.length : Int), 0) := by simp [msize, hc, x1, he, hsl]
    rw [em]
    exact rsize_good a i (plc a) g rs.ps.length cap gv p.vals.length cv hf (List.getElem?_eq_some_iff.1 hp).1 hok.len q4 (hidIt fun w' hk => ⟨(hw w' hk).1, (hw w' hk).2.2.2.1⟩)

theorem roff_any (h : RRep w A rs fp) (hS : Sim N st rs) (hv : Inv st) (hs : Small st N) (hN : N ≤ 900000) (a s : Int) (h0 : 0 ≤ a) (h1 : a < 18446744073709551616) (hs1 : -9223372036854775808 ≤ s) (hs2 : s ≤ 9223372036854775807) :
    Calls Try.prog 30 #[.pointer (some ⟨A, 0, none⟩), .int .u64 a, .int .i64 s] w fun e w' => e = .returned (.tuple #[.int .u64 (moff st a s).1, .int .i64 (moff st a s).2]) ∧ Kp (fun _ => False) w w' := by
  rcases rfind_sim h hS hv hs hN a h0 h1 with ⟨hc, hf⟩ | ⟨hc, i, p, hp, hh, hfr, hf⟩
  · have em : moff st a s = (0, (mfind st a : Int)) := by simp [moff, hc]
    rw [em]
    exact roff_err a s _ (by rw [bne_iff_ne]; omega) hf
  · obtain ⟨x1, x2, x3, x4, x5⟩ := hS.hit_parts hv hs hN hp hh
    obtain ⟨vp, vf, es, hR⟩ := h
    have hok := hS.ok hv hs hN
    obtain ⟨q1, q2, q3, q4, q5⟩ := hok.piece p (List.mem_of_getElem? hp)
    obtain ⟨g, cap, gv, cv, gh, ch, hu, rfl, hw⟩ := hR.seen hok hp
    obtain ⟨e, he, hz, _, hf2⟩ := hS.at_ i p hp
    have hsl : e.slots.length = p.vals.length := by rw [(hf2 hfr).2, List.length_zip, q5, Nat.min_self]
    have hag : e.sizes.length - 1 = p.age := by have := (hf2 hfr).1; omega
    have em : moff st a s = if s < - (plc a : Int) ∨ (p.vals.length : Int) - plc a ≤ s then (0, 11) else (rfirst p + (plc a + s), 0) := by simp only [moff, hc, x1, he, hsl, hag, rfirst]; simp
    rw [em]
    by_cases hb : s < - (plc a : Int) ∨ (p.vals.length : Int) - plc a ≤ s
    · rw [if_pos hb]
      exact roff_bad a s i (plc a) g rs.ps.length cap gv p.vals.length cv hf (List.getElem?_eq_some_iff.1 hp).1 hok.len q4 x4 hs1 hs2 hb (hidIt fun w' hk => ⟨(hw w' hk).1, (hw w' hk).2.2.2.1⟩)
    · rw [if_neg hb]
      exact roff_good a s i (plc a) g rs.ps.length cap gv p.vals.length cv p _ hf (List.getElem?_eq_some_iff.1 hp).1 hok.len q4 x4 q1 q2 (by omega) (by omega) (hidIt fun w' hk => by
        obtain ⟨d0, d1, d2, d3, d4, d5, _⟩ := hw w' hk
        exact ⟨d0, d1, d2, d3, d4, d5⟩)
end
end Go.Proofs.Ytbjofdijhcdmaaa
