/-
  The document's slab: New, Used, Live, addr, find.
-/
import Derived.Test.YtbjofdijhcdmaaaRRep
namespace Go.Proofs.Ytbjofdijhcdmaaa
set_option linter.unusedVariables false
open Go.RowKit

set_option maxHeartbeats 400000 in
theorem rnew_err (n : Int) (w : World) (h : n < 0 ∨ 16384 < n) :
    Calls Try.prog 10 #[.int .i64 n] w fun e w' => e = .returned (.tuple #[.pointer none, .int .i64 11]) ∧ w = w' := by
  by_cases h1 : n < 0
  · clear h
    go_enter Try.func10, Try.ntmps10
    go_wp2
    go_ret2
    exact ⟨rfl, rfl⟩
  · have h2 : 16384 < n := by omega
    clear h
    go_enter Try.func10, Try.ntmps10
    go_wp2
    go_ret2
    exact ⟨rfl, rfl⟩

set_option maxHeartbeats 400000 in
theorem rnew_ok (n : Int) (w : World) (h1 : 0 ≤ n) (h2 : n ≤ 16384) :
    Calls Try.prog 10 #[.int .i64 n] w fun e w' => e = .returned (.tuple #[.pointer (some ⟨w.heap.size, 0, none⟩), .int .i64 0]) ∧ w.alloc (.cells #[.int .i64 n, .slice none 0 0, .slice none 0 0, .int .i64 0] 72) = w' := by
  go_enter Try.func10, Try.ntmps10
  go_wp2
  go_ret2
  exact ⟨rfl, rfl⟩

theorem RAt.kp {w w2 : World} {A : Nat} {rs : RS} {fp : Nat → Prop} {vp vf : Value} {es : List PV} (h : RAt w A rs fp vp vf es) (hk : Kp (fun _ => False) w w2) : RAt w2 A rs fp vp vf es :=
  h.frame hk.size fun k hf => hk.block k (h.fplt k hf) id
theorem RRep.kp {w w2 : World} {A : Nat} {rs : RS} {fp : Nat → Prop} (h : RRep w A rs fp) (hk : Kp (fun _ => False) w w2) : RRep w2 A rs fp :=
  h.frame hk.size fun k hf => hk.block k (h.lt k hf) id

set_option maxHeartbeats 400000 in
theorem raddr_any (p : RP) (u v : Value) (k : Int) (w : World) (h1 : p.ix < 1000000) (h2 : p.age < 1000000) (hk0 : 0 ≤ k) (hk : k < 4096) :
    Calls Try.prog 46 #[.agg #[.int .i64 p.ix, .int .i64 p.age, u, v, .bool p.freed], .int .i64 k] w fun e w' => e = .returned (.int .u64 (rfirst p + k)) ∧ Kp (fun _ => False) w w' := by
  go_enter Try.func46, Try.ntmps46
  go_wp2
  go_ret
  exact ⟨rfl, Kp.alloc _ _ _⟩

theorem rused_le (l : List RP) (h : ∀ p ∈ l, p.vals.length ≤ 4095) : rused l ≤ l.length * 4095 := by
  induction l with
  | nil => simp [rused]
  | cons a t ih =>
    have := ih fun p hp => h p (List.mem_cons_of_mem _ hp)
    have h1 := h a (by simp)
    unfold rused at this ⊢
    simp only [List.map_cons, List.sum_cons, List.length_cons]
    have : rlen a ≤ a.vals.length := by unfold rlen; split <;> omega
    omega
theorem rused_snoc (l : List RP) (k : Nat) (p : RP) (h : l[k]? = some p) : rused (l.take (k + 1)) = rused (l.take k) + rlen p := by
  have hk : k < l.length := (List.getElem?_eq_some_iff.1 h).1
  rw [List.take_succ_eq_append_getElem hk, (List.getElem?_eq_some_iff.1 h).2]
  simp [rused]
theorem countP_snoc (f : RP → Bool) (l : List RP) (k : Nat) (p : RP) (h : l[k]? = some p) : (l.take (k + 1)).countP f = (l.take k).countP f + (if f p then 1 else 0) := by
  have hk : k < l.length := (List.getElem?_eq_some_iff.1 h).1
  rw [List.take_succ_eq_append_getElem hk, (List.getElem?_eq_some_iff.1 h).2, List.countP_append]
  simp [List.countP_cons]

set_option maxRecDepth 100000 in
set_option maxHeartbeats 1000000 in
theorem rused_any {w : World} {A : Nat} {rs : RS} {fp : Nat → Prop} (h : RRep w A rs fp) (hl : rs.ps.length ≤ 900000) (hv : ∀ p ∈ rs.ps, p.vals.length ≤ 4095) :
    Calls Try.prog 34 #[.pointer (some ⟨A, 0, none⟩)] w fun e w' => e = .returned (.int .i64 (rused rs.ps)) ∧ w = w' := by
  obtain ⟨vp, vf, es, h⟩ := h
  have c1 := h.cells.2.1
  have HR := hidIt h
  have Hv := hidIt hv
  obtain ⟨ao, cap, rfl⟩ := h.shape
  clear h hv
  go_enter Try.func34, Try.ntmps34
  go_wp2
  go_loopw [3, 4] (fun n i wr => ∃ k m : Nat, k ≤ rs.ps.length ∧ i = .int .i64 k ∧ n = .int .i64 m ∧ Hid (m = rused (rs.ps.take k)) ∧ wr = w) (fun _ i _ => rs.ps.length - (intOf i).toNat)
  case atStart => exact ⟨0, 0, Nat.zero_le _, rfl, rfl, by simp [rused, Hid], rfl⟩
  case round =>
    obtain ⟨k, m, hk, rfl, rfl, Hm, rfl⟩ := hrel
    by_cases hlt : k < rs.ps.length
    · obtain ⟨p, hp⟩ : ∃ p, rs.ps[k]? = some p := ⟨_, List.getElem?_eq_getElem hlt⟩
      obtain ⟨g, cap', hve⟩ := HR.out.pos hp
      simp only [Value.slice.injEq] at hve
      obtain ⟨rfl, _, rfl⟩ := hve
      obtain ⟨u, v, hu⟩ := HR.out.get hp
      obtain ⟨d0, d1, d2, d3, d4⟩ := HR.out.cell hu
      obtain ⟨au, cu, hus, _⟩ := own_shape (HR.out.data.vals k _ hu).1
      simp only at hus d0 d1 d2 d3 d4
      subst hus
      have hm : m ≤ k * 4095 := by
        rw [Hm.out]
        have := rused_le (rs.ps.take k) fun q hq => Hv.out q (List.mem_of_mem_take hq)
        rw [List.length_take] at this
        have : (min k rs.ps.length) * 4095 ≤ k * 4095 := Nat.mul_le_mul_right _ (Nat.min_le_left _ _)
        omega
      have hpl := Hv.out p (List.mem_of_getElem? hp)
      have hsn := rused_snoc rs.ps k p hp
      rw [← Hm.out] at hsn
      have Hsn := hidIt hsn
      clear hsn Hm hp hu
      cases hfr : p.freed with
      | true =>
        rw [hfr] at d4
        have hm1 : Hid (m = rused (rs.ps.take (k + 1))) := by show _ = _; rw [Hsn.out]; simp [rlen, hfr]
        clear Hsn hfr
        go_wp2
        go_roundw
        case rel => exact ⟨k + 1, m, by omega, by go_num, rfl, hm1, trivial⟩
        case measure => simp [intOf]; omega
      | false =>
        rw [hfr] at d4
        have hm1 : Hid (m + p.vals.length = rused (rs.ps.take (k + 1))) := by show _ = _; rw [Hsn.out]; simp [rlen, hfr]
        clear Hsn hfr
        go_wp2
        go_roundw
        case rel => exact ⟨k + 1, m + p.vals.length, by omega, by go_num, by go_num, hm1, trivial⟩
        case measure => simp [intOf]; omega
    · obtain rfl : k = rs.ps.length := by omega
      have hm := Hm.out
      rw [List.take_length] at hm
      have Hm2 := hidIt hm
      clear Hm hm
      go_wp2
      go_ret
      have hE : Ending.returned (.int .i64 m) = Ending.returned (.int .i64 (rused rs.ps)) := by rw [Hm2.out]
      exact ⟨hE, rfl⟩

set_option maxRecDepth 100000 in
set_option maxHeartbeats 1000000 in
theorem rlive_any {w : World} {A : Nat} {rs : RS} {fp : Nat → Prop} (h : RRep w A rs fp) (hl : rs.ps.length ≤ 900000) :
    Calls Try.prog 33 #[.pointer (some ⟨A, 0, none⟩)] w fun e w' => e = .returned (.int .i64 (rlive rs.ps)) ∧ w = w' := by
  obtain ⟨vp, vf, es, h⟩ := h
  have c1 := h.cells.2.1
  have HR := hidIt h
  obtain ⟨ao, cap, rfl⟩ := h.shape
  clear h
  go_enter Try.func33, Try.ntmps33
  go_wp2
  go_loopw [3, 4] (fun n i wr => ∃ k m : Nat, k ≤ rs.ps.length ∧ m ≤ k ∧ i = .int .i64 k ∧ n = .int .i64 m ∧ Hid (m = rlive (rs.ps.take k)) ∧ wr = w) (fun _ i _ => rs.ps.length - (intOf i).toNat)
  case atStart => exact ⟨0, 0, Nat.zero_le _, Nat.le_refl _, rfl, rfl, by simp [rlive, Hid], rfl⟩
  case round =>
    obtain ⟨k, m, hk, hmk, rfl, rfl, Hm, rfl⟩ := hrel
    by_cases hlt : k < rs.ps.length
    · obtain ⟨p, hp⟩ : ∃ p, rs.ps[k]? = some p := ⟨_, List.getElem?_eq_getElem hlt⟩
      obtain ⟨g, cap', hve⟩ := HR.out.pos hp
      simp only [Value.slice.injEq] at hve
      obtain ⟨rfl, _, rfl⟩ := hve
      obtain ⟨u, v, hu⟩ := HR.out.get hp
      obtain ⟨d0, d1, d2, d3, d4⟩ := HR.out.cell hu
      simp only at d0 d1 d2 d3 d4
      have hsn := countP_snoc ron rs.ps k p hp
      have hm0 := Hm.out
      unfold rlive at hm0
      rw [← hm0] at hsn
      have Hsn := hidIt hsn
      clear hsn Hm hp hu hm0 d0 d1 d2 d3
      cases hfr : p.freed with
      | true =>
        rw [hfr] at d4
        have hm1 : Hid (m = rlive (rs.ps.take (k + 1))) := by show _ = _; unfold rlive; rw [Hsn.out]; simp [ron, hfr]
        clear Hsn hfr
        go_wp2
        go_roundw
        case rel => exact ⟨k + 1, m, by omega, by omega, by go_num, rfl, hm1, trivial⟩
        case measure => simp [intOf]; omega
      | false =>
        rw [hfr] at d4
        have hm1 : Hid (m + 1 = rlive (rs.ps.take (k + 1))) := by show _ = _; unfold rlive; rw [Hsn.out]; simp [ron, hfr]
        clear Hsn hfr
        go_wp2
        go_roundw
        case rel => exact ⟨k + 1, m + 1, by omega, by omega, by go_num, by go_num, hm1, trivial⟩
        case measure => simp [intOf]; omega
    · obtain rfl : k = rs.ps.length := by omega
      have hm := Hm.out
      rw [List.take_length] at hm
      have Hm2 := hidIt hm
      clear Hm hm
      go_wp2
      go_ret
      have hE : Ending.returned (.int .i64 m) = Ending.returned (.int .i64 (rlive rs.ps)) := by rw [Hm2.out]
      exact ⟨hE, rfl⟩

structure ROk (rs : RS) : Prop where
  len : rs.ps.length ≤ 900000
  next : rs.next ≤ 900000
  free : rs.free.length ≤ 900000
  room : rs.room ≤ 16384
  piece : ∀ p ∈ rs.ps, p.ix < 900000 ∧ p.age < 900000 ∧ 1 ≤ p.vals.length ∧ p.vals.length ≤ 4095 ∧ p.has.length = p.vals.length
theorem Sim.ok {N : Nat} {st : Sl} {rs : RS} (h : Sim N st rs) (hv : Inv st) (hs : Small st N) (hN : N ≤ 900000) : ROk rs where
  len := by have := h.few; omega
  next := by rw [h.next]; have := hs.ents; omega
  free := by rw [h.free]; have := hs.free; omega
  room := by rw [h.room]; exact hv.room
  piece := fun p hp => by
    obtain ⟨k, hk⟩ := List.getElem?_of_mem hp
    obtain ⟨b0, b1, b2, b3, b4, b5⟩ := h.bounds hv hs hk
    exact ⟨by omega, by omega, b3, b4, b5⟩

/-- Where the search is: the pieces ahead of k aren't hit. -/
def Missed (a : Int) (l : List RP) (k : Nat) : Prop := ∀ (j : Nat) (q : RP), j < k → l[j]? = some q → hit a q = false
/-- What find answers. -/
def FindPost (w : World) (a : Int) (l : List RP) (e : Ending) (w' : World) : Prop :=
  Kp (fun _ => False) w w' ∧ ((e = .returned (.tuple #[.int .i64 0, .int .i64 0, .int .i64 12]) ∧ Missed a l l.length) ∨
    ∃ (k : Nat) (p : RP), e = .returned (.tuple #[.int .i64 k, .int .i64 (a - rfirst p), .int .i64 (rcode p)]) ∧ l[k]? = some p ∧ hit a p = true)

set_option maxRecDepth 100000 in
set_option maxHeartbeats 2000000 in
theorem rfind_any {w : World} {A : Nat} {rs : RS} {fp : Nat → Prop} (h : RRep w A rs fp) (hok : ROk rs) (a : Int) (h0 : 0 ≤ a) (h1 : a < 18446744073709551616) :
    Calls Try.prog 47 #[.pointer (some ⟨A, 0, none⟩), .int .u64 a] w fun e w' => FindPost w a rs.ps e w' := by
  obtain ⟨vp, vf, es, h⟩ := h
  have c1 := h.cells.2.1
  have HR := hidIt h
  have Hok := hidIt hok
  have hl := hok.len
  obtain ⟨ao, cap, rfl⟩ := h.shape
  clear h hok
  go_enter Try.func47, Try.ntmps47
  go_wp2
  clear c1
  go_loopw [7] (fun i wr => ∃ k : Nat, k ≤ rs.ps.length ∧ i = .int .i64 k ∧ Hid (Missed a rs.ps k) ∧ Hid (Kp (fun _ => False) w wr)) (fun i _ => rs.ps.length - (intOf i).toNat)
  case atStart => exact ⟨0, Nat.zero_le _, rfl, (fun j q hj => absurd hj (Nat.not_lt_zero _)), Kp.refl _ _⟩
  case round =>
    obtain ⟨k, hk, rfl, Hm, HK⟩ := hrel
    have hRr := HR.out.kp HK.out
    have c1 := hRr.cells.2.1
    by_cases hlt : k < rs.ps.length
    · obtain ⟨p, hp⟩ : ∃ p, rs.ps[k]? = some p := ⟨_, List.getElem?_eq_getElem hlt⟩
      obtain ⟨g, cap', hve⟩ := HR.out.pos hp
      simp only [Value.slice.injEq] at hve
      obtain ⟨rfl, _, rfl⟩ := hve
      obtain ⟨u, v, hu⟩ := HR.out.get hp
      obtain ⟨d0, d1, d2, d3, d4⟩ := hRr.cell hu
      obtain ⟨au, cu, hus, _⟩ := own_shape (HR.out.data.vals k _ hu).1
      simp only at hus d0 d1 d2 d3 d4
      subst hus
      obtain ⟨q1, q2, q3, q4, q5⟩ := Hok.out.piece p (List.mem_of_getElem? hp)
      have Hp := hidIt hp
      have hf0 : 4611686018427387904 ≤ rfirst p := by unfold rfirst mkAddr; omega
      have hf1 : rfirst p ≤ 8611686018427387904 := by unfold rfirst mkAddr; omega
      clear hp hRr
      go_wp2_with fail
      refine (raddr_any p (.slice au p.vals.length cu) v 0 _ (by omega) (by omega) (by omega) (by omega)).mono ?_
      rintro e w' ⟨rfl, hk1⟩
      have HK1 : Hid (Kp (fun _ => False) w w') := HK.out.trans' hk1
      have hR1 := HR.out.kp HK1.out
      have c1' := hR1.cells.2.1
      obtain ⟨e0, e1, e2, e3, e4⟩ := hR1.cell hu
      simp only at e0 e1 e2 e3 e4
      rw [Int.add_zero]
      clear hR1 hk1 HK c1 d0 d1 d2 d3 d4 hu e0 e1 e3
      by_cases ha : a < rfirst p
      · have HM : Hid (Missed a rs.ps (k + 1)) := fun j q hj hq => by
          by_cases hjk : j < k
          · exact Hm.out j q hjk hq
          · obtain rfl : j = k := by omega
            rw [Hp.out] at hq
            simp only [Option.some.injEq] at hq
            subst hq
            unfold hit
            rw [decide_eq_false (by omega)]
            rfl
        clear Hm Hp
        go_wp2
        go_roundw
        case rel => exact ⟨k + 1, by omega, by go_num, HM, HK1⟩
        case measure => simp [intOf]; omega
      · by_cases hb : a < rfirst p + p.vals.length
        · have hhit : Hid (hit a p = true) := by
            show hit a p = true
            unfold hit
            rw [decide_eq_true (by omega), decide_eq_true hb]
            rfl
          cases hfr : p.freed with
          | true =>
            rw [hfr] at e4
            have HF : Hid (FindPost w a rs.ps (.returned (.tuple #[.int .i64 k, .int .i64 (a - rfirst p), .int .i64 14])) w') := ⟨HK1.out, .inr ⟨k, p, by simp [rcode, hfr], Hp.out, hhit.out⟩⟩
            clear Hm Hp HK1 hhit hfr
            go_wp2
            go_ret3
            exact HF.out
          | false =>
            rw [hfr] at e4
            have HF : Hid (FindPost w a rs.ps (.returned (.tuple #[.int .i64 k, .int .i64 (a - rfirst p), .int .i64 0])) w') := ⟨HK1.out, .inr ⟨k, p, by simp [rcode, hfr], Hp.out, hhit.out⟩⟩
            clear Hm Hp HK1 hhit hfr
            go_wp2
            go_ret3
            exact HF.out
        · have HM : Hid (Missed a rs.ps (k + 1)) := fun j q hj hq => by
            by_cases hjk : j < k
            · exact Hm.out j q hjk hq
            · obtain rfl : j = k := by omega
              rw [Hp.out] at hq
              simp only [Option.some.injEq] at hq
              subst hq
              unfold hit
              rw [decide_eq_false hb, Bool.and_false]
          clear Hm Hp
          go_wp2
          go_roundw
          case rel => exact ⟨k + 1, by omega, by go_num, HM, HK1⟩
          case measure => simp [intOf]; omega
    · obtain rfl : k = rs.ps.length := by omega
      have HF : Hid (FindPost w a rs.ps (.returned (.tuple #[.int .i64 0, .int .i64 0, .int .i64 12])) wr) := ⟨HK.out, .inl ⟨rfl, Hm.out⟩⟩
      clear Hm HK hRr
      go_wp2
      go_ret3
      exact HF.out
end Go.Proofs.Ytbjofdijhcdmaaa
