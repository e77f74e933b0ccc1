/-
  SlabRoom answers true, whatever it is given.
-/
import Derived.Test.YtbjofdijhcdmaaaBuilt
import Derived.OpenShut
namespace Go.Proofs.Ytbjofdijhcdmaaa
set_option linter.unusedVariables false
open Go.RowKit

/-- The addresses of the first m pieces. -/
def firsts (m : Nat) : List Int := (List.range m).map fun i => mkAddr 0 i
theorem firsts_succ (m : Nat) : firsts (m + 1) = firsts m ++ [mkAddr 0 m] := by simp [firsts, List.range_succ]
theorem firsts_length (m : Nat) : (firsts m).length = m := by simp [firsts]
theorem firsts_get {m k : Nat} (h : k < m) : (firsts m)[k]? = some (mkAddr 0 k) := by simp [firsts, h]

/-- Where the loop of SlabRoom stands. -/
def RoomAt (w : World) (A R n m : Nat) (lv : Value) (W : World) : Prop :=
  ListSt w A (bSt R (List.replicate m n)) lv (firsts m) W ∧ Inv (bSt R (List.replicate m n)) ∧ Small (bSt R (List.replicate m n)) m ∧ m * n ≤ R

def roomFreed (R n m k : Nat) : Sl := ⟨R, m - 1, m * n - n, ((List.replicate m n).map oneEnt).set k ⟨[n], []⟩, [k]⟩
def roomAgain (R n m k : Nat) : Sl := ⟨R, m - 1 + 1, m * n - n + n, (((List.replicate m n).map oneEnt).set k ⟨[n], []⟩).set k ⟨[n, n], List.replicate n (0, false)⟩, []⟩

theorem room_free {R n m k : Nat} (hk : k < m) (hm : m ≤ 255) (hn1 : 1 ≤ n) (hn2 : n ≤ 20) : mfree (bSt R (List.replicate m n)) (mkAddr 0 k) = (roomFreed R n m k, 0) := by
  have hf := bSt_find (R := R) (l := List.replicate m n) (k := k) (n := n) (p := 0) (by simp [hk]) (by simp; omega) (by omega) (by omega)
  obtain ⟨e1, e2, e3, e4⟩ := mk_parts 0 k 0 (by omega) (by omega)
  simp only [Int.natCast_zero, Int.add_zero] at hf e1 e3
  unfold mfree
  rw [if_neg (by simp [hf]), if_neg (by simp [e3]), e1]
  have he : (bSt R (List.replicate m n)).ents[k]? = some (oneEnt n) := by simp [bSt, hk]
  simp only [he]
  simp [roomFreed, bSt, oneEnt, List.sum_replicate_nat]
theorem room_get1 {R n m k : Nat} (hk : k < m) (hn1 : 1 ≤ n) (hn2 : n ≤ 20) (hR : m * n ≤ R) : mget (roomFreed R n m k) n = (roomAgain R n m k, mkAddr 1 k, 0) := by
  have hmn : n ≤ m * n := Nat.le_mul_of_pos_left n (by omega)
  unfold mget
  rw [if_neg (by omega), if_neg (by simp only [roomFreed]; omega)]
  have et : mtake (roomFreed R n m k) = ({ roomFreed R n m k with free := [] }, k) := by simp [mtake, roomFreed]
  rw [et]
  have hg : (roomFreed R n m k).ents[k]? = some ⟨[n], []⟩ := by simp [roomFreed, hk]
  simp only [Int.toNat_natCast, ageAt, mnew, hg]
  simp [roomFreed, roomAgain]
theorem room_get2 {R n m k : Nat} (hk : k < m) (hn1 : 1 ≤ n) (hn2 : n ≤ 20) (hR : R < m * n + n) : mget (roomAgain R n m k) n = (roomAgain R n m k, 0, 13) := by
  have hmn : n ≤ m * n := Nat.le_mul_of_pos_left n (by omega)
  unfold mget
  rw [if_neg (by omega), if_pos (by simp only [roomAgain]; omega)]
theorem room_m {R n m : Nat} (hn1 : 1 ≤ n) (h1 : m * n ≤ R) (h2 : R < m * n + n) : m = R / n := by
  refine (Nat.div_eq_of_lt_le h1 ?_).symm
  rw [Nat.add_mul]
  omega

theorem RoomAt.got {w : World} {A R n m : Nat} {lv : Value} {W : World} (h : RoomAt w A R n m lv W) (hn1 : 1 ≤ n) (hn2 : n ≤ 20) (hm : m ≤ 255) (hR : m * n + n ≤ R) :
    Calls Try.prog 15 #[.pointer (some ⟨A, 0, none⟩), .int .i64 n] W fun e w' => e = .returned (.tuple #[.int .u64 (mkAddr 0 m), .int .i64 0]) ∧ ListSt w A (bSt R (List.replicate (m + 1) n)) lv (firsts m) w' := by
  have hsum : (List.replicate m n).sum = m * n := List.sum_replicate_nat
  have hc := h.1.did (fun fp hR => get_any hR h.2.1 (h.2.2.1.mono (by omega)) n)
  rw [bSt_get hn1 (by omega) (by omega)] at hc
  simp only [List.length_replicate, ← List.replicate_succ'] at hc
  exact hc
theorem RoomAt.full {w : World} {A R n m : Nat} {lv : Value} {W : World} (h : RoomAt w A R n m lv W) (hn1 : 1 ≤ n) (hn2 : n ≤ 20) (hm : m ≤ 255) (hR : R < m * n + n) :
    Calls Try.prog 15 #[.pointer (some ⟨A, 0, none⟩), .int .i64 n] W fun e w' => e = .returned (.tuple #[.int .u64 0, .int .i64 13]) ∧ RoomAt w A R n m lv w' := by
  have hsum : (List.replicate m n).sum = m * n := List.sum_replicate_nat
  have hc := h.1.did (fun fp hR => get_any hR h.2.1 (h.2.2.1.mono (by omega)) n)
  rw [bSt_full hn1 (by omega) (by omega)] at hc
  exact hc.mono fun e w' ⟨h1, h2⟩ => ⟨h1, h2, h.2⟩
theorem RoomAt.next {w : World} {A R n m : Nat} {lv lv' : Value} {W W' : World} (h : RoomAt w A R n m lv W) (hn1 : 1 ≤ n) (hn2 : n ≤ 20) (hR : m * n + n ≤ R) (hl : ListSt w A (bSt R (List.replicate (m + 1) n)) lv' (firsts (m + 1)) W') : RoomAt w A R n (m + 1) lv' W' := by
  have hsum : (List.replicate m n).sum = m * n := List.sum_replicate_nat
  have := bSt_keep (R := R) (l := List.replicate m n) hn1 (by omega) (by omega) h.2.1 (by simpa using h.2.2.1)
  rw [← List.replicate_succ'] at this
  exact ⟨hl, this.1, by simpa using this.2, by rw [Nat.add_mul]; omega⟩

set_option maxRecDepth 100000 in
set_option maxHeartbeats 2000000 in
theorem room_walk (a0 a1 a2 : Int) (w0 : (Lit.int .u8 a0).wf = true) (w1 : (Lit.int .u8 a1).wf = true) (w2 : (Lit.int .u8 a2).wf = true) (w : World) :
    Calls Try.prog 6 #[.int .u8 a0, .int .u8 a1, .int .u8 a2] w fun e w' => e = .returned (.bool true) ∧ Below w.heap.size w w' := by
  obtain ⟨h00, h01⟩ : 0 ≤ a0 ∧ a0 ≤ 255 := bounds_u8 w0
  obtain ⟨h10, h11⟩ : 0 ≤ a1 ∧ a1 ≤ 255 := bounds_u8 w1
  obtain ⟨h20, h21⟩ : 0 ≤ a2 ∧ a2 ≤ 255 := bounds_u8 w2
  clear w0 w1 w2
  obtain ⟨R, rfl⟩ : ∃ R : Nat, a0 = R := ⟨a0.toNat, by omega⟩
  obtain ⟨n, hn⟩ : ∃ n : Nat, a1 % 20 + 1 = n := ⟨(a1 % 20 + 1).toNat, by omega⟩
  go_enter Try.func6, Try.ntmps6
  go_wp2_with fail
  refine (alive_any _).mono ?_
  rintro e w1 ⟨rfl, hB1⟩
  have HB1 := hidIt hB1
  clear hB1
  go_wp2_with fail
  refine (new_any R _ (by omega)).mono ?_
  rintro e w2 ⟨rfl, hR, hk⟩
  have hst : RoomAt w w1.heap.size R n 0 (.slice (some ⟨w2.heap.size, 0, none⟩) 0 0) (w2.alloc (.cells #[] 45)) :=
    ⟨ListSt.start HB1.out hR hk, newSl_inv R (by omega), newSl_small R, by omega⟩
  have Hst := hidIt hst
  clear hst hR hk HB1
  go_wp2
  have hn1 : 1 ≤ n := by omega
  have hn2 : n ≤ 20 := by omega
  go_loopw [10] (fun lv wr => ∃ (m : Nat) (ao : Option Addr) (cap : Nat), lv = .slice ao m cap ∧ m ≤ 255 ∧ Hid (RoomAt w w1.heap.size R n m (.slice ao m cap) wr)) (fun lv _ => 256 - lenV lv)
  case atStart => exact ⟨0, _, _, rfl, by omega, Hst.out⟩
  case round =>
    clear Hst
    obtain ⟨m, ao, cap, rfl, hm, hrm⟩ := hrel
    by_cases hfit : m * n + n ≤ R
    · have hm2 : m + 1 ≤ 255 := by
        have h1 : m * 1 ≤ m * n := Nat.mul_le_mul_left m hn1
        omega
      go_wp2_with fail
      refine (hrm.out.got hn1 hn2 hm hfit).mono ?_
      rintro e w3 ⟨rfl, hL⟩
      have HL := hidIt hL
      have hrow := hidIt hL.row
      clear hL
      obtain ⟨i0, hi, hz0, hz1, hz2⟩ := info_parts Try.info45
      go_wp2_with (at_builtin; go_must (refine wpList_append_lies _ rfl _ _ 44 rfl w.heap.size 45 i0 _ 1 8 Try.underlying44 hi hz0 hz1 hz2 rfl (by decide) _ _ _ rfl (by have := hrow.out; rw [firsts_length] at this; exact this.alloc _) ⟨w3.heap.size, 0, none⟩ 1 1 [.int .u64 (mkAddr 0 m)] rfl rfl (cell_one_new _ _ _) (by simp [Value.oneCell']) (by decide) (by unfold maxLen; omega) (by omega) (by have := HL.out.below.size; simp; omega) (w3.heap.size + 1) (by simp) ?_))
      clear hi hz0 hz1 hz2
      intro g c w4 ho hg hfr hgl
      have hx := firsts_length m
      have hp := HL.out.push (g := g) (cap := c) (x := mkAddr 0 m) (by rw [hx]; exact ho) hg hfr hgl
      rw [hx, ← firsts_succ] at hp
      have Hn := hidIt (hrm.out.next hn1 hn2 hfit hp)
      clear ho hg hfr hgl hx hp HL hrow hrm
      go_wp2
      go_roundw
      case rel => exact ⟨m + 1, _, _, rfl, hm2, Hn⟩
      case measure => simp [lenV]; omega
    · go_wp2_with fail
      refine (hrm.out.full hn1 hn2 hm (by omega)).mono ?_
      rintro e w3 ⟨rfl, hrm3⟩
      have Hrm3 := hidIt hrm3
      have hme := room_m hn1 hrm3.2.2.2 (by omega : R < m * n + n)
      have hmR : m * n ≤ R := hrm3.2.2.2
      have hmd : (m : Int) = (R : Int) / n := by rw [hme]; simp
      have Hmd := hidIt hmd
      clear hrm hrm3 hme hmd
      have hwd : wrap64 ((R : Int) / (n : Int)) = (m : Int) := by
        rw [← Hmd.out]
        exact IntWalk.wrap64_in _ (by omega)
      obtain ⟨fp3, hR3⟩ := Hrm3.out.1.rep
      have HR3 := hidIt hR3
      clear hR3
      have hused : Calls Try.prog 22 #[.pointer (some ⟨w1.heap.size, 0, none⟩)] w3 fun e w' => e = .returned (.int .i64 ((m : Int) * n)) ∧ w3 = w' := by
        have := used_any HR3.out
        rw [show ((bSt R (List.replicate m n)).used : Int) = (m : Int) * n from by simp [bSt, List.sum_replicate_nat]] at this
        exact this
      have HU := hidIt hused
      have hmRi : (m : Int) * n ≤ 255 := by
        have : ((m * n : Nat) : Int) ≤ 255 := by omega
        simpa using this
      have hmRi0 : 0 ≤ (m : Int) * n := by
        have : 0 ≤ ((m * n : Nat) : Int) := by omega
        simpa using this
      have hwm : wrap64 ((m : Int) * (n : Int)) = (m : Int) * n := IntWalk.wrap64_in _ (by omega)
      clear hused HR3 fp3
      by_cases hm0 : m = 0
      · subst hm0
        go_wp2_with (go_at_call 22; refine HU.out.mono ?_; rintro e w' ⟨rfl, rfl⟩)
        go_ret
        exact ⟨rfl, Hrm3.out.1.below⟩
      · have hmp : 0 < m := by omega
        go_wp2_with fail
        refine HU.out.mono ?_
        rintro e w' ⟨rfl, rfl⟩
        clear HU
        have hrow := Hrm3.out.1.row
        rw [firsts_length] at hrow
        obtain ⟨g, c, hv, _⟩ := own_pos hrow hmp
        simp only [Value.slice.injEq] at hv
        obtain ⟨rfl, hbad, rfl⟩ := hv
        clear hbad hrow
        have hkk0 : 0 ≤ a2 % (m : Int) := Int.emod_nonneg _ (by omega)
        have hkk1 : a2 % (m : Int) < m := Int.emod_lt_of_pos _ (by omega)
        obtain ⟨k, hk⟩ : ∃ k : Nat, a2 % (m : Int) = k := ⟨(a2 % (m : Int)).toNat, by omega⟩
        have hkm : k < m := by omega
        have hcell := Hrm3.out.1.cell (firsts_get hkm)
        have hX0 : 0 ≤ mkAddr 0 k := by unfold mkAddr; omega
        have hX1 : mkAddr 0 k ≤ 4611686018430000000 := by unfold mkAddr; omega
        have hfree := Hrm3.out.1.did (fun fp hR => free_any hR Hrm3.out.2.1 (Hrm3.out.2.2.1.mono (by omega)) (mkAddr 0 k) (by omega) (by omega))
        rw [room_free hkm hm hn1 hn2] at hfree
        have hi2 := mfree_keep Hrm3.out.2.1 Hrm3.out.2.2.1 (mkAddr 0 k)
        rw [room_free hkm hm hn1 hn2] at hi2
        have hi3 := mget_keep hi2.1 hi2.2 n
        rw [room_get1 hkm hn1 hn2 hmR] at hi3
        have e1 : mkAddr 1 k = mkAddr 0 k + 4294967296 := by unfold mkAddr; omega
        have Hi2 := hidIt hi2
        have Hi3 := hidIt hi3
        have Hfree := hidIt hfree
        have He1 := hidIt e1
        clear hi2 hi3 hfree e1
        go_wp2_with fail
        refine Hfree.out.mono ?_
        rintro e w4 ⟨rfl, hL4⟩
        have hget1 := hL4.did (fun fp hR => get_any hR Hi2.out.1 (Hi2.out.2.mono (by omega)) n)
        rw [room_get1 hkm hn1 hn2 hmR, He1.out] at hget1
        have Hget1 := hidIt hget1
        clear hget1 hL4 Hfree hcell
        go_wp2_with fail
        refine Hget1.out.mono ?_
        rintro e w5 ⟨rfl, hL5⟩
        have hget2 := hL5.did (fun fp hR => get_any hR Hi3.out.1 (Hi3.out.2.mono (by omega)) n)
        rw [room_get2 hkm hn1 hn2 (by omega)] at hget2
        have Hget2 := hidIt hget2
        clear hget2 hL5 Hget1
        go_wp2_with fail
        refine Hget2.out.mono ?_
        rintro e w6 ⟨rfl, hL6⟩
        have hcell6 := hL6.cell (firsts_get hkm)
        have HL6 := hidIt hL6
        have hne : ((mkAddr 0 k + 4294967296 : Int) != mkAddr 0 k) = true := by rw [bne_iff_ne]; omega
        clear hL6 Hget2 Hi2 Hi3 He1
        generalize mkAddr 0 k = X at hcell6 hX0 hX1 hne ⊢
        go_wp2
        go_ret
        exact ⟨by simp, HL6.out.below⟩
end Go.Proofs.Ytbjofdijhcdmaaa
