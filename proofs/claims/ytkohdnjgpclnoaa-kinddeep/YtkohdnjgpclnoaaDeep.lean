/-
  The walk of KindDeep.
-/
import Derived.Test.YtkohdnjgpclnoaaBx
namespace Go.Proofs.Ytkohdnjgpclnoaa
set_option linter.unusedVariables false
open Go.RowKit

set_option maxHeartbeats 1000000 in
theorem deeps_long (s : ByteArray) (hm : s.size ≤ maxLen) (hs : 300 < s.size) (w : World) :
    Calls Try.prog 5 #[.string s] w fun e w' => e = .returned (.bool true) ∧ Below w.heap.size w w' := by
  have c0 := alive_any
  have hs' : (300 : Int) < (s.size : Int) := by omega
  unfold maxLen at hm
  go_enter Try.func5, Try.ntmps5
  go_wp2_with (go_at_call 7; refine (c0 _).mono ?_)
  rintro e w0 ⟨rfl, h0⟩
  have h0 := hidIt h0
  go_wp2
  go_ret
  exact ⟨rfl, h0.out⟩

set_option maxHeartbeats 1000000 in
theorem deeps_none (s : ByteArray) (hs : s.size ≤ 300) (h : kindL s.data.toList = 0) (w : World) :
    Calls Try.prog 5 #[.string s] w fun e w' => e = .returned (.bool true) ∧ Below w.heap.size w w' := by
  have c0 := alive_any
  have c1 := kind_any s (by omega)
  have c2 := base_any s (by omega)
  have c3 := deep_any s (by omega)
  have c4 := plain_any s (by omega)
  have hz := kind_zero h
  have e1 : isPlain s.data.toList = false := by unfold isPlain; rw [h]; rfl
  rw [h] at c1
  rw [e1] at c4
  unfold baseL at c2
  unfold deepL at c3
  rw [hz] at c2 c3
  simp only [noParts] at c2 c3
  have hs' : (s.size : Int) ≤ 300 := by omega
  have hb : bs [] = ⟨#[]⟩ := rfl
  rw [hb, show (!([] : List UInt8).isEmpty) = false from rfl] at c2
  clear h hz e1 hb
  go_enter Try.func5, Try.ntmps5
  go_wp2_with (first | (go_at_call 7; refine (c0 _).mono ?_; rintro e w0 ⟨rfl, h0⟩; have h0 := hidIt h0) | (go_at_call 13; refine (c1 _).mono ?_; rintro e w1 ⟨rfl, h1⟩; have h1 := hidIt h1) | (go_at_call 11; refine (c2 _).mono ?_; rintro e w2 ⟨rfl, h2⟩; have h2 := hidIt h2) | (go_at_call 16; refine (c3 _).mono ?_; rintro e w3 ⟨rfl, h3⟩; have h3 := hidIt h3) | (go_at_call 15; refine (c4 _).mono ?_; rintro e w4 ⟨rfl, h4⟩; have h4 := hidIt h4))
  go_ret
  exact ⟨rfl, below_next (below_next (below_next (below_next h0.out h1.out) h2.out) h3.out) h4.out⟩

set_option maxHeartbeats 4000000 in
theorem deeps_some (s : ByteArray) (hs : s.size ≤ 300) (h : kindL s.data.toList ≠ 0) (w : World) :
    Calls Try.prog 5 #[.string s] w fun e w' => e = .returned (.bool true) ∧ Below w.heap.size w w' := by
  have c0 := alive_any
  have c1 := kind_any s (by omega)
  have c2 := base_any s (by omega)
  have c3 := deep_any s (by omega)
  have c4 := plain_any s (by omega)
  have T := typeOf h
  have hlen := (split_len s.data.toList).2.1
  rw [← size_list] at hlen
  have hlen : (baseL s.data.toList).length ≤ 300 := Nat.le_trans hlen hs
  have hleaf := T.leaf
  have hdeep := T.deep
  have hsome := T.some
  have hk0 : ((kindL s.data.toList : Int) == 0) = false := by simp; omega
  rw [leaf_ne hleaf] at c2
  clear T h
  generalize kindL s.data.toList = K at c1 hsome hk0
  generalize baseL s.data.toList = b at c2 hlen hleaf hsome
  generalize deepL s.data.toList = D at c3 hdeep hsome
  have c5 := kind_any (bs b) (by rw [bs_size]; omega)
  rw [bs_list] at c5
  have hkb := leaf_kind hleaf
  generalize kindL b = KB at c5 hkb
  have cb : Hid (∀ k : Nat, k < D → ∀ w, Calls Try.prog 18 #[.string (bs (bx k b))] w fun e w' => e = .returned (.tuple #[.string (bs (bx (k + 1) b)), .bool true]) ∧ Below w.heap.size w w') := hidIt fun k hk w => by
    have := box_any (bs (bx k b)) (by rw [bs_size, bx_len]; omega) w
    rw [bs_list, boxable_plain (plain_bx k b hleaf (by omega)), decide_eq_true (by omega)] at this
    exact this
  have hsz : (bs (bx D b)).size ≤ 100000000 := by rw [bs_size, bx_len]; omega
  have hpl : isPlain (bx D b) = true := by rw [plain_kind, plain_bx D b hleaf hdeep]; rfl
  have c6 := plain_any (bs (bx D b)) hsz
  have c7 := ref_any (bs (bx D b)) hsz
  have c8 := mut_any (bs (bx D b)) hsz
  unfold madeV at c7 c8
  rw [bs_list, hpl] at c6 c7 c8
  rw [if_pos rfl] at c7 c8
  have hst : Hid (bs b = bs (bx 0 b)) := hidIt rfl
  have hs' : (s.size : Int) ≤ 300 := by omega
  have hD : (D : Int) ≤ 8 := by omega
  have C6 := hidIt c6
  have C7 := hidIt c7
  have C8 := hidIt c8
  have HS := hidIt hsome
  clear hlen hleaf hpl hsz c6 c7 c8 hsome
  have hb := hidIt (Below.refl w.heap.size w)
  rcases hkb with rfl | rfl
  all_goals
    go_enter Try.func5, Try.ntmps5
    go_wp2_with (go_at_call 7; refine (c0 _).mono ?_)
    rintro e w0 ⟨rfl, hq⟩
    have hb := hidIt (below_next hb.out hq)
    clear hq c0
    go_wp2_with (go_at_call 13; refine (c1 _).mono ?_)
    rintro e w1 ⟨rfl, hq⟩
    have hb := hidIt (below_next hb.out hq)
    clear hq c1
    go_wp2_with (first | (go_at_call 11; refine (c2 _).mono ?_; rintro e w' ⟨rfl, hq⟩; have hb := hidIt (below_next hb.out hq); clear hq) | (go_at_call 13; refine (c5 _).mono ?_; rintro e w' ⟨rfl, hq⟩; have hb := hidIt (below_next hb.out hq); clear hq) | (go_at_call 16; refine (c3 _).mono ?_; rintro e w' ⟨rfl, hq⟩; have hb := hidIt (below_next hb.out hq); clear hq))
    clear c5 c2
    rename_i wl _
    go_loopw [4, 5, 6] (fun sv ok i wr => ∃ k : Nat, k ≤ D ∧ i = .int .i64 k ∧ sv = .string (bs (bx k b)) ∧ ok = .bool true ∧ Hid (Below w.heap.size w wr)) (fun _ _ i _ => D - (intOf i).toNat)
    case atStart => exact ⟨0, Nat.zero_le _, rfl, by rw [hst.out], rfl, hb⟩
    case round =>
      clear hst hb
      obtain ⟨k, hk, rfl, rfl, rfl, hb⟩ := hrel
      by_cases hlt : k < D
      · have hlt' : (k : Int) < (D : Int) := by omega
        have cc := cb.out k hlt
        go_wp2_with (first | (go_at_call 16; refine (c3 _).mono ?_; rintro e w' ⟨rfl, hq⟩; have hb := hidIt (below_next hb.out hq); clear hq) | (go_at_call 18; refine (cc _).mono ?_; rintro e w' ⟨rfl, hq⟩; have hb := hidIt (below_next hb.out hq); clear hq))
        go_roundw
        case rel => exact ⟨k + 1, by omega, by go_num, rfl, rfl, hb⟩
        case measure => simp [intOf]; omega
      · obtain rfl : k = D := by omega
        have c6 := C6.out
        go_wp2_with (first | (go_at_call 16; refine (c3 _).mono ?_; rintro e w' ⟨rfl, hq⟩; have hb := hidIt (below_next hb.out hq); clear hq) | (go_at_call 15; refine (c6 _).mono ?_))
        rintro e w2 ⟨rfl, hq⟩
        have hb := hidIt (below_next hb.out hq)
        clear hq c6 cb c3
        rcases HS.out with ⟨e1, e2, e3⟩ | ⟨e1, e2, rfl⟩ | ⟨e1, e2, rfl⟩
        · rw [e2] at c4
          have g1 : (K : Int) < 4 := by omega
          have g2 : ((K : Int) == 4) = false := by simp; omega
          have g3 : ((K : Int) == 5) = false := by simp; omega
          have ee : ((bs (bx k b)).toList == s.toList) = true := by rw [bs_toList, ByteArray.toList_eq, ← e1]; simp
          clear e1 e2 e3 HS C6 C7 C8
          go_wp2_with (first | (go_at_call 15; refine (c4 _).mono ?_; rintro e w' ⟨rfl, hq⟩; have hb := hidIt (below_next hb.out hq); clear hq))
          go_ret
          exact ⟨rfl, hb.out⟩
        · rw [e2] at c4
          have cm := C7.out
          have ee : ((bs (refP ++ bx k b)).toList == s.toList) = true := by rw [bs_toList, ByteArray.toList_eq, ← e1]; simp
          clear e1 e2 HS C6 C7 C8
          go_wp2_with (first | (go_at_call 15; refine (c4 _).mono ?_; rintro e w' ⟨rfl, hq⟩; have hb := hidIt (below_next hb.out hq); clear hq) | (go_at_call 19; refine (cm _).mono ?_; rintro e w' ⟨rfl, hq⟩; have hb := hidIt (below_next hb.out hq); clear hq))
          go_ret
          exact ⟨rfl, hb.out⟩
        · rw [e2] at c4
          have cm := C8.out
          have ee : ((bs (mutP ++ bx k b)).toList == s.toList) = true := by rw [bs_toList, ByteArray.toList_eq, ← e1]; simp
          clear e1 e2 HS C6 C7 C8
          go_wp2_with (first | (go_at_call 15; refine (c4 _).mono ?_; rintro e w' ⟨rfl, hq⟩; have hb := hidIt (below_next hb.out hq); clear hq) | (go_at_call 20; refine (cm _).mono ?_; rintro e w' ⟨rfl, hq⟩; have hb := hidIt (below_next hb.out hq); clear hq))
          go_ret
          exact ⟨rfl, hb.out⟩

theorem deeps_walk (s : ByteArray) (hs : s.size ≤ maxLen) (w : World) :
    Calls Try.prog 5 #[.string s] w fun e w' => e = .returned (.bool true) ∧ Below w.heap.size w w' := by
  by_cases h : 300 < s.size
  · exact deeps_long s hs h w
  · by_cases hk : kindL s.data.toList = 0
    · exact deeps_none s (by omega) hk w
    · exact deeps_some s (by omega) hk w
end Go.Proofs.Ytkohdnjgpclnoaa
