/-
  The walks of the document's Elem, Deep, Base, and of KindTexts.
-/
import Derived.Test.YtkohdnjgpclnoaaRKind2
namespace Go.Proofs.Ytkohdnjgpclnoaa
set_option linter.unusedVariables false
open Go.RowKit

theorem unbox_more : ∀ (n : Nat) (l : List UInt8), leafL (unboxL n l).2 ≠ 0 → unboxL (n + 1) l = unboxL n l
  | 0, l, h => by
    have hl : leafL l ≠ 0 := h
    rw [unbox_no (leaf_pre hl (.inl rfl)), unboxL]
  | n + 1, l, h => by
    rw [unboxL] at h
    conv => lhs; rw [unboxL]
    conv => rhs; rw [unboxL]
    split
    · rename_i hp
      rw [if_pos hp] at h
      rw [unbox_more n _ h]
    · rfl
/-- What stands behind a box, a ref or a mut. -/
structure Under (l : List UInt8) : Prop where
  len : 4 ≤ l.length
  elem : elemL l = l.drop 4
  ne : elemL l ≠ []
  kind : kindL (l.drop 4) ≠ 0
  base : baseL (l.drop 4) = baseL l
theorem plain_base {l : List UInt8} {k : Nat} (h : plainL l = some k) : baseL l = endL l ∧ kindL l ≠ 0 := by
  have hk := kind_plain h
  unfold baseL
  rcases ways l with hl | ⟨r, rfl⟩ | ⟨r, rfl⟩ | ⟨r, rfl⟩ | ⟨h0, h1, h2, h3⟩
  · rw [if_neg hl] at hk
    refine ⟨?_, by rw [hk]; exact hl⟩
    rw [split_leaf hl]
    unfold endL
    rw [unbox_no (leaf_pre hl (.inl rfl))]
  · rw [leaf_box, if_pos rfl] at hk
    refine ⟨?_, by rw [hk]; decide⟩
    rw [split_box, if_neg (by rw [h]; simp)]
  · rw [plainL_ref] at h; cases h
  · rw [plainL_mut] at h; cases h
  · rw [plainL_none h1 h0] at h; cases h
theorem under {l : List UInt8} (h : 3 ≤ kindL l) : Under l := by
  rcases ways l with hl | ⟨r, rfl⟩ | ⟨r, rfl⟩ | ⟨r, rfl⟩ | ⟨h0, h1, h2, h3⟩
  · exfalso
    have := leaf_two l
    unfold kindL at h
    rw [split_leaf hl] at h
    have h' : 3 ≤ leafL l := h
    omega
  · have hs := split_box r
    cases hp : plainL (boxP ++ r) with
    | none => exfalso; unfold kindL at h; rw [hs, if_pos hp] at h; exact absurd h (by decide)
    | some k =>
      rw [if_neg (by rw [hp]; simp)] at hs
      have hr : ∃ j, plainL r = some j := by
        rw [plainL_box] at hp
        cases hq : plainL r with
        | none => rw [hq] at hp; cases hp
        | some j => exact ⟨j, rfl⟩
      obtain ⟨j, hj⟩ := hr
      have hb := plain_base hj
      have e : elemL (boxP ++ r) = r := by unfold elemL; rw [hs]
      refine ⟨by rw [List.length_append]; simp only [boxP, List.length_cons, List.length_nil]; omega, by rw [e, drop4 rfl], by rw [e]; rintro rfl; rw [plainL_nil] at hj; exact (nomatch hj), by rw [drop4 rfl]; exact hb.2, ?_⟩
      rw [drop4 rfl, hb.1]
      unfold baseL
      rw [hs]
      show endL r = endL (boxP ++ r)
      unfold endL
      have h2 := (plain_some hp).2
      rw [unbox_app 7 r] at h2 ⊢
      have h3 : (unboxL (7 + 1) r).2 = (unboxL 7 r).2 := congrArg Prod.snd (unbox_more 7 r h2)
      exact h3
  · have hs := split_ref r
    cases hp : plainL r with
    | none => exfalso; unfold kindL at h; rw [hs, if_pos hp] at h; exact absurd h (by decide)
    | some k =>
      rw [if_neg (by rw [hp]; simp)] at hs
      have hb := plain_base hp
      have e : elemL (refP ++ r) = r := by unfold elemL; rw [hs]
      refine ⟨by rw [List.length_append]; simp only [refP, List.length_cons, List.length_nil]; omega, by rw [e, drop4 rfl], by rw [e]; rintro rfl; rw [plainL_nil] at hp; exact (nomatch hp), by rw [drop4 rfl]; exact hb.2, ?_⟩
      rw [drop4 rfl, hb.1]
      unfold baseL
      rw [hs]
  · have hs := split_mut r
    cases hp : plainL r with
    | none => exfalso; unfold kindL at h; rw [hs, if_pos hp] at h; exact absurd h (by decide)
    | some k =>
      rw [if_neg (by rw [hp]; simp)] at hs
      have hb := plain_base hp
      have e : elemL (mutP ++ r) = r := by unfold elemL; rw [hs]
      refine ⟨by rw [List.length_append]; simp only [mutP, List.length_cons, List.length_nil]; omega, by rw [e, drop4 rfl], by rw [e]; rintro rfl; rw [plainL_nil] at hp; exact (nomatch hp), by rw [drop4 rfl]; exact hb.2, ?_⟩
      rw [drop4 rfl, hb.1]
      unfold baseL
      rw [hs]
  · exfalso
    unfold kindL at h
    rw [split_none h0 h1 h2 h3] at h
    exact absurd h (by decide)
/-- A leaf, or nothing. -/
theorem over {l : List UInt8} (h : kindL l < 3) : elemL l = [] ∧ (kindL l ≠ 0 → baseL l = l ∧ l ≠ []) := by
  unfold kindL elemL baseL at *
  rcases ways l with hl | ⟨r, rfl⟩ | ⟨r, rfl⟩ | ⟨r, rfl⟩ | ⟨h0, h1, h2, h3⟩
  · rw [split_leaf hl]
    refine ⟨rfl, fun _ => ⟨rfl, ?_⟩⟩
    rintro rfl
    exact hl leaf_nil
  · rw [split_box] at h ⊢
    split
    · exact ⟨rfl, fun hh => absurd rfl hh⟩
    · rename_i hp; rw [if_neg hp] at h; exact absurd h (by decide : ¬ (3 : Nat) < 3)
  · rw [split_ref] at h ⊢
    split
    · exact ⟨rfl, fun hh => absurd rfl hh⟩
    · rename_i hp; rw [if_neg hp] at h; exact absurd h (by decide : ¬ (4 : Nat) < 3)
  · rw [split_mut] at h ⊢
    split
    · exact ⟨rfl, fun hh => absurd rfl hh⟩
    · rename_i hp; rw [if_neg hp] at h; exact absurd h (by decide : ¬ (5 : Nat) < 3)
  · rw [split_none h0 h1 h2 h3]
    exact ⟨rfl, fun hh => absurd rfl hh⟩
/-- How deep it is. -/
theorem deep_of (l : List UInt8) : deepL l = (if 3 < kindL l then plainL (l.drop 4) else plainL l).getD 0 := by
  have H : ∀ {q : List UInt8}, plainL q ≠ none → (unboxL 8 q).1 = (plainL q).getD 0 := by
    intro q hq
    cases hp : plainL q with
    | none => exact absurd hp hq
    | some k => exact (plain_some hp).1
  unfold kindL deepL
  rcases ways l with hl | ⟨r, rfl⟩ | ⟨r, rfl⟩ | ⟨r, rfl⟩ | ⟨h0, h1, h2, h3⟩
  · have := leaf_two l
    rw [split_leaf hl, plainL_leaf hl, if_neg (by show ¬ 3 < leafL l; omega)]
    rfl
  · rw [split_box]
    split
    · rename_i hp; rw [if_neg (by decide), hp]; rfl
    · rename_i hp; rw [if_neg (by show ¬ 3 < 3; decide)]; exact H hp
  · rw [split_ref]
    split
    · rw [if_neg (by decide), plainL_ref]; rfl
    · rename_i hp; rw [if_pos (by show 3 < 4; decide), drop4 rfl]; exact H hp
  · rw [split_mut]
    split
    · rw [if_neg (by decide), plainL_mut]; rfl
    · rename_i hp; rw [if_pos (by show 3 < 5; decide), drop4 rfl]; exact H hp
  · rw [split_none h0 h1 h2 h3, plainL_none h1 h0]
    rfl

set_option maxHeartbeats 1000000 in
theorem relem_any (s : ByteArray) (hs : s.size ≤ 1000) (w : World) :
    Calls Try.prog 10 #[.string s] w fun e w' => e = .returned (.tuple #[.string (bs (elemL s.data.toList)), .bool (!(elemL s.data.toList).isEmpty)]) ∧ Below w.heap.size w w' := by
  have c1 := rkind_any s hs
  have hb := hidIt (Below.refl w.heap.size w)
  by_cases h : 3 ≤ kindL s.data.toList
  · have U := under h
    have h4 : 4 ≤ s.size := by have := U.len; rw [← size_list] at this; exact this
    have hK : (3 : Int) ≤ (kindL s.data.toList : Int) := by omega
    have he : (!(elemL s.data.toList).isEmpty) = true := by
      have := U.ne
      cases hq : elemL s.data.toList with
      | nil => exact absurd hq this
      | cons b l => rfl
    rw [he, U.elem]
    have e3 : Hid (s.extract 4 s.size = bs (s.data.toList.drop 4)) := hidIt (bs_drop s 4)
    generalize kindL s.data.toList = K at c1 hK
    clear he U h
    go_enter Try.func10, Try.ntmps10
    go_wp2_with (first | (go_at_call 14; refine (c1 _).mono ?_; rintro e w' ⟨rfl, hq⟩; have hb := hidIt (below_next hb.out hq); clear hq))
    (try simp only [Exit.inBlock, Exit.then])
    refine bodyPost_ret (by simp [results, Try.results10, go_sem]; try rfl) rfl ?_
    exact ⟨by rw [e3.out], hb.out⟩
  · have O := over (l := s.data.toList) (by omega)
    have hK : (kindL s.data.toList : Int) < 3 := by omega
    rw [O.1]
    generalize kindL s.data.toList = K at c1 hK
    clear O h
    go_enter Try.func10, Try.ntmps10
    go_wp2_with (first | (go_at_call 14; refine (c1 _).mono ?_; rintro e w' ⟨rfl, hq⟩; have hb := hidIt (below_next hb.out hq); clear hq))
    (try simp only [Exit.inBlock, Exit.then])
    refine bodyPost_ret (by simp [results, Try.results10, go_sem]; try rfl) rfl ?_
    exact ⟨rfl, hb.out⟩

set_option maxHeartbeats 1000000 in
theorem rdeep_any (s : ByteArray) (hs : s.size ≤ 1000) (w : World) :
    Calls Try.prog 17 #[.string s] w fun e w' => e = .returned (.int .i64 (deepL s.data.toList : Nat)) ∧ Below w.heap.size w w' := by
  have c1 := rkind_any s hs
  have hb := hidIt (Below.refl w.heap.size w)
  rw [deep_of]
  by_cases h : 3 < kindL s.data.toList
  · have U := under (l := s.data.toList) (by omega)
    have h4 : 4 ≤ s.size := by have := U.len; rw [← size_list] at this; exact this
    have hK : (3 : Int) < (kindL s.data.toList : Int) := by omega
    rw [if_pos h]
    have c2 := rplain_any 1000 (s.extract 4 s.size) (by rw [ByteArray.size_extract]; omega) (by decide)
    rw [extract_drop] at c2
    unfold plainV at c2
    generalize (plainL (s.data.toList.drop 4)).getD 0 = d at c2 ⊢
    generalize (plainL (s.data.toList.drop 4)).isSome = i at c2
    generalize kindL s.data.toList = K at c1 hK
    clear U h
    go_enter Try.func17, Try.ntmps17
    go_wp2_with (first | (go_at_call 14; refine (c1 _).mono ?_; rintro e w' ⟨rfl, hq⟩; have hb := hidIt (below_next hb.out hq); clear hq) | (go_at_call 8; refine (c2 _).mono ?_; rintro e w' ⟨rfl, hq⟩; have hb := hidIt (below_next hb.out hq); clear hq))
    go_ret
    exact ⟨rfl, hb.out⟩
  · have hK : (kindL s.data.toList : Int) ≤ 3 := by omega
    rw [if_neg h]
    have c2 := rplain_any 1000 s (by omega) (by decide)
    unfold plainV at c2
    generalize (plainL s.data.toList).getD 0 = d at c2 ⊢
    generalize (plainL s.data.toList).isSome = i at c2
    generalize kindL s.data.toList = K at c1 hK
    clear h
    go_enter Try.func17, Try.ntmps17
    go_wp2_with (first | (go_at_call 14; refine (c1 _).mono ?_; rintro e w' ⟨rfl, hq⟩; have hb := hidIt (below_next hb.out hq); clear hq) | (go_at_call 8; refine (c2 _).mono ?_; rintro e w' ⟨rfl, hq⟩; have hb := hidIt (below_next hb.out hq); clear hq))
    go_ret
    exact ⟨rfl, hb.out⟩

def strLen : Value → Nat
  | .string u => u.size
  | _ => 0
set_option maxHeartbeats 1000000 in
theorem rbase_any (s : ByteArray) (hs : s.size ≤ 1000) (w : World) :
    Calls Try.prog 12 #[.string s] w fun e w' => e = .returned (.tuple #[.string (bs (baseL s.data.toList)), .bool (!(baseL s.data.toList).isEmpty)]) ∧ Below w.heap.size w w' := by
  have c1 := rkind_any s hs
  have hb := hidIt (Below.refl w.heap.size w)
  by_cases h : kindL s.data.toList = 0
  · have hz : baseL s.data.toList = [] := by unfold baseL; rw [kind_zero h]; rfl
    rw [hz]
    rw [h] at c1
    clear hz h
    go_enter Try.func12, Try.ntmps12
    go_wp2_with (first | (go_at_call 14; refine (c1 _).mono ?_; rintro e w' ⟨rfl, hq⟩; have hb := hidIt (below_next hb.out hq); clear hq))
    (try simp only [Exit.inBlock, Exit.then])
    refine bodyPost_ret (by simp [results, Try.results12, go_sem]; try rfl) rfl ?_
    exact ⟨rfl, hb.out⟩
  · have hk0 : ((kindL s.data.toList : Int) == 0) = false := by simp; omega
    have hst : Hid (kindL s.data.toList ≠ 0 ∧ baseL s.data.toList = baseL s.data.toList) := hidIt ⟨h, rfl⟩
    clear h
    obtain ⟨B, hB⟩ : ∃ B, B = baseL s.data.toList := ⟨_, rfl⟩
    rw [← hB]
    have hst2 : Hid (kindL s.data.toList ≠ 0 ∧ baseL s.data.toList = B) := hidIt ⟨hst.out.1, hB.symm⟩
    clear hB hst
    generalize kindL s.data.toList = K at c1 hk0
    go_enter Try.func12, Try.ntmps12
    go_wp2_with (first | (go_at_call 14; refine (c1 _).mono ?_; rintro e w' ⟨rfl, hq⟩; have hb := hidIt (below_next hb.out hq); clear hq))
    go_loopw [0] (fun t wr => ∃ u : ByteArray, u.size ≤ 1000 ∧ t = .string u ∧ Hid (kindL u.data.toList ≠ 0 ∧ baseL u.data.toList = B) ∧ Hid (Below w.heap.size w wr)) (fun t _ => (strLen t))
    case atStart => exact ⟨s, hs, rfl, hst2, hb⟩
    case round =>
      clear hb hst2
      obtain ⟨u, hu, rfl, hB, hb⟩ := hrel
      have c2 := rkind_any u hu
      by_cases h3 : 3 ≤ kindL u.data.toList
      · have U := under h3
        have h4 : 4 ≤ u.size := by have := U.len; rw [← size_list] at this; exact this
        have hK : (3 : Int) ≤ (kindL u.data.toList : Int) := by omega
        have hB2 : Hid (kindL (u.extract 4 u.size).data.toList ≠ 0 ∧ baseL (u.extract 4 u.size).data.toList = B) := hidIt (by
          rw [extract_drop]
          exact ⟨U.kind, U.base.trans hB.out.2⟩)
        have hsz : (u.extract 4 u.size).size = u.size - 4 := by rw [ByteArray.size_extract]; omega
        have hsz := hidIt hsz
        generalize kindL u.data.toList = KU at c2 hK
        clear U h3 hB
        go_wp2_with (first | (go_at_call 14; refine (c2 _).mono ?_; rintro e w' ⟨rfl, hq⟩; have hb := hidIt (below_next hb.out hq); clear hq))
        go_roundw
        case rel => exact ⟨_, by have := hsz.out; omega, rfl, hB2, hb⟩
        case measure => simp only [strLen]; have := hsz.out; omega
      · have hK : (kindL u.data.toList : Int) < 3 := by omega
        have O := (over (l := u.data.toList) (by omega)).2 hB.out.1
        obtain rfl : B = u.data.toList := hB.out.2.symm.trans O.1
        have he : Hid ((!u.data.toList.isEmpty) = true) := hidIt (by
          have := O.2
          cases hq : u.data.toList with
          | nil => exact absurd hq this
          | cons b l => rfl)
        generalize kindL u.data.toList = KU at c2 hK
        clear O h3 hB
        go_wp2_with (first | (go_at_call 14; refine (c2 _).mono ?_; rintro e w' ⟨rfl, hq⟩; have hb := hidIt (below_next hb.out hq); clear hq))
        (try simp only [Exit.inBlock, Exit.then])
        refine bodyPost_ret (by simp [results, Try.results12, go_sem]; try rfl) rfl ?_
        exact ⟨by rw [he.out]; rfl, hb.out⟩

set_option maxHeartbeats 1000000 in
theorem texts_long (s : ByteArray) (hm : s.size ≤ maxLen) (hs : 300 < s.size) (w : World) :
    Calls Try.prog 3 #[.string s] w fun e w' => e = .returned (.bool true) ∧ Below w.heap.size w w' := by
  have c0 := alive_any
  have hs' : (300 : Int) < (s.size : Int) := by omega
  have hb := hidIt (Below.refl w.heap.size w)
  unfold maxLen at hm
  go_enter Try.func3, Try.ntmps3
  go_wp2_with (first | (go_at_call 7; refine (c0 _).mono ?_; rintro e w' ⟨rfl, hq⟩; have hb := hidIt (below_next hb.out hq); clear hq))
  go_ret
  exact ⟨rfl, hb.out⟩

set_option maxHeartbeats 2000000 in
theorem texts_main (s : ByteArray) (hs : s.size ≤ 300) (w : World) :
    Calls Try.prog 3 #[.string s] w fun e w' => e = .returned (.bool true) ∧ Below w.heap.size w w' := by
  have c0 := alive_any
  have c1 := rplain_any 1000 s (by omega) (by decide)
  have c2 := elem_any s (by omega)
  have c3 := relem_any s (by omega)
  have c4 := base_any s (by omega)
  have c5 := rbase_any s (by omega)
  have c6 := kind_any s (by omega)
  have c7 := rkind_any s (by omega)
  have c8 := plain_any s (by omega)
  have c9 := deep_any s (by omega)
  have cA := rdeep_any s (by omega)
  rw [plain_kind] at c8
  unfold plainV at c1
  have hs' : (s.size : Int) ≤ 300 := by omega
  have hb := hidIt (Below.refl w.heap.size w)
  generalize (plainL s.data.toList).getD 0 = d at c1
  generalize (plainL s.data.toList).isSome = i at c1 c8
  generalize (!(elemL s.data.toList).isEmpty) = x at c2 c3
  generalize (!(baseL s.data.toList).isEmpty) = y at c4 c5
  generalize bs (elemL s.data.toList) = a at c2 c3
  generalize bs (baseL s.data.toList) = b at c4 c5
  generalize kindL s.data.toList = k at c6 c7
  generalize deepL s.data.toList = n at c9 cA
  go_enter Try.func3, Try.ntmps3
  go_wp2_with (go_at_call 7; refine (c0 _).mono ?_)
  rintro e w0 ⟨rfl, hq⟩
  have hb := hidIt (below_next hb.out hq)
  clear hq
  go_wp2_with (go_at_call 8; refine (c1 _).mono ?_)
  rintro e w1 ⟨rfl, hq⟩
  have hb := hidIt (below_next hb.out hq)
  clear hq
  go_wp2_with (go_at_call 9; refine (c2 _).mono ?_)
  rintro e w2 ⟨rfl, hq⟩
  have hb := hidIt (below_next hb.out hq)
  clear hq
  go_wp2_with (go_at_call 10; refine (c3 _).mono ?_)
  rintro e w3 ⟨rfl, hq⟩
  have hb := hidIt (below_next hb.out hq)
  clear hq
  go_wp2_with (go_at_call 11; refine (c4 _).mono ?_)
  rintro e w4 ⟨rfl, hq⟩
  have hb := hidIt (below_next hb.out hq)
  clear hq
  go_wp2_with (go_at_call 12; refine (c5 _).mono ?_)
  rintro e w5 ⟨rfl, hq⟩
  have hb := hidIt (below_next hb.out hq)
  clear hq
  go_wp2_with (go_at_call 13; refine (c6 _).mono ?_)
  rintro e w6 ⟨rfl, hq⟩
  have hb := hidIt (below_next hb.out hq)
  clear hq
  go_wp2_with (go_at_call 14; refine (c7 _).mono ?_)
  rintro e w7 ⟨rfl, hq⟩
  have hb := hidIt (below_next hb.out hq)
  clear hq
  go_wp2_with (go_at_call 15; refine (c8 _).mono ?_)
  rintro e w8 ⟨rfl, hq⟩
  have hb := hidIt (below_next hb.out hq)
  clear hq
  go_wp2_with (go_at_call 16; refine (c9 _).mono ?_)
  rintro e w9 ⟨rfl, hq⟩
  have hb := hidIt (below_next hb.out hq)
  clear hq
  go_wp2_with (go_at_call 17; refine (cA _).mono ?_)
  rintro e w10 ⟨rfl, hq⟩
  have hb := hidIt (below_next hb.out hq)
  clear hq
  go_wp2
  go_ret
  exact ⟨by simp, hb.out⟩

theorem texts_walk (s : ByteArray) (hs : s.size ≤ maxLen) (w : World) :
    Calls Try.prog 3 #[.string s] w fun e w' => e = .returned (.bool true) ∧ Below w.heap.size w w' := by
  by_cases h : 300 < s.size
  · exact texts_long s hs h w
  · exact texts_main s (by omega) w
end Go.Proofs.Ytkohdnjgpclnoaa
