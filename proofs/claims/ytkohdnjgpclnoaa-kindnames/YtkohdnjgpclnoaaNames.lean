/-
  The walk of KindNames.
-/
import Derived.Test.YtkohdnjgpclnoaaAlive
namespace Go.Proofs.Ytkohdnjgpclnoaa
set_option linter.unusedVariables false
open Go.RowKit

theorem name_parts {l : List UInt8} (h : nameB l = true) : l ≠ [] ∧ isWord l = false ∧ spanL nameByte l = l.length := by
  rw [name_ok] at h
  simp only [Bool.and_eq_true, decide_eq_true_eq, Bool.not_eq_true'] at h
  obtain ⟨⟨⟨h1, h2⟩, h3⟩, h4⟩ := h
  refine ⟨by rintro rfl; simp at h2, h4, ?_⟩
  cases l with
  | nil => rfl
  | cons b l =>
    rw [okAt, okAt_span, Bool.and_eq_true, decide_eq_true_eq] at h1
    obtain ⟨hb, hl⟩ := h1
    have hl1 : isLetter b = true := by simpa using hb
    rw [spanL, if_pos (by simp [nameByte, hl1]), hl]
    rfl
theorem name_leaf {l : List UInt8} (h : nameB l = true) : leafL l = 2 := by
  have hw := (name_parts h).2.1
  unfold leafL
  rw [if_neg, if_pos h]
  rintro rfl
  exact absurd hw (by decide)
theorem span_app : ∀ (a r : List UInt8), spanL nameByte a = a.length → spanL nameByte (a ++ 32 :: r) = a.length
  | [], r, _ => by simp [spanL, nameByte, isLetter, isDigit]
  | b :: a, r, h => by
    have hle := spanL_le nameByte a
    rw [spanL] at h
    split at h
    · rename_i hb
      rw [List.length_cons] at h
      rw [List.cons_append, spanL, if_pos hb, span_app a r (by omega)]
      rfl
    · simp at h
theorem name_pre {l q : List UInt8} (h : nameB l = true) (hq : spanL nameByte q = q.length) (hw : isWord q = true) (r : List UInt8) : Lib.hasPrefix (l ++ 32 :: r) (q ++ [32]) = false := by
  cases hh : Lib.hasPrefix (l ++ 32 :: r) (q ++ [32]) with
  | false => rfl
  | true =>
    exfalso
    obtain ⟨_, hn, hl⟩ := name_parts h
    have e := pre_split hh
    rw [List.append_assoc, List.singleton_append] at e
    have e1 := span_app l r hl
    rw [e, span_app q _ hq] at e1
    have e2 := congrArg (List.take l.length) e
    rw [List.take_left, ← e1, List.take_left] at e2
    rw [e2, hw] at hn
    cases hn
theorem kind_none {l : List UInt8} (h0 : leafL l = 0) (h1 : Lib.hasPrefix l boxP = false) (h2 : Lib.hasPrefix l refP = false) (h3 : Lib.hasPrefix l mutP = false) : kindL l = 0 := by
  unfold kindL
  rw [split_none h0 h1 h2 h3]
  rfl
theorem kind_more {l : List UInt8} (h : nameB l = true) (r : List UInt8) : kindL (l ++ 32 :: r) = 0 :=
  kind_none (leaf_blank l r) (name_pre (q := [98, 111, 120]) h (by decide) (by decide) r) (name_pre (q := [114, 101, 102]) h (by decide) (by decide) r) (name_pre (q := [109, 117, 116]) h (by decide) (by decide) r)
theorem kind_fn (l : List UInt8) : kindL ([102, 110, 32] ++ l) = 0 :=
  kind_none (leaf_blank [102, 110] l) (by unfold Lib.hasPrefix boxP; simp [List.isPrefixOf]) (by unfold Lib.hasPrefix refP; simp [List.isPrefixOf]) (by unfold Lib.hasPrefix mutP; simp [List.isPrefixOf])
theorem kind_box2 (l : List UInt8) : kindL ([98, 111, 120, 32, 32] ++ l) = 0 := by
  have e : [98, 111, 120, 32, 32] ++ l = boxP ++ ([] ++ 32 :: l) := rfl
  have hp : plainL ([] ++ 32 :: l) = none := plainL_none (by unfold Lib.hasPrefix boxP; simp [List.isPrefixOf]) (leaf_blank [] l)
  unfold kindL
  rw [e, split_box, plainL_box, hp]
  rfl
theorem kind_name {l : List UInt8} (h : nameB l = true) : kindL l = 2 ∧ isPlain l = true ∧ baseL l = l := by
  have hl := name_leaf h
  have hs := split_leaf (l := l) (by rw [hl]; decide)
  refine ⟨by unfold kindL; rw [hs, hl], by rw [plain_kind, plainL_leaf (by rw [hl]; decide)]; rfl, by unfold baseL; rw [hs]⟩
theorem word_kinds : words.all (fun l => decide (kindL l = 1) == decide (l = intL)) = true := by kernel_rfl
theorem word_kind {l : List UInt8} (h : isWord l = true) : decide (kindL l = 1) = decide (l = intL) := by
  have hm : l ∈ words := by unfold isWord at h; exact List.contains_iff_mem.1 h
  have := List.all_eq_true.1 word_kinds l hm
  simpa using this

theorem str_app (s t : ByteArray) : (s ++ t).data.toList = s.data.toList ++ t.data.toList := by simp

set_option maxHeartbeats 1000000 in
theorem names_yes (s : ByteArray) (hs : s.size ≤ 100) (h : nameB s.data.toList = true) (w : World) :
    Calls Try.prog 6 #[.string s] w fun e w' => e = .returned (.bool true) ∧ Below w.heap.size w w' := by
  have c0 := alive_any
  have c1 := isName_any s (by omega)
  have c2 := base_any s (by omega)
  have c3 := kind_any s (by omega)
  have c4 := plain_any s (by omega)
  have c5 := kind_any (s ++ ⟨#[32]⟩) (by rw [ByteArray.size_append]; show s.size + 1 ≤ _; omega)
  have c6 := kind_any (⟨#[102, 110, 32]⟩ ++ s) (by rw [ByteArray.size_append]; show 3 + s.size ≤ _; omega)
  have c7 := kind_any (s ++ ⟨#[32]⟩ ++ s) (by rw [ByteArray.size_append, ByteArray.size_append]; show s.size + 1 + s.size ≤ _; omega)
  have c8 := kind_any (⟨#[98, 111, 120, 32, 32]⟩ ++ s) (by rw [ByteArray.size_append]; show 5 + s.size ≤ _; omega)
  obtain ⟨k1, k2, k3⟩ := kind_name h
  have hne : (!s.data.toList.isEmpty) = true := by
    have := (name_parts h).1
    cases hq : s.data.toList with
    | nil => exact absurd hq this
    | cons b l => rfl
  rw [h] at c1
  rw [k3, bs_of, hne] at c2
  rw [k1] at c3
  rw [k2] at c4
  rw [str_app, show (⟨#[32]⟩ : ByteArray).data.toList = [32] from rfl, kind_more h []] at c5
  rw [str_app, show (⟨#[102, 110, 32]⟩ : ByteArray).data.toList = [102, 110, 32] from rfl, kind_fn] at c6
  rw [str_app, str_app, show (⟨#[32]⟩ : ByteArray).data.toList = [32] from rfl, List.append_assoc, List.singleton_append, kind_more h] at c7
  rw [str_app, show (⟨#[98, 111, 120, 32, 32]⟩ : ByteArray).data.toList = [98, 111, 120, 32, 32] from rfl, kind_box2] at c8
  have hs' : (s.size : Int) ≤ 100 := by omega
  clear k1 k2 k3 h hne
  go_enter Try.func6, Try.ntmps6
  go_wp2_with (go_at_call 7; refine (c0 _).mono ?_)
  rintro e w0 ⟨rfl, h0⟩
  have h0 := hidIt h0
  go_wp2_with (go_at_call 22; refine (c1 _).mono ?_)
  rintro e w1 ⟨rfl, h1⟩
  have h1 := hidIt h1
  go_wp2_with (go_at_call 11; refine (c2 _).mono ?_)
  rintro e w2 ⟨rfl, h2⟩
  have h2 := hidIt h2
  go_wp2_with (go_at_call 13; refine (c3 _).mono ?_)
  rintro e w3 ⟨rfl, h3⟩
  have h3 := hidIt h3
  clear c3
  go_wp2_with (go_at_call 15; refine (c4 _).mono ?_)
  rintro e w4 ⟨rfl, h4⟩
  have h4 := hidIt h4
  go_wp2_with (go_at_call 13; refine (c5 _).mono ?_)
  rintro e w5 ⟨rfl, h5⟩
  have h5 := hidIt h5
  clear c5
  go_wp2_with (go_at_call 13; refine (c6 _).mono ?_)
  rintro e w6 ⟨rfl, h6⟩
  have h6 := hidIt h6
  clear c6
  go_wp2_with (go_at_call 13; refine (c7 _).mono ?_)
  rintro e w7 ⟨rfl, h7⟩
  have h7 := hidIt h7
  clear c7
  go_wp2_with (go_at_call 13; refine (c8 _).mono ?_)
  rintro e w8 ⟨rfl, h8⟩
  have h8 := hidIt h8
  go_wp2
  go_ret
  exact ⟨rfl, below_next (below_next (below_next (below_next (below_next (below_next (below_next (below_next h0.out h1.out) h2.out) h3.out) h4.out) h5.out) h6.out) h7.out) h8.out⟩

set_option maxHeartbeats 1000000 in
theorem names_no (s : ByteArray) (hs : s.size ≤ 100) (h : nameB s.data.toList = false) (w : World) :
    Calls Try.prog 6 #[.string s] w fun e w' => e = .returned (.bool true) ∧ Below w.heap.size w w' := by
  have c0 := alive_any
  have c1 := isName_any s (by omega)
  have c2 := word_any s
  have c3 := kind_any s (by omega)
  rw [h] at c1
  have hs' : (s.size : Int) ≤ 100 := by omega
  clear h
  cases hw : isWord s.data.toList with
  | false =>
    rw [hw] at c2
    clear hw
    go_enter Try.func6, Try.ntmps6
    go_wp2_with (go_at_call 7; refine (c0 _).mono ?_)
    rintro e w0 ⟨rfl, h0⟩
    have h0 := hidIt h0
    go_wp2_with (go_at_call 22; refine (c1 _).mono ?_)
    rintro e w1 ⟨rfl, h1⟩
    have h1 := hidIt h1
    go_wp2_with (go_at_call 23; refine (c2 _).mono ?_; rintro e w' ⟨rfl, rfl⟩)
    go_ret
    exact ⟨rfl, below_next h0.out h1.out⟩
  | true =>
    have hk := word_kind hw
    rw [hw] at c2
    have e1 : s.toList = s.data.toList := ByteArray.toList_eq _
    clear hw
    by_cases hi : s.data.toList = intL
    · have hb : (s.toList == [105, 110, 116]) = true := by rw [e1, hi]; rfl
      rw [decide_eq_true hi, decide_eq_true_eq] at hk
      rw [hk] at c3
      clear hi hk e1
      go_enter Try.func6, Try.ntmps6
      go_wp2_with (go_at_call 7; refine (c0 _).mono ?_)
      rintro e w0 ⟨rfl, h0⟩
      have h0 := hidIt h0
      go_wp2_with (go_at_call 22; refine (c1 _).mono ?_)
      rintro e w1 ⟨rfl, h1⟩
      have h1 := hidIt h1
      go_wp2_with (first | (go_at_call 23; refine (c2 _).mono ?_; rintro e w' ⟨rfl, rfl⟩) | (go_at_call 13; refine (c3 _).mono ?_; rintro e w' ⟨rfl, h2⟩; have h2 := hidIt h2))
      go_ret
      exact ⟨rfl, below_next (below_next h0.out h1.out) h2.out⟩
    · have hb : (s.toList == [105, 110, 116]) = false := by rw [e1]; simpa [intL] using hi
      rw [decide_eq_false hi, decide_eq_false_iff_not] at hk
      have hk' : ((kindL s.data.toList : Int) == 1) = false := by simp; omega
      generalize kindL s.data.toList = k at c3 hk'
      clear hi hk e1
      go_enter Try.func6, Try.ntmps6
      go_wp2_with (go_at_call 7; refine (c0 _).mono ?_)
      rintro e w0 ⟨rfl, h0⟩
      have h0 := hidIt h0
      go_wp2_with (go_at_call 22; refine (c1 _).mono ?_)
      rintro e w1 ⟨rfl, h1⟩
      have h1 := hidIt h1
      go_wp2_with (first | (go_at_call 23; refine (c2 _).mono ?_; rintro e w' ⟨rfl, rfl⟩) | (go_at_call 13; refine (c3 _).mono ?_; rintro e w' ⟨rfl, h2⟩; have h2 := hidIt h2))
      go_ret
      exact ⟨rfl, below_next (below_next h0.out h1.out) h2.out⟩

set_option maxHeartbeats 1000000 in
theorem names_long (s : ByteArray) (hm : s.size ≤ maxLen) (hs : 100 < s.size) (w : World) :
    Calls Try.prog 6 #[.string s] w fun e w' => e = .returned (.bool true) ∧ Below w.heap.size w w' := by
  have c0 := alive_any
  have hs' : (100 : Int) < (s.size : Int) := by omega
  unfold maxLen at hm
  go_enter Try.func6, Try.ntmps6
  go_wp2_with (go_at_call 7; refine (c0 _).mono ?_)
  rintro e w0 ⟨rfl, h0⟩
  have h0 := hidIt h0
  go_wp2
  go_ret
  exact ⟨rfl, h0.out⟩

theorem names_walk (s : ByteArray) (hs : s.size ≤ maxLen) (w : World) :
    Calls Try.prog 6 #[.string s] w fun e w' => e = .returned (.bool true) ∧ Below w.heap.size w w' := by
  by_cases h : 100 < s.size
  · exact names_long s hs h w
  · cases hn : nameB s.data.toList with
    | true => exact names_yes s (by omega) hn w
    | false => exact names_no s (by omega) hn w
end Go.Proofs.Ytkohdnjgpclnoaa
