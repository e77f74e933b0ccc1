/-
  The walks of front, unbox, leaf, split, answer.
-/
import Derived.Test.YtlppbgmcoknliaaGreatDoorKMod
namespace Go.Proofs.YtlppbgmcoknliaaGreatDoor
set_option linter.unusedVariables false
open Go.RowKit

/-- A text of bytes. -/
def bs (l : List UInt8) : ByteArray := ⟨l.toArray⟩
theorem bs_list (l : List UInt8) : (bs l).data.toList = l := rfl
theorem bs_toList (l : List UInt8) : (bs l).toList = l := ByteArray.toList_mk _
theorem bs_of (s : ByteArray) : bs s.data.toList = s := rfl
theorem bs_size (l : List UInt8) : (bs l).size = l.length := by rw [size_list, bs_list]
theorem bs_drop (s : ByteArray) (n : Nat) : s.extract n s.size = bs (s.data.toList.drop n) := by
  rw [← bs_of (s.extract n s.size), extract_drop]

theorem cut_pre (s : ByteArray) (p : List UInt8) (b : Bool) (h : Lib.hasPrefix s.data.toList p = b) (w : World) :
    Calls Tryz.prog 193 #[.string s, .string ⟨p.toArray⟩] w fun e w' => e = .returned (.tuple #[.string (bs (if b then s.data.toList.drop p.length else s.data.toList)), .bool b]) ∧ w = w' := by
  refine (Tryz.strings_CutPrefix s ⟨p.toArray⟩ w).mono ?_
  rintro e w' ⟨rfl, rfl⟩
  refine ⟨?_, rfl⟩
  have e : (⟨p.toArray⟩ : ByteArray).data.toList = p := rfl
  rw [e]
  unfold Lib.trimPrefix
  rw [h]
  cases b <;> rfl

set_option maxHeartbeats 400000 in
theorem front_any (s : ByteArray) (w : World) :
    Calls Tryz.prog 164 #[.string s] w fun e w' => e = .returned (.tuple #[.int .i64 ((frontL s.data.toList).1 : Nat), .string (bs (frontL s.data.toList).2)]) ∧ w = w' := by
  unfold frontL
  cases h1 : Lib.hasPrefix s.data.toList boxP with
  | true =>
    have c1 := cut_pre s boxP true h1
    simp only [if_true]
    rw [if_pos rfl] at c1
    simp only [boxP, List.length_cons, List.length_nil, Nat.zero_add, Nat.reduceAdd] at c1
    clear h1
    go_enter Tryz.func164, Tryz.ntmps164
    go_wp2_with (go_at_call 193; refine (c1 _).mono ?_)
    rintro e w' ⟨rfl, rfl⟩
    clear c1
    go_wp2
    (try simp only [Exit.inBlock, Exit.then])
    refine bodyPost_ret (by simp [results, Tryz.results164, go_sem]; try rfl) rfl ?_
    exact ⟨rfl, rfl⟩
  | false =>
    have c1 := cut_pre s boxP false h1
    simp only [Bool.false_eq_true, if_false] at c1 ⊢
    cases h2 : Lib.hasPrefix s.data.toList refP with
    | true =>
      have c2 := cut_pre s refP true h2
      simp only [if_true]
      rw [if_pos rfl] at c2
      simp only [boxP, refP, List.length_cons, List.length_nil, Nat.zero_add, Nat.reduceAdd] at c1 c2
      clear h1 h2
      go_enter Tryz.func164, Tryz.ntmps164
      go_wp2_with (go_at_call 193; refine (c1 _).mono ?_)
      rintro e w' ⟨rfl, rfl⟩
      clear c1
      go_wp2_with (go_at_call 193; refine (c2 _).mono ?_)
      rintro e w' ⟨rfl, rfl⟩
      clear c2
      go_wp2
      (try simp only [Exit.inBlock, Exit.then])
      refine bodyPost_ret (by simp [results, Tryz.results164, go_sem]; try rfl) rfl ?_
      exact ⟨rfl, rfl⟩
    | false =>
      have c2 := cut_pre s refP false h2
      simp only [Bool.false_eq_true, if_false] at c2 ⊢
      cases h3 : Lib.hasPrefix s.data.toList mutP with
      | true =>
        have c3 := cut_pre s mutP true h3
        simp only [if_true]
        rw [if_pos rfl] at c3
        simp only [boxP, refP, mutP, List.length_cons, List.length_nil, Nat.zero_add, Nat.reduceAdd] at c1 c2 c3
        clear h1 h2 h3
        go_enter Tryz.func164, Tryz.ntmps164
        go_wp2_with (go_at_call 193; refine (c1 _).mono ?_)
        rintro e w' ⟨rfl, rfl⟩
        clear c1
        go_wp2_with (go_at_call 193; refine (c2 _).mono ?_)
        rintro e w' ⟨rfl, rfl⟩
        clear c2
        go_wp2_with (go_at_call 193; refine (c3 _).mono ?_)
        rintro e w' ⟨rfl, rfl⟩
        clear c3
        go_wp2
        (try simp only [Exit.inBlock, Exit.then])
        refine bodyPost_ret (by simp [results, Tryz.results164, go_sem]; try rfl) rfl ?_
        exact ⟨rfl, rfl⟩
      | false =>
        have c3 := cut_pre s mutP false h3
        simp only [Bool.false_eq_true, if_false] at c3 ⊢
        simp only [boxP, refP, mutP] at c1 c2 c3
        clear h1 h2 h3
        go_enter Tryz.func164, Tryz.ntmps164
        go_wp2_with (go_at_call 193; refine (c1 _).mono ?_)
        rintro e w' ⟨rfl, rfl⟩
        clear c1
        go_wp2_with (go_at_call 193; refine (c2 _).mono ?_)
        rintro e w' ⟨rfl, rfl⟩
        clear c2
        go_wp2_with (go_at_call 193; refine (c3 _).mono ?_)
        rintro e w' ⟨rfl, rfl⟩
        clear c3
        go_wp2
        (try simp only [Exit.inBlock, Exit.then])
        refine bodyPost_ret (by simp [results, Tryz.results164, go_sem]; try rfl) rfl ?_
        exact ⟨rfl, rfl⟩

/-- What unbox's loop knows: k boxes are off, u is left. -/
def UB (l : List UInt8) (k : Nat) (u : ByteArray) : Prop := unboxL 8 l = ((unboxL (8 - k) u.data.toList).1 + k, (unboxL (8 - k) u.data.toList).2)
theorem UB.next {l : List UInt8} {k : Nat} {u : ByteArray} (h : UB l k u) (hk : k < 8) (hp : Lib.hasPrefix u.data.toList boxP = true) : 4 ≤ u.size ∧ UB l (k + 1) (u.extract 4 u.size) := by
  have e := pre_split hp
  have hl := congrArg List.length e
  rw [List.length_append] at hl
  refine ⟨by rw [size_list]; simp only [boxP, List.length_cons, List.length_nil] at hl; omega, ?_⟩
  unfold UB at h ⊢
  obtain ⟨m, hm⟩ : ∃ m, 8 - k = m + 1 := ⟨8 - k - 1, by omega⟩
  have hm2 : 8 - (k + 1) = m := by omega
  rw [extract_drop, hm2, h, hm, unboxL, if_pos hp]
  simp only
  rw [Nat.add_assoc, Nat.add_comm 1 k]
theorem UB.stop {l : List UInt8} {k : Nat} {u : ByteArray} (h : UB l k u) (hp : k = 8 ∨ Lib.hasPrefix u.data.toList boxP = false) : unboxL 8 l = (k, u.data.toList) := by
  unfold UB at h
  rcases hp with rfl | hp
  · rw [h]; simp [unboxL]
  · rw [h, unbox_no hp]; simp

set_option maxHeartbeats 400000 in
theorem unbox_any (s : ByteArray) (w : World) :
    Calls Tryz.prog 165 #[.string s] w fun e w' => e = .returned (.tuple #[.int .i64 ((unboxL 8 s.data.toList).1 : Nat), .string (bs (unboxL 8 s.data.toList).2)]) ∧ w = w' := by
  have hst : Hid (UB s.data.toList 0 s) := hidIt rfl
  generalize s.data.toList = l at hst ⊢
  go_enter Tryz.func165, Tryz.ntmps165
  go_wp2
  go_loopw [0, 4] (fun t i wr => ∃ (k : Nat) (u : ByteArray), k ≤ 8 ∧ i = .int .i64 k ∧ t = .string u ∧ wr = w ∧ Hid (UB l k u)) (fun _ i _ => 8 - (intOf i).toNat)
  case atStart => exact ⟨0, s, Nat.zero_le _, rfl, rfl, rfl, hst⟩
  case round =>
    clear hst
    obtain ⟨k, u, hk, rfl, rfl, rfl, hN⟩ := hrel
    by_cases hlt : k < 8
    · have hlt' : (k : Int) < 8 := by omega
      have c1 : ∀ w, Calls Tryz.prog 194 #[.string u, .string ⟨#[98, 111, 120, 32]⟩] w fun e w' => e = .returned (.bool (Lib.hasPrefix u.data.toList boxP)) ∧ w = w' := fun w =>
        (Tryz.strings_HasPrefix u ⟨#[98, 111, 120, 32]⟩ w).mono fun e w' ⟨h1, h2⟩ => ⟨h1, h2.symm⟩
      cases hp : Lib.hasPrefix u.data.toList boxP with
      | true =>
        rw [hp] at c1
        obtain ⟨h4, hN2⟩ := hN.out.next hlt hp
        have hN2 := hidIt hN2
        clear hN hp
        go_wp2_with (first | (go_at_call 194; refine (c1 _).mono ?_; rintro e w' ⟨rfl, rfl⟩))
        go_roundw
        case rel => exact ⟨k + 1, _, by omega, by go_num, rfl, trivial, hN2⟩
        case measure => simp [intOf]; omega
      | false =>
        rw [hp] at c1
        have hN2 := hidIt (hN.out.stop (.inr hp))
        clear hN hp
        go_wp2_with (first | (go_at_call 194; refine (c1 _).mono ?_; rintro e w' ⟨rfl, rfl⟩))
        (try simp only [Exit.inBlock, Exit.then])
        refine bodyPost_ret (by simp [results, Tryz.results165, go_sem]; try rfl) rfl ?_
        exact ⟨by rw [hN2.out]; rfl, rfl⟩
    · obtain rfl : k = 8 := by omega
      have hN2 := hidIt (hN.out.stop (.inl rfl))
      clear hN
      go_wp2
      (try simp only [Exit.inBlock, Exit.then])
      refine bodyPost_ret (by simp [results, Tryz.results165, go_sem]; try rfl) rfl ?_
      exact ⟨by rw [hN2.out]; rfl, rfl⟩

set_option maxHeartbeats 400000 in
theorem leaf_any (s : ByteArray) (hs : s.size ≤ 100000000) (w : World) :
    Calls Tryz.prog 166 #[.string s] w fun e w' => e = .returned (.int .i64 (leafL s.data.toList : Nat)) ∧ Below w.heap.size w w' := by
  have c1 := isName_any s hs
  have e1 : s.toList = s.data.toList := ByteArray.toList_eq _
  unfold leafL
  by_cases hi : s.data.toList = intL
  · have hb : (s.toList == [105, 110, 116]) = true := by rw [e1, hi]; rfl
    rw [if_pos hi]
    clear hi c1 e1
    go_enter Tryz.func166, Tryz.ntmps166
    go_wp2
    go_ret
    exact ⟨rfl, Below.refl _ _⟩
  · have hb : (s.toList == [105, 110, 116]) = false := by rw [e1]; simpa [intL] using hi
    rw [if_neg hi]
    clear hi e1
    cases hn : nameB s.data.toList with
    | true =>
      rw [hn] at c1
      clear hn
      go_enter Tryz.func166, Tryz.ntmps166
      go_wp2_with (first | (go_at_call 82; refine (c1 _).mono ?_; rintro e w' ⟨rfl, hq⟩; have hq := hidIt hq))
      go_ret
      exact ⟨rfl, hq.out⟩
    | false =>
      rw [hn] at c1
      clear hn
      go_enter Tryz.func166, Tryz.ntmps166
      go_wp2_with (first | (go_at_call 82; refine (c1 _).mono ?_; rintro e w' ⟨rfl, hq⟩; have hq := hidIt hq))
      go_ret
      exact ⟨rfl, hq.out⟩

end Go.Proofs.YtlppbgmcoknliaaGreatDoor
