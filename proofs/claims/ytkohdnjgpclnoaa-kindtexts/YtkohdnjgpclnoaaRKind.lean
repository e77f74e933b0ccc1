/-
  The walks of the document's rest, Plain, Kind.
-/
import Derived.Test.YtkohdnjgpclnoaaBx
namespace Go.Proofs.Ytkohdnjgpclnoaa
set_option linter.unusedVariables false
open Go.RowKit

theorem str_app' (s t : ByteArray) : (s ++ t).data.toList = s.data.toList ++ t.data.toList := by simp
/-- Has it that front, and something behind? -/
def restB (l P : List UInt8) : Bool := Lib.hasPrefix l P && decide (4 < l.length)
def restL (l P : List UInt8) : List UInt8 := if restB l P then l.drop 4 else []

theorem pre_take {l P : List UInt8} (h : P.length = 4) : (l.take 4 == P) = Lib.hasPrefix l P := by
  unfold Lib.hasPrefix
  rw [Bool.eq_iff_iff, List.isPrefixOf_iff_prefix, List.prefix_iff_eq_take, h, beq_iff_eq]
  exact ⟨fun e => e.symm, fun e => e.symm⟩

set_option maxHeartbeats 1000000 in
theorem rest_walk (s W : ByteArray) (P : List UInt8) (hP : P = W.data.toList ++ [32]) (hW : W.size = 3) (hs : s.size ≤ 100000000) (w : World) :
    Calls Try.prog 25 #[.string s, .string W] w fun e w' => e = .returned (.tuple #[.string (bs (restL s.data.toList P)), .bool (restB s.data.toList P)]) ∧ w = w' := by
  have hl : P.length = 4 := by rw [hP, List.length_append, ← size_list, hW]; rfl
  have hw3 : (W.size : Int) = 3 := by omega
  by_cases h4 : 4 < s.size
  · have h4' : (4 : Int) < (s.size : Int) := by omega
    have e1 : ((s.extract 0 4).toList == (W ++ ⟨#[32]⟩).toList) = Lib.hasPrefix s.data.toList P := by
      rw [ByteArray.toList_eq, ByteArray.toList_eq, extract_take, str_app', ← pre_take hl, hP]
    have e2 : restB s.data.toList P = Lib.hasPrefix s.data.toList P := by
      unfold restB
      rw [← size_list, decide_eq_true h4, Bool.and_true]
    unfold restL
    rw [e2]
    generalize Lib.hasPrefix s.data.toList P = b at e1 ⊢
    have e3 : Hid (s.extract 4 s.size = bs (s.data.toList.drop 4)) := hidIt (bs_drop s 4)
    clear e2 hl hP
    cases b
    · go_enter Try.func25, Try.ntmps25
      go_wp2
      (try simp only [Exit.inBlock, Exit.then])
      refine bodyPost_ret (by simp [results, Try.results25, go_sem]; try rfl) rfl ?_
      exact ⟨rfl, rfl⟩
    · go_enter Try.func25, Try.ntmps25
      go_wp2
      (try simp only [Exit.inBlock, Exit.then])
      refine bodyPost_ret (by simp [results, Try.results25, go_sem]; try rfl) rfl ?_
      exact ⟨by rw [e3.out], rfl⟩
  · have h4' : (s.size : Int) ≤ 4 := by omega
    have e2 : restB s.data.toList P = false := by
      unfold restB
      rw [← size_list, decide_eq_false h4, Bool.and_false]
    unfold restL
    rw [e2]
    clear e2 hl hP h4
    go_enter Try.func25, Try.ntmps25
    go_wp2
    (try simp only [Exit.inBlock, Exit.then])
    refine bodyPost_ret (by simp [results, Try.results25, go_sem]; try rfl) rfl ?_
    exact ⟨rfl, rfl⟩

theorem rest_box (s : ByteArray) (hs : s.size ≤ 100000000) (w : World) :
    Calls Try.prog 25 #[.string s, .string ⟨#[98, 111, 120]⟩] w fun e w' => e = .returned (.tuple #[.string (bs (restL s.data.toList boxP)), .bool (restB s.data.toList boxP)]) ∧ w = w' := rest_walk s ⟨#[98, 111, 120]⟩ boxP rfl rfl hs w
theorem rest_ref (s : ByteArray) (hs : s.size ≤ 100000000) (w : World) :
    Calls Try.prog 25 #[.string s, .string ⟨#[114, 101, 102]⟩] w fun e w' => e = .returned (.tuple #[.string (bs (restL s.data.toList refP)), .bool (restB s.data.toList refP)]) ∧ w = w' := rest_walk s ⟨#[114, 101, 102]⟩ refP rfl rfl hs w
theorem rest_mut (s : ByteArray) (hs : s.size ≤ 100000000) (w : World) :
    Calls Try.prog 25 #[.string s, .string ⟨#[109, 117, 116]⟩] w fun e w' => e = .returned (.tuple #[.string (bs (restL s.data.toList mutP)), .bool (restB s.data.toList mutP)]) ∧ w = w' := rest_walk s ⟨#[109, 117, 116]⟩ mutP rfl rfl hs w

def plainV (o : Option Nat) : Value := .tuple #[.int .i64 ((o.getD 0 : Nat) : Int), .bool o.isSome]

theorem rest_none {l : List UInt8} (h : restB l boxP = false) (hl : leafL l = 0) : plainL l = none := by
  unfold restB at h
  cases hp : Lib.hasPrefix l boxP with
  | false => exact plainL_none hp hl
  | true =>
    rw [hp, Bool.true_and, decide_eq_false_iff_not] at h
    have e := pre_split hp
    have : l.drop boxP.length = [] := List.eq_nil_of_length_eq_zero (by rw [List.length_drop]; simp only [boxP, List.length_cons, List.length_nil]; omega)
    rw [this] at e
    rw [e, plainL_box, plainL_nil]
theorem rest_some {l P : List UInt8} (hP : P.length = 4) (h : restB l P = true) : l = P ++ restL l P ∧ (restL l P).length < l.length := by
  have hr : restL l P = l.drop 4 := by unfold restL; rw [if_pos h]
  unfold restB at h
  rw [Bool.and_eq_true, decide_eq_true_eq] at h
  refine ⟨by rw [hr, ← hP]; exact pre_split h.1, ?_⟩
  rw [hr, List.length_drop]
  omega

set_option maxHeartbeats 1000000 in
theorem rplain_leaf (s : ByteArray) (hs : s.size ≤ 100000000) (h : leafL s.data.toList ≠ 0) (w : World) :
    Calls Try.prog 8 #[.string s] w fun e w' => e = .returned (.tuple #[.int .i64 0, .bool true]) ∧ Below w.heap.size w w' := by
  have c1 := rname_any s hs
  have e1 : s.toList = s.data.toList := ByteArray.toList_eq _
  have hb := hidIt (Below.refl w.heap.size w)
  by_cases hi : s.data.toList = intL
  · have hb1 : (s.toList == [105, 110, 116]) = true := by rw [e1, hi]; rfl
    clear hi e1 h
    go_enter Try.func8, Try.ntmps8
    go_wp2
    (try simp only [Exit.inBlock, Exit.then])
    refine bodyPost_ret (by simp [results, Try.results8, go_sem]; try rfl) rfl ?_
    exact ⟨rfl, hb.out⟩
  · have hb1 : (s.toList == [105, 110, 116]) = false := by rw [e1]; simpa [intL] using hi
    have hn : nameB s.data.toList = true := by
      unfold leafL at h
      rw [if_neg hi] at h
      cases hn : nameB s.data.toList with
      | true => rfl
      | false => rw [hn] at h; exact absurd rfl h
    rw [hn] at c1
    clear hi e1 h hn
    go_enter Try.func8, Try.ntmps8
    go_wp2_with (first | (go_at_call 24; refine (c1 _).mono ?_; rintro e w' ⟨rfl, hq⟩; have hb := hidIt (below_next hb.out hq); clear hq))
    (try simp only [Exit.inBlock, Exit.then])
    refine bodyPost_ret (by simp [results, Try.results8, go_sem]; try rfl) rfl ?_
    exact ⟨rfl, hb.out⟩
theorem leaf_no {l : List UInt8} (h : leafL l = 0) : l ≠ intL ∧ nameB l = false := by
  unfold leafL at h
  split at h
  · cases h
  · rename_i hi
    split at h
    · cases h
    · rename_i hn
      exact ⟨hi, by simpa using hn⟩

set_option maxHeartbeats 1000000 in
theorem rplain_any : ∀ (n : Nat) (s : ByteArray), s.size ≤ n → n ≤ 100000000 → ∀ w : World,
    Calls Try.prog 8 #[.string s] w fun e w' => e = .returned (plainV (plainL s.data.toList)) ∧ Below w.heap.size w w' := by
  intro n
  induction n with
  | zero =>
    intro s hs hn w
    have e0 : s.data.toList = [] := List.eq_nil_of_length_eq_zero (by rw [← size_list]; omega)
    have c1 := rname_any s (by omega)
    have c2 := rest_box s (by omega)
    have hb := hidIt (Below.refl w.heap.size w)
    have hb1 : (s.toList == [105, 110, 116]) = false := by rw [ByteArray.toList_eq, e0]; rfl
    rw [e0] at c1 c2 ⊢
    rw [show nameB [] = false by rfl] at c1
    rw [show restB [] boxP = false by rfl, show restL [] boxP = [] by rfl] at c2
    rw [plainL_nil]
    clear e0
    go_enter Try.func8, Try.ntmps8
    go_wp2_with (first | (go_at_call 24; refine (c1 _).mono ?_; rintro e w' ⟨rfl, hq⟩; have hb := hidIt (below_next hb.out hq); clear hq) | (go_at_call 25; refine (c2 _).mono ?_; rintro e w' ⟨rfl, rfl⟩))
    (try simp only [Exit.inBlock, Exit.then])
    refine bodyPost_ret (by simp [results, Try.results8, go_sem]; try rfl) rfl ?_
    exact ⟨rfl, hb.out⟩
  | succ n ih =>
    intro s hs hn w
    by_cases hl : leafL s.data.toList = 0
    · obtain ⟨hi, hnm⟩ := leaf_no hl
      have hb1 : (s.toList == [105, 110, 116]) = false := by rw [ByteArray.toList_eq]; simpa [intL] using hi
      have c1 := rname_any s (by omega)
      have c2 := rest_box s (by omega)
      have hb := hidIt (Below.refl w.heap.size w)
      rw [hnm] at c1
      cases hr : restB s.data.toList boxP with
      | false =>
        rw [rest_none hr hl]
        rw [hr] at c2
        clear hi hnm hl hr ih
        go_enter Try.func8, Try.ntmps8
        go_wp2_with (first | (go_at_call 24; refine (c1 _).mono ?_; rintro e w' ⟨rfl, hq⟩; have hb := hidIt (below_next hb.out hq); clear hq) | (go_at_call 25; refine (c2 _).mono ?_; rintro e w' ⟨rfl, rfl⟩))
        (try simp only [Exit.inBlock, Exit.then])
        refine bodyPost_ret (by simp [results, Try.results8, go_sem]; try rfl) rfl ?_
        exact ⟨rfl, hb.out⟩
      | true =>
        obtain ⟨e1, e2⟩ := rest_some (P := boxP) rfl hr
        rw [hr] at c2
        rw [← size_list] at e2
        have c3 := ih (bs (restL s.data.toList boxP)) (by rw [bs_size]; omega) (by omega)
        rw [bs_list] at c3
        have eP : plainL s.data.toList = (match plainL (restL s.data.toList boxP) with | none => none | some k => if k = 8 then none else some (k + 1)) := by
          conv => lhs; rw [e1]
          exact plainL_box _
        rw [eP]
        have hle : ∀ k, plainL (restL s.data.toList boxP) = some k → k ≤ 8 := fun k h => plainL_le h
        clear hi hnm hl hr ih e1 e2 eP
        generalize restL s.data.toList boxP = r at c2 c3 hle ⊢
        cases hp : plainL r with
        | none =>
          rw [hp] at c3
          simp only [plainV, Option.getD_none, Option.isSome_none] at c3 ⊢
          clear hp hle
          go_enter Try.func8, Try.ntmps8
          go_wp2_with (first | (go_at_call 24; refine (c1 _).mono ?_; rintro e w' ⟨rfl, hq⟩; have hb := hidIt (below_next hb.out hq); clear hq) | (go_at_call 25; refine (c2 _).mono ?_; rintro e w' ⟨rfl, rfl⟩) | (go_at_call 8; refine (c3 _).mono ?_; rintro e w' ⟨rfl, hq⟩; have hb := hidIt (below_next hb.out hq); clear hq))
          (try simp only [Exit.inBlock, Exit.then])
          refine bodyPost_ret (by simp [results, Try.results8, go_sem]; try rfl) rfl ?_
          exact ⟨rfl, hb.out⟩
        | some k =>
          have hk := hle k hp
          rw [hp] at c3
          simp only [plainV, Option.getD_some, Option.isSome_some] at c3
          clear hp hle
          by_cases h8 : k = 8
          · subst h8
            go_enter Try.func8, Try.ntmps8
            go_wp2_with (first | (go_at_call 24; refine (c1 _).mono ?_; rintro e w' ⟨rfl, hq⟩; have hb := hidIt (below_next hb.out hq); clear hq) | (go_at_call 25; refine (c2 _).mono ?_; rintro e w' ⟨rfl, rfl⟩) | (go_at_call 8; refine (c3 _).mono ?_; rintro e w' ⟨rfl, hq⟩; have hb := hidIt (below_next hb.out hq); clear hq))
            (try simp only [Exit.inBlock, Exit.then])
            refine bodyPost_ret (by simp [results, Try.results8, go_sem]; try rfl) rfl ?_
            exact ⟨rfl, hb.out⟩
          · have h8' : ((k : Int) == 8) = false := by simp; omega
            have hk' : (k : Int) ≤ 8 := by omega
            simp only
            rw [if_neg h8]
            clear h8
            go_enter Try.func8, Try.ntmps8
            go_wp2_with (first | (go_at_call 24; refine (c1 _).mono ?_; rintro e w' ⟨rfl, hq⟩; have hb := hidIt (below_next hb.out hq); clear hq) | (go_at_call 25; refine (c2 _).mono ?_; rintro e w' ⟨rfl, rfl⟩) | (go_at_call 8; refine (c3 _).mono ?_; rintro e w' ⟨rfl, hq⟩; have hb := hidIt (below_next hb.out hq); clear hq))
            (try simp only [Exit.inBlock, Exit.then])
            refine bodyPost_ret (by simp [results, Try.results8, go_sem]; try rfl) rfl ?_
            exact ⟨rfl, hb.out⟩
    · rw [plainL_leaf hl]
      exact rplain_leaf s (by omega) hl w
end Go.Proofs.Ytkohdnjgpclnoaa
