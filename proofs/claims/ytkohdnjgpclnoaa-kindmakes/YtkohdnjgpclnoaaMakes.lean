/-
  The walks of the document's With, and of KindMakes.
-/
import Derived.Test.YtkohdnjgpclnoaaRKind
namespace Go.Proofs.Ytkohdnjgpclnoaa
set_option linter.unusedVariables false
open Go.RowKit

theorem with_app (W s : ByteArray) (P : List UInt8) (hP : P = W.data.toList ++ [32]) : W ++ ⟨#[32]⟩ ++ s = bs (P ++ s.data.toList) := by
  rw [← bs_of (W ++ ⟨#[32]⟩ ++ s), str_app', str_app', hP]
/-- May it have that in front? x: it is a box. -/
def withB (x : Bool) (o : Option Nat) : Bool := o.isSome && !(x && decide (o = some 8))

set_option maxHeartbeats 1000000 in
theorem with_walk (W s : ByteArray) (P : List UInt8) (x : Bool) (hP : P = W.data.toList ++ [32]) (hW : W.size = 3) (hx : (W.toList == [98, 111, 120]) = x) (hs : s.size ≤ 1000) (w : World) :
    Calls Try.prog 21 #[.string W, .string s] w fun e w' => e = .returned (madeV P s.data.toList (withB x (plainL s.data.toList))) ∧ Below w.heap.size w w' := by
  have c1 := rplain_any 1000 s hs (by decide)
  have hb := hidIt (Below.refl w.heap.size w)
  have hw3 : (W.size : Int) = 3 := by omega
  have E := hidIt (with_app W s P hP)
  have hle : ∀ k, plainL s.data.toList = some k → k ≤ 8 := fun k h => plainL_le h
  unfold madeV withB
  clear hP
  cases hp : plainL s.data.toList with
  | none =>
    rw [hp] at c1
    simp only [plainV, Option.getD_none, Option.isSome_none] at c1
    simp only [Option.isSome_none, Bool.false_and, Bool.false_eq_true, if_false]
    clear hp hle
    go_enter Try.func21, Try.ntmps21
    go_wp2_with (first | (go_at_call 8; refine (c1 _).mono ?_; rintro e w' ⟨rfl, hq⟩; have hb := hidIt (below_next hb.out hq); clear hq))
    (try simp only [Exit.inBlock, Exit.then])
    refine bodyPost_ret (by simp [results, Try.results21, go_sem]; try rfl) rfl ?_
    exact ⟨rfl, hb.out⟩
  | some k =>
    rw [hp] at c1
    have hk := hle k hp
    have hk' : (k : Int) ≤ 8 := by omega
    simp only [plainV, Option.getD_some, Option.isSome_some] at c1
    simp only [Option.isSome_some, Bool.true_and, Option.some.injEq]
    clear hp hle
    cases x with
    | false =>
      simp only [Bool.false_and, Bool.not_false, if_true]
      go_enter Try.func21, Try.ntmps21
      go_wp2_with (first | (go_at_call 8; refine (c1 _).mono ?_; rintro e w' ⟨rfl, hq⟩; have hb := hidIt (below_next hb.out hq); clear hq))
      (try simp only [Exit.inBlock, Exit.then])
      refine bodyPost_ret (by simp [results, Try.results21, go_sem]; try rfl) rfl ?_
      exact ⟨by rw [E.out], hb.out⟩
    | true =>
      simp only [Bool.true_and]
      by_cases h8 : k = 8
      · subst h8
        simp only [decide_true, Bool.not_true, Bool.false_eq_true, if_false]
        go_enter Try.func21, Try.ntmps21
        go_wp2_with (first | (go_at_call 8; refine (c1 _).mono ?_; rintro e w' ⟨rfl, hq⟩; have hb := hidIt (below_next hb.out hq); clear hq))
        (try simp only [Exit.inBlock, Exit.then])
        refine bodyPost_ret (by simp [results, Try.results21, go_sem]; try rfl) rfl ?_
        exact ⟨rfl, hb.out⟩
      · have h8' : ((k : Int) == 8) = false := by simp; omega
        rw [decide_eq_false h8]
        simp only [Bool.not_false, if_true]
        clear h8
        go_enter Try.func21, Try.ntmps21
        go_wp2_with (first | (go_at_call 8; refine (c1 _).mono ?_; rintro e w' ⟨rfl, hq⟩; have hb := hidIt (below_next hb.out hq); clear hq))
        (try simp only [Exit.inBlock, Exit.then])
        refine bodyPost_ret (by simp [results, Try.results21, go_sem]; try rfl) rfl ?_
        exact ⟨by rw [E.out], hb.out⟩

theorem with_box (l : List UInt8) : withB true (plainL l) = boxable l := by
  unfold withB
  cases h : plainL l with
  | none => rw [boxable_not h]; rfl
  | some k =>
    have := plainL_le h
    rw [boxable_plain h]
    by_cases hk : k = 8
    · subst hk; rfl
    · simp [hk]; omega
theorem with_lent (l : List UInt8) : withB false (plainL l) = isPlain l := by
  unfold withB
  rw [plain_kind]
  simp

/-- What is made has its kind, and what it was made of behind it. -/
def Made (P l : List UInt8) (K : Nat) (b : Bool) : Prop := b = true → kindL (P ++ l) = K ∧ elemL (P ++ l) = l ∧ l ≠ []
theorem plain_ne {l : List UInt8} (h : plainL l ≠ none) : l ≠ [] := by
  rintro rfl
  exact h plainL_nil
theorem made_box (l : List UInt8) : Made boxP l 3 (boxable l) := by
  intro h
  cases hp : plainL l with
  | none => rw [boxable_not hp] at h; cases h
  | some k =>
    rw [boxable_plain hp, decide_eq_true_eq] at h
    have hb : plainL (boxP ++ l) ≠ none := by
      rw [plainL_box, hp]
      simp only
      rw [if_neg (by omega)]
      simp
    unfold kindL elemL
    rw [split_box, if_neg hb]
    exact ⟨rfl, rfl, plain_ne (by rw [hp]; simp)⟩
theorem made_ref (l : List UInt8) : Made refP l 4 (isPlain l) := by
  intro h
  rw [plain_kind] at h
  have hp : plainL l ≠ none := by intro e; rw [e] at h; cases h
  unfold kindL elemL
  rw [split_ref, if_neg hp]
  exact ⟨rfl, rfl, plain_ne hp⟩
theorem made_mut (l : List UInt8) : Made mutP l 5 (isPlain l) := by
  intro h
  rw [plain_kind] at h
  have hp : plainL l ≠ none := by intro e; rw [e] at h; cases h
  unfold kindL elemL
  rw [split_mut, if_neg hp]
  exact ⟨rfl, rfl, plain_ne hp⟩
theorem made_elem {P : List UInt8} {s : ByteArray} {K : Nat} (h : Made P s.data.toList K true) (hs : s.size ≤ 1000) (hP : P.length = 4) (w : World) :
    Calls Try.prog 9 #[.string (bs (P ++ s.data.toList))] w fun e w' => e = .returned (.tuple #[.string s, .bool true]) ∧ Below w.heap.size w w' := by
  obtain ⟨h1, h2, h3⟩ := h rfl
  have := elem_any (bs (P ++ s.data.toList)) (by rw [bs_size, List.length_append, ← size_list]; omega) w
  rw [bs_list, h2, bs_of] at this
  have e : (!s.data.toList.isEmpty) = true := by
    cases hq : s.data.toList with
    | nil => exact absurd hq h3
    | cons b l => rfl
  rw [e] at this
  exact this
theorem made_kind {P : List UInt8} {s : ByteArray} {K : Nat} (h : Made P s.data.toList K true) (hs : s.size ≤ 1000) (hP : P.length = 4) (w : World) :
    Calls Try.prog 13 #[.string (bs (P ++ s.data.toList))] w fun e w' => e = .returned (.int .i64 (K : Nat)) ∧ Below w.heap.size w w' := by
  obtain ⟨h1, h2, h3⟩ := h rfl
  have := kind_any (bs (P ++ s.data.toList)) (by rw [bs_size, List.length_append, ← size_list]; omega) w
  rw [bs_list, h1] at this
  exact this
theorem none_elem (w : World) : Calls Try.prog 9 #[.string (bs [])] w fun e w' => e = .returned (.tuple #[.string (bs []), .bool false]) ∧ Below w.heap.size w w' := by
  have := elem_any (bs []) (by decide) w
  rw [bs_list, show elemL [] = [] by kernel_rfl] at this
  exact this

def wordV : Array Value := #[.string ⟨#[98, 111, 120]⟩, .string ⟨#[114, 101, 102]⟩, .string ⟨#[109, 117, 116]⟩]
set_option maxHeartbeats 1000000 in
theorem makes_long (s : ByteArray) (hm : s.size ≤ maxLen) (hs : 300 < s.size) (w : World) :
    Calls Try.prog 4 #[.string s] w fun e w' => e = .returned (.bool true) ∧ Below w.heap.size w w' := by
  have c0 := alive_any
  have hs' : (300 : Int) < (s.size : Int) := by omega
  have hb := hidIt (Below.refl w.heap.size w)
  unfold maxLen at hm
  go_enter Try.func4, Try.ntmps4
  go_wp2_with (first | (go_at_call 7; refine (c0 _).mono ?_; rintro e w' ⟨rfl, hq⟩; have hb := hidIt (below_next hb.out hq); clear hq))
  go_ret
  exact ⟨rfl, hb.out⟩

theorem words_at {w : World} {B : Nat} (h : w.heap[B]? = some (.cells wordV 9 (0, 0))) :
    w.cell? ⟨B, 0, none⟩ = some (.string ⟨#[98, 111, 120]⟩) ∧ w.cell? ⟨B, 1, none⟩ = some (.string ⟨#[114, 101, 102]⟩) ∧ w.cell? ⟨B, 2, none⟩ = some (.string ⟨#[109, 117, 116]⟩) :=
  ⟨cell_at h 0, cell_at h 1, cell_at h 2⟩
theorem cells_on {w w' : World} {B : Nat} (h : w.heap[B]? = some (.cells wordV 9 (0, 0))) (hb : Below w.heap.size w w') : w'.heap[B]? = some (.cells wordV 9 (0, 0)) := heap_on h hb

set_option maxHeartbeats 4000000 in
theorem makes_main (s : ByteArray) (hs : s.size ≤ 300) (w : World) :
    Calls Try.prog 4 #[.string s] w fun e w' => e = .returned (.bool true) ∧ Below w.heap.size w w' := by
  have c0 := alive_any
  have hs' : (s.size : Int) ≤ 300 := by omega
  have hs3 : s.size ≤ 1000 := by omega
  have cB := box_any s (by omega)
  have cR := ref_any s (by omega)
  have cM := mut_any s (by omega)
  have hb := hidIt (Below.refl w.heap.size w)
  go_enter Try.func4, Try.ntmps4
  go_wp2_with (go_at_call 7; refine (c0 _).mono ?_)
  rintro e w0 ⟨rfl, hq⟩
  have hb := hidIt (below_next hb.out hq)
  clear hq c0
  have hst := hidIt (below_next hb.out (below_new w0 (.cells wordV 9 (0, 0))))
  have hsh : Hid ((w0.alloc (.cells wordV 9 (0, 0))).heap[w0.heap.size]? = some (.cells wordV 9 (0, 0))) := hidIt (heap_alloc_new w0 _)
  go_wp2
  go_loopw [4] (fun i wr => ∃ k : Nat, k ≤ 3 ∧ i = .int .i64 k ∧ Hid (wr.heap[w0.heap.size]? = some (.cells wordV 9 (0, 0))) ∧ Hid (Below w.heap.size w wr)) (fun i _ => 3 - (intOf i).toNat)
  case atStart => exact ⟨0, by omega, rfl, hsh, hst⟩
  case round =>
    clear hb hst hsh
    obtain ⟨k, hk, rfl, hh, hb⟩ := hrel
    obtain ⟨q0, q1, q2⟩ := words_at hh.out
    have hcase : k = 0 ∨ k = 1 ∨ k = 2 ∨ k = 3 := by omega
    rcases hcase with rfl | rfl | rfl | rfl
    · skip
      have cw := with_walk ⟨#[98, 111, 120]⟩ s boxP true rfl rfl (by rw [ByteArray.toList_eq]; rfl) hs3
      rw [with_box] at cw
      have hm := made_box s.data.toList
      unfold madeV at cw cB cR cM
      generalize boxable s.data.toList = bb at cw cB hm
      cases bb with
      | false =>
        simp only [Bool.false_eq_true, if_false] at cw cB cR cM
        have ce := none_elem
        clear hm
        go_wp2_with (first | (go_at_call 18; refine (cB _).mono ?_; rintro e w' ⟨rfl, hq⟩; have hh := hidIt (cells_on hh.out hq); have hb := hidIt (below_next hb.out hq); clear hq; obtain ⟨q0, q1, q2⟩ := words_at hh.out) | (go_at_call 21; refine (cw _).mono ?_))
        rintro e w2 ⟨rfl, hq⟩
        have hh := hidIt (cells_on hh.out hq)
        have hb := hidIt (below_next hb.out hq)
        clear hq q0 q1 q2
        go_wp2_with (first | (go_at_call 9; refine (ce _).mono ?_; rintro e w' ⟨rfl, hq⟩; have hh := hidIt (cells_on hh.out hq); have hb := hidIt (below_next hb.out hq); clear hq; obtain ⟨q0, q1, q2⟩ := words_at hh.out))
        go_roundw
        case rel => exact ⟨1, by omega, rfl, hh, hb⟩
        case measure => simp [intOf]
      | true =>
        simp only [if_true] at cw cB cR cM
        have ce := made_elem hm hs3 rfl
        have ck := made_kind hm hs3 rfl
        clear hm
        go_wp2_with (first | (go_at_call 18; refine (cB _).mono ?_; rintro e w' ⟨rfl, hq⟩; have hh := hidIt (cells_on hh.out hq); have hb := hidIt (below_next hb.out hq); clear hq; obtain ⟨q0, q1, q2⟩ := words_at hh.out) | (go_at_call 21; refine (cw _).mono ?_))
        rintro e w2 ⟨rfl, hq⟩
        have hh := hidIt (cells_on hh.out hq)
        have hb := hidIt (below_next hb.out hq)
        clear hq q0 q1 q2
        go_wp2_with (first | (go_at_call 9; refine (ce _).mono ?_; rintro e w' ⟨rfl, hq⟩; have hh := hidIt (cells_on hh.out hq); have hb := hidIt (below_next hb.out hq); clear hq; obtain ⟨q0, q1, q2⟩ := words_at hh.out) | (go_at_call 13; refine (ck _).mono ?_; rintro e w' ⟨rfl, hq⟩; have hh := hidIt (cells_on hh.out hq); have hb := hidIt (below_next hb.out hq); clear hq; obtain ⟨q0, q1, q2⟩ := words_at hh.out))
        go_roundw
        case rel => exact ⟨1, by omega, rfl, hh, hb⟩
        case measure => simp [intOf]
    · skip
      have cw := with_walk ⟨#[114, 101, 102]⟩ s refP false rfl rfl (by rw [ByteArray.toList_eq]; rfl) hs3
      rw [with_lent] at cw
      have hm := made_ref s.data.toList
      unfold madeV at cw cB cR cM
      generalize boxable s.data.toList = bb at cB
      generalize isPlain s.data.toList = pp at cw cR cM hm
      generalize (if bb = true then bs (boxP ++ s.data.toList) else bs []) = aa at cB
      cases pp with
      | false =>
        simp only [Bool.false_eq_true, if_false] at cw cB cR cM
        have ce := none_elem
        clear hm
        go_wp2_with (first | (go_at_call 18; refine (cB _).mono ?_; rintro e w' ⟨rfl, hq⟩; have hh := hidIt (cells_on hh.out hq); have hb := hidIt (below_next hb.out hq); clear hq; obtain ⟨q0, q1, q2⟩ := words_at hh.out) | (go_at_call 19; refine (cR _).mono ?_; rintro e w' ⟨rfl, hq⟩; have hh := hidIt (cells_on hh.out hq); have hb := hidIt (below_next hb.out hq); clear hq; obtain ⟨q0, q1, q2⟩ := words_at hh.out) | (go_at_call 21; refine (cw _).mono ?_))
        rintro e w2 ⟨rfl, hq⟩
        have hh := hidIt (cells_on hh.out hq)
        have hb := hidIt (below_next hb.out hq)
        clear hq q0 q1 q2
        go_wp2_with (first | (go_at_call 9; refine (ce _).mono ?_; rintro e w' ⟨rfl, hq⟩; have hh := hidIt (cells_on hh.out hq); have hb := hidIt (below_next hb.out hq); clear hq; obtain ⟨q0, q1, q2⟩ := words_at hh.out))
        go_roundw
        case rel => exact ⟨2, by omega, rfl, hh, hb⟩
        case measure => simp [intOf]
      | true =>
        simp only [if_true] at cw cB cR cM
        have ce := made_elem hm hs3 rfl
        have ck := made_kind hm hs3 rfl
        clear hm
        go_wp2_with (first | (go_at_call 18; refine (cB _).mono ?_; rintro e w' ⟨rfl, hq⟩; have hh := hidIt (cells_on hh.out hq); have hb := hidIt (below_next hb.out hq); clear hq; obtain ⟨q0, q1, q2⟩ := words_at hh.out) | (go_at_call 19; refine (cR _).mono ?_; rintro e w' ⟨rfl, hq⟩; have hh := hidIt (cells_on hh.out hq); have hb := hidIt (below_next hb.out hq); clear hq; obtain ⟨q0, q1, q2⟩ := words_at hh.out) | (go_at_call 21; refine (cw _).mono ?_))
        rintro e w2 ⟨rfl, hq⟩
        have hh := hidIt (cells_on hh.out hq)
        have hb := hidIt (below_next hb.out hq)
        clear hq q0 q1 q2
        go_wp2_with (first | (go_at_call 9; refine (ce _).mono ?_; rintro e w' ⟨rfl, hq⟩; have hh := hidIt (cells_on hh.out hq); have hb := hidIt (below_next hb.out hq); clear hq; obtain ⟨q0, q1, q2⟩ := words_at hh.out) | (go_at_call 13; refine (ck _).mono ?_; rintro e w' ⟨rfl, hq⟩; have hh := hidIt (cells_on hh.out hq); have hb := hidIt (below_next hb.out hq); clear hq; obtain ⟨q0, q1, q2⟩ := words_at hh.out))
        go_roundw
        case rel => exact ⟨2, by omega, rfl, hh, hb⟩
        case measure => simp [intOf]
    · skip
      have cw := with_walk ⟨#[109, 117, 116]⟩ s mutP false rfl rfl (by rw [ByteArray.toList_eq]; rfl) hs3
      rw [with_lent] at cw
      have hm := made_mut s.data.toList
      unfold madeV at cw cB cR cM
      generalize boxable s.data.toList = bb at cB
      generalize isPlain s.data.toList = pp at cw cR cM hm
      generalize (if bb = true then bs (boxP ++ s.data.toList) else bs []) = aa at cB
      cases pp with
      | false =>
        simp only [Bool.false_eq_true, if_false] at cw cB cR cM
        have ce := none_elem
        clear hm
        go_wp2_with (first | (go_at_call 18; refine (cB _).mono ?_; rintro e w' ⟨rfl, hq⟩; have hh := hidIt (cells_on hh.out hq); have hb := hidIt (below_next hb.out hq); clear hq; obtain ⟨q0, q1, q2⟩ := words_at hh.out) | (go_at_call 20; refine (cM _).mono ?_; rintro e w' ⟨rfl, hq⟩; have hh := hidIt (cells_on hh.out hq); have hb := hidIt (below_next hb.out hq); clear hq; obtain ⟨q0, q1, q2⟩ := words_at hh.out) | (go_at_call 21; refine (cw _).mono ?_))
        rintro e w2 ⟨rfl, hq⟩
        have hh := hidIt (cells_on hh.out hq)
        have hb := hidIt (below_next hb.out hq)
        clear hq q0 q1 q2
        go_wp2_with (first | (go_at_call 9; refine (ce _).mono ?_; rintro e w' ⟨rfl, hq⟩; have hh := hidIt (cells_on hh.out hq); have hb := hidIt (below_next hb.out hq); clear hq; obtain ⟨q0, q1, q2⟩ := words_at hh.out))
        go_roundw
        case rel => exact ⟨3, by omega, rfl, hh, hb⟩
        case measure => simp [intOf]
      | true =>
        simp only [if_true] at cw cB cR cM
        have ce := made_elem hm hs3 rfl
        have ck := made_kind hm hs3 rfl
        clear hm
        go_wp2_with (first | (go_at_call 18; refine (cB _).mono ?_; rintro e w' ⟨rfl, hq⟩; have hh := hidIt (cells_on hh.out hq); have hb := hidIt (below_next hb.out hq); clear hq; obtain ⟨q0, q1, q2⟩ := words_at hh.out) | (go_at_call 20; refine (cM _).mono ?_; rintro e w' ⟨rfl, hq⟩; have hh := hidIt (cells_on hh.out hq); have hb := hidIt (below_next hb.out hq); clear hq; obtain ⟨q0, q1, q2⟩ := words_at hh.out) | (go_at_call 21; refine (cw _).mono ?_))
        rintro e w2 ⟨rfl, hq⟩
        have hh := hidIt (cells_on hh.out hq)
        have hb := hidIt (below_next hb.out hq)
        clear hq q0 q1 q2
        go_wp2_with (first | (go_at_call 9; refine (ce _).mono ?_; rintro e w' ⟨rfl, hq⟩; have hh := hidIt (cells_on hh.out hq); have hb := hidIt (below_next hb.out hq); clear hq; obtain ⟨q0, q1, q2⟩ := words_at hh.out) | (go_at_call 13; refine (ck _).mono ?_; rintro e w' ⟨rfl, hq⟩; have hh := hidIt (cells_on hh.out hq); have hb := hidIt (below_next hb.out hq); clear hq; obtain ⟨q0, q1, q2⟩ := words_at hh.out))
        go_roundw
        case rel => exact ⟨3, by omega, rfl, hh, hb⟩
        case measure => simp [intOf]
    · go_wp2
      go_ret
      exact ⟨rfl, hb.out⟩

theorem makes_walk (s : ByteArray) (hs : s.size ≤ maxLen) (w : World) :
    Calls Try.prog 4 #[.string s] w fun e w' => e = .returned (.bool true) ∧ Below w.heap.size w w' := by
  by_cases h : 300 < s.size
  · exact makes_long s hs h w
  · exact makes_main s (by omega) w
end Go.Proofs.Ytkohdnjgpclnoaa
