/-
  The walks of split, and of what is asked of it: Kind, Elem, Base, Deep, Plain, wrap, Box, Ref, Mut.
-/
import Derived.Test.YtkohdnjgpclnoaaKind
namespace Go.Proofs.Ytkohdnjgpclnoaa
set_option linter.unusedVariables false
open Go.RowKit

def partsV (p : Parts) : Value := .agg #[.int .i64 (p.kind : Nat), .string (bs p.elem), .int .i64 (p.deep : Nat), .string (bs p.base)]

theorem unboxL_len : ∀ (n : Nat) (l : List UInt8), (unboxL n l).2.length ≤ l.length
  | 0, l => Nat.le_refl _
  | n + 1, l => by
    rw [unboxL]
    split
    · have := unboxL_len n (l.drop 4)
      rw [List.length_drop] at this
      simp only
      omega
    · exact Nat.le_refl _
theorem unboxL_le : ∀ (n : Nat) (l : List UInt8), (unboxL n l).1 ≤ n
  | 0, l => Nat.le_refl _
  | n + 1, l => by
    rw [unboxL]
    split
    · have := unboxL_le n (l.drop 4)
      simp only
      omega
    · exact Nat.zero_le _
theorem frontL_len (l : List UInt8) : (frontL l).2.length ≤ l.length := by
  unfold frontL
  split
  · simp
  · split
    · simp
    · split <;> simp
theorem split_len (l : List UInt8) : (splitL l).elem.length ≤ l.length ∧ (splitL l).base.length ≤ l.length ∧ (splitL l).deep ≤ 8 := by
  have h1 := frontL_len l
  have hq : (if (frontL l).1 = 4 ∨ (frontL l).1 = 5 then (frontL l).2 else l).length ≤ l.length := by
    split
    · exact h1
    · exact Nat.le_refl _
  unfold splitL
  simp only
  generalize (if (frontL l).1 = 4 ∨ (frontL l).1 = 5 then (frontL l).2 else l) = q at hq ⊢
  have h2 := unboxL_len 8 q
  split
  · simp [noParts]
  · exact ⟨h1, Nat.le_trans h2 hq, unboxL_le 8 _⟩

theorem fld0 (a b c d : Value) (w : World) : (Sem.run Try.prog (Instr.field 32 (.agg #[a, b, c, d]) 0)) w = .ok a w := by kernel_rfl
theorem fld1 (a b c d : Value) (w : World) : (Sem.run Try.prog (Instr.field 32 (.agg #[a, b, c, d]) 1)) w = .ok b w := by kernel_rfl
theorem fld2 (a b c d : Value) (w : World) : (Sem.run Try.prog (Instr.field 32 (.agg #[a, b, c, d]) 2)) w = .ok c w := by kernel_rfl
theorem fld3 (a b c d : Value) (w : World) : (Sem.run Try.prog (Instr.field 32 (.agg #[a, b, c, d]) 3)) w = .ok d w := by kernel_rfl

set_option maxHeartbeats 1000000 in
theorem split_walk (s p : ByteArray) (f1 u1 g : Nat) (f2 u2 : List UInt8) (hs : s.size ≤ 100000000)
    (c1 : ∀ w, Calls Try.prog 33 #[.string s] w fun e w' => e = .returned (.tuple #[.int .i64 (f1 : Nat), .string (bs f2)]) ∧ w = w')
    (hp : p = if f1 = 4 ∨ f1 = 5 then bs f2 else s)
    (c2 : ∀ w, Calls Try.prog 34 #[.string p] w fun e w' => e = .returned (.tuple #[.int .i64 (u1 : Nat), .string (bs u2)]) ∧ w = w')
    (c3 : ∀ w, Calls Try.prog 35 #[.string (bs u2)] w fun e w' => e = .returned (.int .i64 (g : Nat)) ∧ Below w.heap.size w w') (w : World) :
    Calls Try.prog 27 #[.string s] w fun e w' => e = .returned (partsV (if g = 0 then noParts else ⟨if f1 = 0 then g else f1, f2, u1, u2⟩)) ∧ Below w.heap.size w w' := by
  have g0 : g = 0 ∨ ((g : Int) == 0) = false := by
    by_cases h : g = 0
    · exact .inl h
    · exact .inr (by simp; omega)
  by_cases h4 : f1 = 4
  · subst h4
    rw [if_pos (.inl rfl)] at hp
    subst hp
    rcases g0 with rfl | g0
    · go_enter Try.func27, Try.ntmps27
      go_wp2_with (first | (go_at_call 33; refine (c1 _).mono ?_; rintro e w' ⟨rfl, rfl⟩) | (go_at_call 34; refine (c2 _).mono ?_; rintro e w' ⟨rfl, rfl⟩) | (go_at_call 35; refine (c3 _).mono ?_; rintro e w' ⟨rfl, hb⟩; obtain ⟨q0, q1, q2, q3, k0, k1, k2, k3⟩ := box4 hb; have hb := hidIt hb))
      (try simp only [Exit.inBlock, Exit.then])
      refine bodyPost_ret (by simp [results, Try.results27, go_sem, q0, q1, q2, q3]; try rfl) rfl ?_
      exact ⟨rfl, below_put (below_put (below_put (below_put (below_box hb.out) _ _) _ _) _ _) _ _⟩
    · have hg : g ≠ 0 := by intro h; subst h; simp at g0
      rw [if_neg hg, if_neg (by decide : ¬ (4 : Nat) = 0)]
      clear hg
      go_enter Try.func27, Try.ntmps27
      go_wp2_with (first | (go_at_call 33; refine (c1 _).mono ?_; rintro e w' ⟨rfl, rfl⟩) | (go_at_call 34; refine (c2 _).mono ?_; rintro e w' ⟨rfl, rfl⟩) | (go_at_call 35; refine (c3 _).mono ?_; rintro e w' ⟨rfl, hb⟩; obtain ⟨q0, q1, q2, q3, k0, k1, k2, k3⟩ := box4 hb; have hb := hidIt hb))
      (try simp only [Exit.inBlock, Exit.then])
      refine bodyPost_ret (by simp [results, Try.results27, go_sem, q0, q1, q2, q3]; try rfl) rfl ?_
      exact ⟨rfl, below_put (below_put (below_put (below_put (below_box hb.out) _ _) _ _) _ _) _ _⟩
  · have h4' : ((f1 : Int) == 4) = false := by simp; omega
    by_cases h5 : f1 = 5
    · subst h5
      rw [if_pos (.inr rfl)] at hp
      subst hp
      clear h4 h4'
      rcases g0 with rfl | g0
      · go_enter Try.func27, Try.ntmps27
        go_wp2_with (first | (go_at_call 33; refine (c1 _).mono ?_; rintro e w' ⟨rfl, rfl⟩) | (go_at_call 34; refine (c2 _).mono ?_; rintro e w' ⟨rfl, rfl⟩) | (go_at_call 35; refine (c3 _).mono ?_; rintro e w' ⟨rfl, hb⟩; obtain ⟨q0, q1, q2, q3, k0, k1, k2, k3⟩ := box4 hb; have hb := hidIt hb))
        (try simp only [Exit.inBlock, Exit.then])
        refine bodyPost_ret (by simp [results, Try.results27, go_sem, q0, q1, q2, q3]; try rfl) rfl ?_
        exact ⟨rfl, below_put (below_put (below_put (below_put (below_box hb.out) _ _) _ _) _ _) _ _⟩
      · have hg : g ≠ 0 := by intro h; subst h; simp at g0
        rw [if_neg hg, if_neg (by decide : ¬ (5 : Nat) = 0)]
        clear hg
        go_enter Try.func27, Try.ntmps27
        go_wp2_with (first | (go_at_call 33; refine (c1 _).mono ?_; rintro e w' ⟨rfl, rfl⟩) | (go_at_call 34; refine (c2 _).mono ?_; rintro e w' ⟨rfl, rfl⟩) | (go_at_call 35; refine (c3 _).mono ?_; rintro e w' ⟨rfl, hb⟩; obtain ⟨q0, q1, q2, q3, k0, k1, k2, k3⟩ := box4 hb; have hb := hidIt hb))
        (try simp only [Exit.inBlock, Exit.then])
        refine bodyPost_ret (by simp [results, Try.results27, go_sem, q0, q1, q2, q3]; try rfl) rfl ?_
        exact ⟨rfl, below_put (below_put (below_put (below_put (below_box hb.out) _ _) _ _) _ _) _ _⟩
    · have h5' : ((f1 : Int) == 5) = false := by simp; omega
      rw [if_neg (by rintro (h | h); exact h4 h; exact h5 h)] at hp
      subst hp
      clear h4 h5
      rcases g0 with rfl | g0
      · go_enter Try.func27, Try.ntmps27
        go_wp2_with (first | (go_at_call 33; refine (c1 _).mono ?_; rintro e w' ⟨rfl, rfl⟩) | (go_at_call 34; refine (c2 _).mono ?_; rintro e w' ⟨rfl, rfl⟩) | (go_at_call 35; refine (c3 _).mono ?_; rintro e w' ⟨rfl, hb⟩; obtain ⟨q0, q1, q2, q3, k0, k1, k2, k3⟩ := box4 hb; have hb := hidIt hb))
        (try simp only [Exit.inBlock, Exit.then])
        refine bodyPost_ret (by simp [results, Try.results27, go_sem, q0, q1, q2, q3]; try rfl) rfl ?_
        exact ⟨rfl, below_put (below_put (below_put (below_put (below_box hb.out) _ _) _ _) _ _) _ _⟩
      · have hg : g ≠ 0 := by intro h; subst h; simp at g0
        rw [if_neg hg]
        clear hg
        by_cases h0 : f1 = 0
        · have h0' : ((f1 : Int) == 0) = true := by simp; omega
          rw [if_pos h0]
          clear h0
          go_enter Try.func27, Try.ntmps27
          go_wp2_with (first | (go_at_call 33; refine (c1 _).mono ?_; rintro e w' ⟨rfl, rfl⟩) | (go_at_call 34; refine (c2 _).mono ?_; rintro e w' ⟨rfl, rfl⟩) | (go_at_call 35; refine (c3 _).mono ?_; rintro e w' ⟨rfl, hb⟩; obtain ⟨q0, q1, q2, q3, k0, k1, k2, k3⟩ := box4 hb; have hb := hidIt hb))
          (try simp only [Exit.inBlock, Exit.then])
          refine bodyPost_ret (by simp [results, Try.results27, go_sem, q0, q1, q2, q3]; try rfl) rfl ?_
          exact ⟨rfl, below_put (below_put (below_put (below_put (below_box hb.out) _ _) _ _) _ _) _ _⟩
        · have h0' : ((f1 : Int) == 0) = false := by simp; omega
          rw [if_neg h0]
          clear h0
          go_enter Try.func27, Try.ntmps27
          go_wp2_with (first | (go_at_call 33; refine (c1 _).mono ?_; rintro e w' ⟨rfl, rfl⟩) | (go_at_call 34; refine (c2 _).mono ?_; rintro e w' ⟨rfl, rfl⟩) | (go_at_call 35; refine (c3 _).mono ?_; rintro e w' ⟨rfl, hb⟩; obtain ⟨q0, q1, q2, q3, k0, k1, k2, k3⟩ := box4 hb; have hb := hidIt hb))
          (try simp only [Exit.inBlock, Exit.then])
          refine bodyPost_ret (by simp [results, Try.results27, go_sem, q0, q1, q2, q3]; try rfl) rfl ?_
          exact ⟨rfl, below_put (below_put (below_put (below_put (below_box hb.out) _ _) _ _) _ _) _ _⟩

theorem split_any (s : ByteArray) (hs : s.size ≤ 100000000) (w : World) :
    Calls Try.prog 27 #[.string s] w fun e w' => e = .returned (partsV (splitL s.data.toList)) ∧ Below w.heap.size w w' := by
  have hf := frontL_len s.data.toList
  have h := split_walk s (if (frontL s.data.toList).1 = 4 ∨ (frontL s.data.toList).1 = 5 then bs (frontL s.data.toList).2 else s) (frontL s.data.toList).1
    (unboxL 8 (if (frontL s.data.toList).1 = 4 ∨ (frontL s.data.toList).1 = 5 then (frontL s.data.toList).2 else s.data.toList)).1
    (leafL (unboxL 8 (if (frontL s.data.toList).1 = 4 ∨ (frontL s.data.toList).1 = 5 then (frontL s.data.toList).2 else s.data.toList)).2)
    (frontL s.data.toList).2 (unboxL 8 (if (frontL s.data.toList).1 = 4 ∨ (frontL s.data.toList).1 = 5 then (frontL s.data.toList).2 else s.data.toList)).2 hs (front_any s) rfl
    (by
      intro w
      have e : (if (frontL s.data.toList).1 = 4 ∨ (frontL s.data.toList).1 = 5 then (frontL s.data.toList).2 else s.data.toList) = (if (frontL s.data.toList).1 = 4 ∨ (frontL s.data.toList).1 = 5 then bs (frontL s.data.toList).2 else s).data.toList := by split <;> rfl
      rw [e]
      exact unbox_any _ w)
    (by
      intro w
      have := leaf_any (bs (unboxL 8 (if (frontL s.data.toList).1 = 4 ∨ (frontL s.data.toList).1 = 5 then (frontL s.data.toList).2 else s.data.toList)).2) (by
        rw [bs_size]
        have h1 := unboxL_len 8 (if (frontL s.data.toList).1 = 4 ∨ (frontL s.data.toList).1 = 5 then (frontL s.data.toList).2 else s.data.toList)
        have h2 : (if (frontL s.data.toList).1 = 4 ∨ (frontL s.data.toList).1 = 5 then (frontL s.data.toList).2 else s.data.toList).length ≤ s.data.toList.length := by split <;> omega
        rw [← size_list] at h2
        omega) w
      exact this) w
  exact h

set_option maxHeartbeats 400000 in
theorem kind_any (s : ByteArray) (hs : s.size ≤ 100000000) (w : World) :
    Calls Try.prog 13 #[.string s] w fun e w' => e = .returned (.int .i64 (kindL s.data.toList : Nat)) ∧ Below w.heap.size w w' := by
  have c1 := split_any s hs
  unfold kindL
  unfold partsV at c1
  generalize splitL s.data.toList = p at c1 ⊢
  have hf := fld0
  go_enter Try.func13, Try.ntmps13
  go_wp2_with (first | (go_at_call 27; refine (c1 _).mono ?_; rintro e w' ⟨rfl, hb⟩; have hb := hidIt hb))
  go_ret
  exact ⟨rfl, hb.out⟩
set_option maxHeartbeats 400000 in
theorem deep_any (s : ByteArray) (hs : s.size ≤ 100000000) (w : World) :
    Calls Try.prog 16 #[.string s] w fun e w' => e = .returned (.int .i64 (deepL s.data.toList : Nat)) ∧ Below w.heap.size w w' := by
  have c1 := split_any s hs
  unfold deepL
  unfold partsV at c1
  generalize splitL s.data.toList = p at c1 ⊢
  have hf := fld2
  go_enter Try.func16, Try.ntmps16
  go_wp2_with (first | (go_at_call 27; refine (c1 _).mono ?_; rintro e w' ⟨rfl, hb⟩; have hb := hidIt hb))
  go_ret
  exact ⟨rfl, hb.out⟩
set_option maxHeartbeats 400000 in
theorem elem_any (s : ByteArray) (hs : s.size ≤ 100000000) (w : World) :
    Calls Try.prog 9 #[.string s] w fun e w' => e = .returned (.tuple #[.string (bs (elemL s.data.toList)), .bool (!(elemL s.data.toList).isEmpty)]) ∧ Below w.heap.size w w' := by
  have c1 := split_any s hs
  have hl : (splitL s.data.toList).elem.length ≤ 100000000 := by have := (split_len s.data.toList).1; rw [← size_list] at this; omega
  have c2 := answer_any (bs (splitL s.data.toList).elem) (by rw [bs_size]; exact hl)
  rw [bs_list] at c2
  unfold elemL
  unfold partsV at c1
  clear hl
  generalize splitL s.data.toList = p at c1 c2 ⊢
  generalize (!p.elem.isEmpty) = b at c2 ⊢
  have hf := fld1
  go_enter Try.func9, Try.ntmps9
  go_wp2_with (first | (go_at_call 27; refine (c1 _).mono ?_; rintro e w' ⟨rfl, hb⟩; have hb := hidIt hb) | (go_at_call 26; refine (c2 _).mono ?_; rintro e w2 ⟨rfl, hb2⟩; have hb2 := hidIt hb2))
  (try simp only [Exit.inBlock, Exit.then])
  refine bodyPost_ret (by simp [results, Try.results9, go_sem]; try rfl) rfl ?_
  exact ⟨rfl, below_next hb.out hb2.out⟩
set_option maxHeartbeats 400000 in
theorem base_any (s : ByteArray) (hs : s.size ≤ 100000000) (w : World) :
    Calls Try.prog 11 #[.string s] w fun e w' => e = .returned (.tuple #[.string (bs (baseL s.data.toList)), .bool (!(baseL s.data.toList).isEmpty)]) ∧ Below w.heap.size w w' := by
  have c1 := split_any s hs
  have hl : (splitL s.data.toList).base.length ≤ 100000000 := by have := (split_len s.data.toList).2.1; rw [← size_list] at this; omega
  have c2 := answer_any (bs (splitL s.data.toList).base) (by rw [bs_size]; exact hl)
  rw [bs_list] at c2
  unfold baseL
  unfold partsV at c1
  clear hl
  generalize splitL s.data.toList = p at c1 c2 ⊢
  generalize (!p.base.isEmpty) = b at c2 ⊢
  have hf := fld3
  go_enter Try.func11, Try.ntmps11
  go_wp2_with (first | (go_at_call 27; refine (c1 _).mono ?_; rintro e w' ⟨rfl, hb⟩; have hb := hidIt hb) | (go_at_call 26; refine (c2 _).mono ?_; rintro e w2 ⟨rfl, hb2⟩; have hb2 := hidIt hb2))
  (try simp only [Exit.inBlock, Exit.then])
  refine bodyPost_ret (by simp [results, Try.results11, go_sem]; try rfl) rfl ?_
  exact ⟨rfl, below_next hb.out hb2.out⟩

set_option maxHeartbeats 400000 in
theorem plain_any (s : ByteArray) (hs : s.size ≤ 100000000) (w : World) :
    Calls Try.prog 15 #[.string s] w fun e w' => e = .returned (.bool (isPlain s.data.toList)) ∧ Below w.heap.size w w' := by
  have c1 := kind_any s hs
  unfold isPlain
  generalize kindL s.data.toList = k at c1 ⊢
  by_cases h1 : k = 1
  · subst h1
    go_enter Try.func15, Try.ntmps15
    go_wp2_with (first | (go_at_call 13; refine (c1 _).mono ?_; rintro e w' ⟨rfl, hb⟩; have hb := hidIt hb))
    go_ret
    exact ⟨rfl, hb.out⟩
  · by_cases h2 : k = 2
    · subst h2
      go_enter Try.func15, Try.ntmps15
      go_wp2_with (first | (go_at_call 13; refine (c1 _).mono ?_; rintro e w' ⟨rfl, hb⟩; have hb := hidIt hb))
      go_ret
      exact ⟨rfl, hb.out⟩
    · by_cases h3 : k = 3
      · subst h3
        go_enter Try.func15, Try.ntmps15
        go_wp2_with (first | (go_at_call 13; refine (c1 _).mono ?_; rintro e w' ⟨rfl, hb⟩; have hb := hidIt hb))
        go_ret
        exact ⟨rfl, hb.out⟩
      · have e1 : ((k : Int) == 1) = false := by simp; omega
        have e2 : ((k : Int) == 2) = false := by simp; omega
        have e3 : ((k : Int) == 3) = false := by simp; omega
        rw [decide_eq_false h1, decide_eq_false h2, decide_eq_false h3]
        clear h1 h2 h3
        go_enter Try.func15, Try.ntmps15
        go_wp2_with (first | (go_at_call 13; refine (c1 _).mono ?_; rintro e w' ⟨rfl, hb⟩; have hb := hidIt hb))
        go_ret
        exact ⟨rfl, hb.out⟩

set_option maxHeartbeats 400000 in
theorem wrap_any (f s : ByteArray) (hf : f.size ≤ 100) (hs : s.size ≤ 100000000) (w : World) :
    Calls Try.prog 28 #[.string f, .string s] w fun e w' => e = .returned (.tuple #[.string (if isPlain s.data.toList then f ++ s else ⟨#[]⟩), .bool (isPlain s.data.toList)]) ∧ Below w.heap.size w w' := by
  have c1 := plain_any s hs
  cases hp : isPlain s.data.toList with
  | true =>
    rw [hp] at c1
    clear hp
    go_enter Try.func28, Try.ntmps28
    go_wp2_with (first | (go_at_call 15; refine (c1 _).mono ?_; rintro e w' ⟨rfl, hb⟩; have hb := hidIt hb))
    (try simp only [Exit.inBlock, Exit.then])
    refine bodyPost_ret (by simp [results, Try.results28, go_sem]; try rfl) rfl ?_
    exact ⟨rfl, hb.out⟩
  | false =>
    rw [hp] at c1
    clear hp
    go_enter Try.func28, Try.ntmps28
    go_wp2_with (first | (go_at_call 15; refine (c1 _).mono ?_; rintro e w' ⟨rfl, hb⟩; have hb := hidIt hb))
    (try simp only [Exit.inBlock, Exit.then])
    refine bodyPost_ret (by simp [results, Try.results28, go_sem]; try rfl) rfl ?_
    exact ⟨rfl, hb.out⟩

/-- A text and whether there is one. -/
def madeV (p : List UInt8) (l : List UInt8) (b : Bool) : Value := .tuple #[.string (if b then bs (p ++ l) else bs []), .bool b]
theorem bs_app (p : List UInt8) (s : ByteArray) : (⟨p.toArray⟩ : ByteArray) ++ s = bs (p ++ s.data.toList) := by
  apply ByteArray.ext
  simp [bs]

set_option maxHeartbeats 400000 in
theorem ref_any (s : ByteArray) (hs : s.size ≤ 100000000) (w : World) :
    Calls Try.prog 19 #[.string s] w fun e w' => e = .returned (madeV refP s.data.toList (isPlain s.data.toList)) ∧ Below w.heap.size w w' := by
  have c1 := wrap_any ⟨#[114, 101, 102, 32]⟩ s (by decide) hs
  have e : (⟨#[114, 101, 102, 32]⟩ : ByteArray) ++ s = bs (refP ++ s.data.toList) := bs_app refP s
  rw [e] at c1
  clear e
  unfold madeV
  generalize bs (refP ++ s.data.toList) = m at c1 ⊢
  generalize isPlain s.data.toList = b at c1 ⊢
  have eb : (⟨#[]⟩ : ByteArray) = bs [] := rfl
  rw [eb] at c1
  clear eb
  generalize (if b = true then m else bs []) = m at c1 ⊢
  go_enter Try.func19, Try.ntmps19
  go_wp2_with (first | (go_at_call 28; refine (c1 _).mono ?_; rintro e w' ⟨rfl, hb⟩; have hb := hidIt hb))
  (try simp only [Exit.inBlock, Exit.then])
  refine bodyPost_ret (by simp [results, Try.results19, go_sem]; try rfl) rfl ?_
  exact ⟨rfl, hb.out⟩
set_option maxHeartbeats 400000 in
theorem mut_any (s : ByteArray) (hs : s.size ≤ 100000000) (w : World) :
    Calls Try.prog 20 #[.string s] w fun e w' => e = .returned (madeV mutP s.data.toList (isPlain s.data.toList)) ∧ Below w.heap.size w w' := by
  have c1 := wrap_any ⟨#[109, 117, 116, 32]⟩ s (by decide) hs
  have e : (⟨#[109, 117, 116, 32]⟩ : ByteArray) ++ s = bs (mutP ++ s.data.toList) := bs_app mutP s
  rw [e] at c1
  clear e
  unfold madeV
  generalize bs (mutP ++ s.data.toList) = m at c1 ⊢
  generalize isPlain s.data.toList = b at c1 ⊢
  have eb : (⟨#[]⟩ : ByteArray) = bs [] := rfl
  rw [eb] at c1
  clear eb
  generalize (if b = true then m else bs []) = m at c1 ⊢
  go_enter Try.func20, Try.ntmps20
  go_wp2_with (first | (go_at_call 28; refine (c1 _).mono ?_; rintro e w' ⟨rfl, hb⟩; have hb := hidIt hb))
  (try simp only [Exit.inBlock, Exit.then])
  refine bodyPost_ret (by simp [results, Try.results20, go_sem]; try rfl) rfl ?_
  exact ⟨rfl, hb.out⟩
/-- May it have one box more? -/
def boxable (l : List UInt8) : Bool := isPlain l && !decide (deepL l = 8)
set_option maxHeartbeats 400000 in
theorem box_any (s : ByteArray) (hs : s.size ≤ 100000000) (w : World) :
    Calls Try.prog 18 #[.string s] w fun e w' => e = .returned (madeV boxP s.data.toList (boxable s.data.toList)) ∧ Below w.heap.size w w' := by
  have c1 := wrap_any ⟨#[98, 111, 120, 32]⟩ s (by decide) hs
  have c2 := deep_any s hs
  have e : (⟨#[98, 111, 120, 32]⟩ : ByteArray) ++ s = bs (boxP ++ s.data.toList) := bs_app boxP s
  rw [e] at c1
  clear e
  unfold madeV boxable
  generalize bs (boxP ++ s.data.toList) = m at c1 ⊢
  generalize isPlain s.data.toList = b at c1 ⊢
  have eb : (⟨#[]⟩ : ByteArray) = bs [] := rfl
  rw [eb] at c1
  clear eb
  generalize deepL s.data.toList = d at c2 ⊢
  by_cases hd : d = 8
  · subst hd
    have e8 : (b && !decide ((8 : Nat) = 8)) = false := by simp
    rw [e8, if_neg (by simp)]
    clear e8
    go_enter Try.func18, Try.ntmps18
    go_wp2_with (first | (go_at_call 16; refine (c2 _).mono ?_; rintro e w' ⟨rfl, hb⟩; have hb := hidIt hb))
    (try simp only [Exit.inBlock, Exit.then])
    refine bodyPost_ret (by simp [results, Try.results18, go_sem]; try rfl) rfl ?_
    exact ⟨rfl, hb.out⟩
  · have hd' : ((d : Int) == 8) = false := by simp; omega
    rw [decide_eq_false hd, Bool.not_false, Bool.and_true]
    clear hd
    generalize (if b = true then m else bs []) = m at c1 ⊢
    go_enter Try.func18, Try.ntmps18
    go_wp2_with (first | (go_at_call 16; refine (c2 _).mono ?_; rintro e w' ⟨rfl, hb⟩; have hb := hidIt hb) | (go_at_call 28; refine (c1 _).mono ?_; rintro e w2 ⟨rfl, hb2⟩; have hb2 := hidIt hb2))
    (try simp only [Exit.inBlock, Exit.then])
    refine bodyPost_ret (by simp [results, Try.results18, go_sem]; try rfl) rfl ?_
    exact ⟨rfl, below_next hb.out hb2.out⟩
end Go.Proofs.Ytkohdnjgpclnoaa
