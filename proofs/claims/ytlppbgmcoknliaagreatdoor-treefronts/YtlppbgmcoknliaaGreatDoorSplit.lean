/-
  The walks of split, and of what is asked of it: Kind, Elem, Base, Deep, Plain, wrap, Box, Ref, Mut.
-/
import Derived.Test.YtlppbgmcoknliaaGreatDoorKind
namespace Go.Proofs.YtlppbgmcoknliaaGreatDoor
set_option linter.unusedVariables false
open Go.RowKit

def partsV (p : Parts) : Value := .agg #[.int .i64 (p.kind : Nat), .string (bs p.elem), .int .i64 (p.deep : Nat), .string (bs p.base)]

theorem unboxL_len : ∀ (n : Nat) (l : List UInt8), (unboxL n l).2.length ≤ l.length
  | 0, l => Nat.le_refl _
  | n + 1, l => by
    rw [unboxL]
    split
    · have := unboxL_len n (l.drop 4)
      rw [List.length_drop] at this
      simp only
      omega
    · exact Nat.le_refl _
theorem unboxL_le : ∀ (n : Nat) (l : List UInt8), (unboxL n l).1 ≤ n
  | 0, l => Nat.le_refl _
  | n + 1, l => by
    rw [unboxL]
    split
    · have := unboxL_le n (l.drop 4)
      simp only
      omega
    · exact Nat.zero_le _
theorem frontL_len (l : List UInt8) : (frontL l).2.length ≤ l.length := by
  unfold frontL
  split
  · simp
  · split
    · simp
    · split <;> simp
theorem split_len (l : List UInt8) : (splitL l).elem.length ≤ l.length ∧ (splitL l).base.length ≤ l.length ∧ (splitL l).deep ≤ 8 := by
  have h1 := frontL_len l
  have hq : (if (frontL l).1 = 4 ∨ (frontL l).1 = 5 then (frontL l).2 else l).length ≤ l.length := by
    split
    · exact h1
    · exact Nat.le_refl _
  unfold splitL
  simp only
  generalize (if (frontL l).1 = 4 ∨ (frontL l).1 = 5 then (frontL l).2 else l) = q at hq ⊢
  have h2 := unboxL_len 8 q
  split
  · simp [noParts]
  · exact ⟨h1, Nat.le_trans h2 hq, unboxL_le 8 _⟩

theorem fld0 (a b c d : Value) (w : World) : (Sem.run Tryz.prog (Instr.field 165 (.agg #[a, b, c, d]) 0)) w = .ok a w := by kernel_rfl
theorem fld1 (a b c d : Value) (w : World) : (Sem.run Tryz.prog (Instr.field 165 (.agg #[a, b, c, d]) 1)) w = .ok b w := by kernel_rfl
theorem fld2 (a b c d : Value) (w : World) : (Sem.run Tryz.prog (Instr.field 165 (.agg #[a, b, c, d]) 2)) w = .ok c w := by kernel_rfl
theorem fld3 (a b c d : Value) (w : World) : (Sem.run Tryz.prog (Instr.field 165 (.agg #[a, b, c, d]) 3)) w = .ok d w := by kernel_rfl

set_option maxHeartbeats 1000000 in
theorem split_walk (s p : ByteArray) (f1 u1 g : Nat) (f2 u2 : List UInt8) (hs : s.size ≤ 100000000)
    (c1 : ∀ w, Calls Tryz.prog 164 #[.string s] w fun e w' => e = .returned (.tuple #[.int .i64 (f1 : Nat), .string (bs f2)]) ∧ w = w')
    (hp : p = if f1 = 4 ∨ f1 = 5 then bs f2 else s)
    (c2 : ∀ w, Calls Tryz.prog 165 #[.string p] w fun e w' => e = .returned (.tuple #[.int .i64 (u1 : Nat), .string (bs u2)]) ∧ w = w')
    (c3 : ∀ w, Calls Tryz.prog 166 #[.string (bs u2)] w fun e w' => e = .returned (.int .i64 (g : Nat)) ∧ Below w.heap.size w w') (w : World) :
    Calls Tryz.prog 133 #[.string s] w fun e w' => e = .returned (partsV (if g = 0 then noParts else ⟨if f1 = 0 then g else f1, f2, u1, u2⟩)) ∧ Below w.heap.size w w' := by
  have g0 : g = 0 ∨ ((g : Int) == 0) = false := by
    by_cases h : g = 0
    · exact .inl h
    · exact .inr (by simp; omega)
  by_cases h4 : f1 = 4
  · subst h4
    rw [if_pos (.inl rfl)] at hp
    subst hp
    rcases g0 with rfl | g0
    · go_enter Tryz.func133, Tryz.ntmps133
      go_wp2_with (first | (go_at_call 164; refine (c1 _).mono ?_; rintro e w' ⟨rfl, rfl⟩) | (go_at_call 165; refine (c2 _).mono ?_; rintro e w' ⟨rfl, rfl⟩) | (go_at_call 166; refine (c3 _).mono ?_; rintro e w' ⟨rfl, hb⟩; obtain ⟨q0, q1, q2, q3, k0, k1, k2, k3⟩ := box4 hb; have hb := hidIt hb))
      (try simp only [Exit.inBlock, Exit.then])
      refine bodyPost_ret (by simp [results, Tryz.results133, go_sem, q0, q1, q2, q3]; try rfl) rfl ?_
      exact ⟨rfl, below_put (below_put (below_put (below_put (below_box hb.out) _ _) _ _) _ _) _ _⟩
    · have hg : g ≠ 0 := by intro h; subst h; simp at g0
      rw [if_neg hg, if_neg (by decide : ¬ (4 : Nat) = 0)]
      clear hg
      go_enter Tryz.func133, Tryz.ntmps133
      go_wp2_with (first | (go_at_call 164; refine (c1 _).mono ?_; rintro e w' ⟨rfl, rfl⟩) | (go_at_call 165; refine (c2 _).mono ?_; rintro e w' ⟨rfl, rfl⟩) | (go_at_call 166; refine (c3 _).mono ?_; rintro e w' ⟨rfl, hb⟩; obtain ⟨q0, q1, q2, q3, k0, k1, k2, k3⟩ := box4 hb; have hb := hidIt hb))
      (try simp only [Exit.inBlock, Exit.then])
      refine bodyPost_ret (by simp [results, Tryz.results133, go_sem, q0, q1, q2, q3]; try rfl) rfl ?_
      exact ⟨rfl, below_put (below_put (below_put (below_put (below_box hb.out) _ _) _ _) _ _) _ _⟩
  · have h4' : ((f1 : Int) == 4) = false := by simp; omega
    by_cases h5 : f1 = 5
    · subst h5
      rw [if_pos (.inr rfl)] at hp
      subst hp
      clear h4 h4'
      rcases g0 with rfl | g0
      · go_enter Tryz.func133, Tryz.ntmps133
        go_wp2_with (first | (go_at_call 164; refine (c1 _).mono ?_; rintro e w' ⟨rfl, rfl⟩) | (go_at_call 165; refine (c2 _).mono ?_; rintro e w' ⟨rfl, rfl⟩) | (go_at_call 166; refine (c3 _).mono ?_; rintro e w' ⟨rfl, hb⟩; obtain ⟨q0, q1, q2, q3, k0, k1, k2, k3⟩ := box4 hb; have hb := hidIt hb))
        (try simp only [Exit.inBlock, Exit.then])
        refine bodyPost_ret (by simp [results, Tryz.results133, go_sem, q0, q1, q2, q3]; try rfl) rfl ?_
        exact ⟨rfl, below_put (below_put (below_put (below_put (below_box hb.out) _ _) _ _) _ _) _ _⟩
      · have hg : g ≠ 0 := by intro h; subst h; simp at g0
        rw [if_neg hg, if_neg (by decide : ¬ (5 : Nat) = 0)]
        clear hg
        go_enter Tryz.func133, Tryz.ntmps133
        go_wp2_with (first | (go_at_call 164; refine (c1 _).mono ?_; rintro e w' ⟨rfl, rfl⟩) | (go_at_call 165; refine (c2 _).mono ?_; rintro e w' ⟨rfl, rfl⟩) | (go_at_call 166; refine (c3 _).mono ?_; rintro e w' ⟨rfl, hb⟩; obtain ⟨q0, q1, q2, q3, k0, k1, k2, k3⟩ := box4 hb; have hb := hidIt hb))
        (try simp only [Exit.inBlock, Exit.then])
        refine bodyPost_ret (by simp [results, Tryz.results133, go_sem, q0, q1, q2, q3]; try rfl) rfl ?_
        exact ⟨rfl, below_put (below_put (below_put (below_put (below_box hb.out) _ _) _ _) _ _) _ _⟩
    · have h5' : ((f1 : Int) == 5) = false := by simp; omega
      rw [if_neg (by rintro (h | h); exact h4 h; exact h5 h)] at hp
      subst hp
      clear h4 h5
      rcases g0 with rfl | g0
      · go_enter Tryz.func133, Tryz.ntmps133
        go_wp2_with (first | (go_at_call 164; refine (c1 _).mono ?_; rintro e w' ⟨rfl, rfl⟩) | (go_at_call 165; refine (c2 _).mono ?_; rintro e w' ⟨rfl, rfl⟩) | (go_at_call 166; refine (c3 _).mono ?_; rintro e w' ⟨rfl, hb⟩; obtain ⟨q0, q1, q2, q3, k0, k1, k2, k3⟩ := box4 hb; have hb := hidIt hb))
        (try simp only [Exit.inBlock, Exit.then])
        refine bodyPost_ret (by simp [results, Tryz.results133, go_sem, q0, q1, q2, q3]; try rfl) rfl ?_
        exact ⟨rfl, below_put (below_put (below_put (below_put (below_box hb.out) _ _) _ _) _ _) _ _⟩
      · have hg : g ≠ 0 := by intro h; subst h; simp at g0
        rw [if_neg hg]
        clear hg
        by_cases h0 : f1 = 0
        · have h0' : ((f1 : Int) == 0) = true := by simp; omega
          rw [if_pos h0]
          clear h0
          go_enter Tryz.func133, Tryz.ntmps133
          go_wp2_with (first | (go_at_call 164; refine (c1 _).mono ?_; rintro e w' ⟨rfl, rfl⟩) | (go_at_call 165; refine (c2 _).mono ?_; rintro e w' ⟨rfl, rfl⟩) | (go_at_call 166; refine (c3 _).mono ?_; rintro e w' ⟨rfl, hb⟩; obtain ⟨q0, q1, q2, q3, k0, k1, k2, k3⟩ := box4 hb; have hb := hidIt hb))
          (try simp only [Exit.inBlock, Exit.then])
          refine bodyPost_ret (by simp [results, Tryz.results133, go_sem, q0, q1, q2, q3]; try rfl) rfl ?_
          exact ⟨rfl, below_put (below_put (below_put (below_put (below_box hb.out) _ _) _ _) _ _) _ _⟩
        · have h0' : ((f1 : Int) == 0) = false := by simp; omega
          rw [if_neg h0]
          clear h0
          go_enter Tryz.func133, Tryz.ntmps133
          go_wp2_with (first | (go_at_call 164; refine (c1 _).mono ?_; rintro e w' ⟨rfl, rfl⟩) | (go_at_call 165; refine (c2 _).mono ?_; rintro e w' ⟨rfl, rfl⟩) | (go_at_call 166; refine (c3 _).mono ?_; rintro e w' ⟨rfl, hb⟩; obtain ⟨q0, q1, q2, q3, k0, k1, k2, k3⟩ := box4 hb; have hb := hidIt hb))
          (try simp only [Exit.inBlock, Exit.then])
          refine bodyPost_ret (by simp [results, Tryz.results133, go_sem, q0, q1, q2, q3]; try rfl) rfl ?_
          exact ⟨rfl, below_put (below_put (below_put (below_put (below_box hb.out) _ _) _ _) _ _) _ _⟩

theorem split_any (s : ByteArray) (hs : s.size ≤ 100000000) (w : World) :
    Calls Tryz.prog 133 #[.string s] w fun e w' => e = .returned (partsV (splitL s.data.toList)) ∧ Below w.heap.size w w' := by
  have hf := frontL_len s.data.toList
  have h := split_walk s (if (frontL s.data.toList).1 = 4 ∨ (frontL s.data.toList).1 = 5 then bs (frontL s.data.toList).2 else s) (frontL s.data.toList).1
    (unboxL 8 (if (frontL s.data.toList).1 = 4 ∨ (frontL s.data.toList).1 = 5 then (frontL s.data.toList).2 else s.data.toList)).1
    (leafL (unboxL 8 (if (frontL s.data.toList).1 = 4 ∨ (frontL s.data.toList).1 = 5 then (frontL s.data.toList).2 else s.data.toList)).2)
    (frontL s.data.toList).2 (unboxL 8 (if (frontL s.data.toList).1 = 4 ∨ (frontL s.data.toList).1 = 5 then (frontL s.data.toList).2 else s.data.toList)).2 hs (front_any s) rfl
    (by
      intro w
      have e : (if (frontL s.data.toList).1 = 4 ∨ (frontL s.data.toList).1 = 5 then (frontL s.data.toList).2 else s.data.toList) = (if (frontL s.data.toList).1 = 4 ∨ (frontL s.data.toList).1 = 5 then bs (frontL s.data.toList).2 else s).data.toList := by split <;> rfl
      rw [e]
      exact unbox_any _ w)
    (by
      intro w
      have := leaf_any (bs (unboxL 8 (if (frontL s.data.toList).1 = 4 ∨ (frontL s.data.toList).1 = 5 then (frontL s.data.toList).2 else s.data.toList)).2) (by
        rw [bs_size]
        have h1 := unboxL_len 8 (if (frontL s.data.toList).1 = 4 ∨ (frontL s.data.toList).1 = 5 then (frontL s.data.toList).2 else s.data.toList)
        have h2 : (if (frontL s.data.toList).1 = 4 ∨ (frontL s.data.toList).1 = 5 then (frontL s.data.toList).2 else s.data.toList).length ≤ s.data.toList.length := by split <;> omega
        rw [← size_list] at h2
        omega) w
      exact this) w
  exact h

set_option maxHeartbeats 400000 in
theorem kind_any (s : ByteArray) (hs : s.size ≤ 100000000) (w : World) :
    Calls Tryz.prog 100 #[.string s] w fun e w' => e = .returned (.int .i64 (kindL s.data.toList : Nat)) ∧ Below w.heap.size w w' := by
  have c1 := split_any s hs
  unfold kindL
  unfold partsV at c1
  generalize splitL s.data.toList = p at c1 ⊢
  have hf := fld0
  go_enter Tryz.func100, Tryz.ntmps100
  go_wp2_with (first | (go_at_call 133; refine (c1 _).mono ?_; rintro e w' ⟨rfl, hb⟩; have hb := hidIt hb))
  go_ret
  exact ⟨rfl, hb.out⟩
set_option maxHeartbeats 400000 in
theorem plain_any (s : ByteArray) (hs : s.size ≤ 100000000) (w : World) :
    Calls Tryz.prog 93 #[.string s] w fun e w' => e = .returned (.bool (isPlain s.data.toList)) ∧ Below w.heap.size w w' := by
  have c1 := kind_any s hs
  unfold isPlain
  generalize kindL s.data.toList = k at c1 ⊢
  by_cases h1 : k = 1
  · subst h1
    go_enter Tryz.func93, Tryz.ntmps93
    go_wp2_with (first | (go_at_call 100; refine (c1 _).mono ?_; rintro e w' ⟨rfl, hb⟩; have hb := hidIt hb))
    go_ret
    exact ⟨rfl, hb.out⟩
  · by_cases h2 : k = 2
    · subst h2
      go_enter Tryz.func93, Tryz.ntmps93
      go_wp2_with (first | (go_at_call 100; refine (c1 _).mono ?_; rintro e w' ⟨rfl, hb⟩; have hb := hidIt hb))
      go_ret
      exact ⟨rfl, hb.out⟩
    · by_cases h3 : k = 3
      · subst h3
        go_enter Tryz.func93, Tryz.ntmps93
        go_wp2_with (first | (go_at_call 100; refine (c1 _).mono ?_; rintro e w' ⟨rfl, hb⟩; have hb := hidIt hb))
        go_ret
        exact ⟨rfl, hb.out⟩
      · have e1 : ((k : Int) == 1) = false := by simp; omega
        have e2 : ((k : Int) == 2) = false := by simp; omega
        have e3 : ((k : Int) == 3) = false := by simp; omega
        rw [decide_eq_false h1, decide_eq_false h2, decide_eq_false h3]
        clear h1 h2 h3
        go_enter Tryz.func93, Tryz.ntmps93
        go_wp2_with (first | (go_at_call 100; refine (c1 _).mono ?_; rintro e w' ⟨rfl, hb⟩; have hb := hidIt hb))
        go_ret
        exact ⟨rfl, hb.out⟩

end Go.Proofs.YtlppbgmcoknliaaGreatDoor
