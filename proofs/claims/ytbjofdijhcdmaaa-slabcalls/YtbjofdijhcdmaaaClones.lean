/-
  slices.Clone at the four types that a slab clones.
-/
import Derived.Test.YtbjofdijhcdmaaaFree2
namespace Go.Proofs.Ytbjofdijhcdmaaa
set_option linter.unusedVariables false
open Go.RowKit

/-- What a clone is: the same elements in a row of its own. -/
def Cloned (e : TypeId) (size n : Nat) (xs : List Value) (w : World) (en : Ending) (w' : World) : Prop :=
  ∃ ao cap, en = .returned (.slice ao n cap) ∧ w'.ownsRow w.heap.size e size (.slice ao n cap) n xs ∧ Kp (fun _ => False) w w'


set_option maxHeartbeats 400000 in
theorem clone35_nil (w : World) : Calls Try.prog 35 #[.slice none 0 0] w fun en w' => Cloned 3 1 0 [] w en w' := by
  have he := @Lib.run_eql_slice_nil Try.prog
  go_enter Try.func35, Try.ntmps35
  go_wp2
  go_ret
  exact ⟨none, 0, rfl, World.ownsRow_nil _ _ _ _, Kp.refl _ _⟩

set_option maxHeartbeats 400000 in
theorem clone35_some (w : World) (g n cap : Nat) (xs : List Value) (ho : w.ownsRow 0 3 1 (.slice (some ⟨g, 0, none⟩) n cap) n xs) (hn : n ≤ 1000000000) (h1 : Hid (∀ u ∈ xs, u.oneCell' = true)) :
    Calls Try.prog 35 #[.slice (some ⟨g, 0, none⟩) n cap] w fun en w' => Cloned 3 1 n xs w en w' := by
  have hg : g < w.heap.size := own_lt ho g rfl
  have hcells : Hid (∀ j u, xs[j]? = some u → (w.alloc (.cells #[] 3)).cell? ((⟨g, 0, none⟩ : Addr).add j) = some u) := (ho.alloc _).cells rfl
  have hlen : Hid (xs.length = n * 1) := ho.1
  have hemp : Hid ((w.alloc (.cells #[] 3)).ownsRow w.heap.size 3 1 (.slice (some ⟨w.heap.size, 0, none⟩) 0 0) 0 []) := World.ownsRow_made w #[] 0 (Nat.le_refl _) (by simp [maxLen]) (by simp)
  clear ho
  have he := @Lib.run_eql_slice_nil Try.prog
  go_enter Try.func35, Try.ntmps35
  obtain ⟨i0, hi, hz0, hz1, hz2⟩ := info_parts Try.info3
  go_wp2_with (at_builtin; go_must (refine wpList_append_own _ rfl _ _ 41 rfl w.heap.size 3 i0 _ 1 8 Try.underlying41 hi hz0 hz1 hz2 rfl (by decide) _ 0 [] rfl hemp.out ⟨g, 0, none⟩ n cap xs rfl hlen.out hcells.out h1.out ?c3 ?c4 ?c5 ?_))
  case c3 => unfold maxLen; omega
  case c4 => omega
  case c5 => simp
  intro v' w1 ho1 hg1 _
  have hk : Hid (Kp (fun _ => False) w w1) := ⟨hg1.os, hg1.tape, hg1.output, Nat.le_trans (by simp) hg1.size, fun k hk _ => (hg1.block k (by simp; omega) (by simp [Value.ownBlock]; omega)).trans (Below.heap_alloc w _ k hk)⟩
  have Ho1 := hidIt ho1
  obtain ⟨ao, c, rfl, _⟩ := own_shape ho1
  clear ho1 hg1 hi hz0 hz1 hz2
  go_wp2
  go_ret
  exact ⟨ao, c, rfl, Ho1.out, hk.out⟩

theorem clone35_any (w : World) (v : Value) (n : Nat) (xs : List Value) (ho : w.ownsRow 0 3 1 v n xs) (hn : n ≤ 1000000000) (h1 : ∀ u ∈ xs, u.oneCell' = true) :
    Calls Try.prog 35 #[v] w fun en w' => Cloned 3 1 n xs w en w' := by
  rcases ho.2 with ⟨rfl, rfl⟩ | ⟨g, cap, cur, rfl, _⟩
  · have hx : xs = [] := List.eq_nil_of_length_eq_zero (by simpa using ho.1)
    subst hx
    exact clone35_nil w
  · exact clone35_some w g n cap xs ho hn h1

set_option maxHeartbeats 400000 in
theorem clone36_nil (w : World) : Calls Try.prog 36 #[.slice none 0 0] w fun en w' => Cloned 86 2 0 [] w en w' := by
  have he := @Lib.run_eql_slice_nil Try.prog
  go_enter Try.func36, Try.ntmps36
  go_wp2
  go_ret
  exact ⟨none, 0, rfl, World.ownsRow_nil _ _ _ _, Kp.refl _ _⟩

set_option maxHeartbeats 400000 in
theorem clone36_some (w : World) (g n cap : Nat) (xs : List Value) (ho : w.ownsRow 0 86 2 (.slice (some ⟨g, 0, none⟩) n cap) n xs) (hn : n ≤ 1000000000) (h1 : Hid (∀ u ∈ xs, u.oneCell' = true)) :
    Calls Try.prog 36 #[.slice (some ⟨g, 0, none⟩) n cap] w fun en w' => Cloned 86 2 n xs w en w' := by
  have hg : g < w.heap.size := own_lt ho g rfl
  have hcells : Hid (∀ j u, xs[j]? = some u → (w.alloc (.cells #[] 86)).cell? ((⟨g, 0, none⟩ : Addr).add j) = some u) := (ho.alloc _).cells rfl
  have hlen : Hid (xs.length = n * 2) := ho.1
  have hemp : Hid ((w.alloc (.cells #[] 86)).ownsRow w.heap.size 86 2 (.slice (some ⟨w.heap.size, 0, none⟩) 0 0) 0 []) := World.ownsRow_made w #[] 0 (Nat.le_refl _) (by simp [maxLen]) (by simp)
  clear ho
  have he := @Lib.run_eql_slice_nil Try.prog
  go_enter Try.func36, Try.ntmps36
  obtain ⟨i0, hi, hz0, hz1, hz2⟩ := info_parts Try.info86
  go_wp2_with (at_builtin; go_must (refine wpList_append_own _ rfl _ _ 67 rfl w.heap.size 86 i0 _ 2 48 Try.underlying67 hi hz0 hz1 hz2 rfl (by decide) _ 0 [] rfl hemp.out ⟨g, 0, none⟩ n cap xs rfl hlen.out hcells.out h1.out ?c3 ?c4 ?c5 ?_))
  case c3 => unfold maxLen; omega
  case c4 => omega
  case c5 => simp
  intro v' w1 ho1 hg1 _
  have hk : Hid (Kp (fun _ => False) w w1) := ⟨hg1.os, hg1.tape, hg1.output, Nat.le_trans (by simp) hg1.size, fun k hk _ => (hg1.block k (by simp; omega) (by simp [Value.ownBlock]; omega)).trans (Below.heap_alloc w _ k hk)⟩
  have Ho1 := hidIt ho1
  obtain ⟨ao, c, rfl, _⟩ := own_shape ho1
  clear ho1 hg1 hi hz0 hz1 hz2
  go_wp2
  go_ret
  exact ⟨ao, c, rfl, Ho1.out, hk.out⟩

theorem clone36_any (w : World) (v : Value) (n : Nat) (xs : List Value) (ho : w.ownsRow 0 86 2 v n xs) (hn : n ≤ 1000000000) (h1 : ∀ u ∈ xs, u.oneCell' = true) :
    Calls Try.prog 36 #[v] w fun en w' => Cloned 86 2 n xs w en w' := by
  rcases ho.2 with ⟨rfl, rfl⟩ | ⟨g, cap, cur, rfl, _⟩
  · have hx : xs = [] := List.eq_nil_of_length_eq_zero (by simpa using ho.1)
    subst hx
    exact clone36_nil w
  · exact clone36_some w g n cap xs ho hn h1

set_option maxHeartbeats 400000 in
theorem clone37_nil (w : World) : Calls Try.prog 37 #[.slice none 0 0] w fun en w' => Cloned 56 1 0 [] w en w' := by
  have he := @Lib.run_eql_slice_nil Try.prog
  go_enter Try.func37, Try.ntmps37
  go_wp2
  go_ret
  exact ⟨none, 0, rfl, World.ownsRow_nil _ _ _ _, Kp.refl _ _⟩

set_option maxHeartbeats 400000 in
theorem clone37_some (w : World) (g n cap : Nat) (xs : List Value) (ho : w.ownsRow 0 56 1 (.slice (some ⟨g, 0, none⟩) n cap) n xs) (hn : n ≤ 1000000000) (h1 : Hid (∀ u ∈ xs, u.oneCell' = true)) :
    Calls Try.prog 37 #[.slice (some ⟨g, 0, none⟩) n cap] w fun en w' => Cloned 56 1 n xs w en w' := by
  have hg : g < w.heap.size := own_lt ho g rfl
  have hcells : Hid (∀ j u, xs[j]? = some u → (w.alloc (.cells #[] 56)).cell? ((⟨g, 0, none⟩ : Addr).add j) = some u) := (ho.alloc _).cells rfl
  have hlen : Hid (xs.length = n * 1) := ho.1
  have hemp : Hid ((w.alloc (.cells #[] 56)).ownsRow w.heap.size 56 1 (.slice (some ⟨w.heap.size, 0, none⟩) 0 0) 0 []) := World.ownsRow_made w #[] 0 (Nat.le_refl _) (by simp [maxLen]) (by simp)
  clear ho
  have he := @Lib.run_eql_slice_nil Try.prog
  go_enter Try.func37, Try.ntmps37
  obtain ⟨i0, hi, hz0, hz1, hz2⟩ := info_parts Try.info56
  go_wp2_with (at_builtin; go_must (refine wpList_append_own _ rfl _ _ 54 rfl w.heap.size 56 i0 _ 1 2 Try.underlying54 hi hz0 hz1 hz2 rfl (by decide) _ 0 [] rfl hemp.out ⟨g, 0, none⟩ n cap xs rfl hlen.out hcells.out h1.out ?c3 ?c4 ?c5 ?_))
  case c3 => unfold maxLen; omega
  case c4 => omega
  case c5 => simp
  intro v' w1 ho1 hg1 _
  have hk : Hid (Kp (fun _ => False) w w1) := ⟨hg1.os, hg1.tape, hg1.output, Nat.le_trans (by simp) hg1.size, fun k hk _ => (hg1.block k (by simp; omega) (by simp [Value.ownBlock]; omega)).trans (Below.heap_alloc w _ k hk)⟩
  have Ho1 := hidIt ho1
  obtain ⟨ao, c, rfl, _⟩ := own_shape ho1
  clear ho1 hg1 hi hz0 hz1 hz2
  go_wp2
  go_ret
  exact ⟨ao, c, rfl, Ho1.out, hk.out⟩

theorem clone37_any (w : World) (v : Value) (n : Nat) (xs : List Value) (ho : w.ownsRow 0 56 1 v n xs) (hn : n ≤ 1000000000) (h1 : ∀ u ∈ xs, u.oneCell' = true) :
    Calls Try.prog 37 #[v] w fun en w' => Cloned 56 1 n xs w en w' := by
  rcases ho.2 with ⟨rfl, rfl⟩ | ⟨g, cap, cur, rfl, _⟩
  · have hx : xs = [] := List.eq_nil_of_length_eq_zero (by simpa using ho.1)
    subst hx
    exact clone37_nil w
  · exact clone37_some w g n cap xs ho hn h1

set_option maxHeartbeats 400000 in
theorem clone38_nil (w : World) : Calls Try.prog 38 #[.slice none 0 0] w fun en w' => Cloned 91 2 0 [] w en w' := by
  have he := @Lib.run_eql_slice_nil Try.prog
  go_enter Try.func38, Try.ntmps38
  go_wp2
  go_ret
  exact ⟨none, 0, rfl, World.ownsRow_nil _ _ _ _, Kp.refl _ _⟩

set_option maxHeartbeats 400000 in
theorem clone38_some (w : World) (g n cap : Nat) (xs : List Value) (ho : w.ownsRow 0 91 2 (.slice (some ⟨g, 0, none⟩) n cap) n xs) (hn : n ≤ 1000000000) (h1 : Hid (∀ u ∈ xs, u.oneCell' = true)) :
    Calls Try.prog 38 #[.slice (some ⟨g, 0, none⟩) n cap] w fun en w' => Cloned 91 2 n xs w en w' := by
  have hg : g < w.heap.size := own_lt ho g rfl
  have hcells : Hid (∀ j u, xs[j]? = some u → (w.alloc (.cells #[] 91)).cell? ((⟨g, 0, none⟩ : Addr).add j) = some u) := (ho.alloc _).cells rfl
  have hlen : Hid (xs.length = n * 2) := ho.1
  have hemp : Hid ((w.alloc (.cells #[] 91)).ownsRow w.heap.size 91 2 (.slice (some ⟨w.heap.size, 0, none⟩) 0 0) 0 []) := World.ownsRow_made w #[] 0 (Nat.le_refl _) (by simp [maxLen]) (by simp)
  clear ho
  have he := @Lib.run_eql_slice_nil Try.prog
  go_enter Try.func38, Try.ntmps38
  obtain ⟨i0, hi, hz0, hz1, hz2⟩ := info_parts Try.info91
  go_wp2_with (at_builtin; go_must (refine wpList_append_own _ rfl _ _ 84 rfl w.heap.size 91 i0 _ 2 16 Try.underlying84 hi hz0 hz1 hz2 rfl (by decide) _ 0 [] rfl hemp.out ⟨g, 0, none⟩ n cap xs rfl hlen.out hcells.out h1.out ?c3 ?c4 ?c5 ?_))
  case c3 => unfold maxLen; omega
  case c4 => omega
  case c5 => simp
  intro v' w1 ho1 hg1 _
  have hk : Hid (Kp (fun _ => False) w w1) := ⟨hg1.os, hg1.tape, hg1.output, Nat.le_trans (by simp) hg1.size, fun k hk _ => (hg1.block k (by simp; omega) (by simp [Value.ownBlock]; omega)).trans (Below.heap_alloc w _ k hk)⟩
  have Ho1 := hidIt ho1
  obtain ⟨ao, c, rfl, _⟩ := own_shape ho1
  clear ho1 hg1 hi hz0 hz1 hz2
  go_wp2
  go_ret
  exact ⟨ao, c, rfl, Ho1.out, hk.out⟩

theorem clone38_any (w : World) (v : Value) (n : Nat) (xs : List Value) (ho : w.ownsRow 0 91 2 v n xs) (hn : n ≤ 1000000000) (h1 : ∀ u ∈ xs, u.oneCell' = true) :
    Calls Try.prog 38 #[v] w fun en w' => Cloned 91 2 n xs w en w' := by
  rcases ho.2 with ⟨rfl, rfl⟩ | ⟨g, cap, cur, rfl, _⟩
  · have hx : xs = [] := List.eq_nil_of_length_eq_zero (by simpa using ho.1)
    subst hx
    exact clone38_nil w
  · exact clone38_some w g n cap xs ho hn h1

end Go.Proofs.Ytbjofdijhcdmaaa
