/-
  The walks of Word, Clone, newToken, value.
  The walk of value.
  The walks of name, number, first.
  The walk of number.
  The walk of first.
  The walk of Name.
-/
import Derived.Test.YtlppbgmcoknliaaGreatDoorByte
import Derived.Handy
namespace Go.Proofs.YtlppbgmcoknliaaGreatDoor
set_option linter.unusedVariables false
open Go.RowKit

/-- A box that was laid just ahead, behind calls that only lay new memory. -/
theorem box_at {w w1 : World} {cs : Array Value} {t : TypeId} (h : Below (w.alloc (.cells cs t)).heap.size (w.alloc (.cells cs t)) w1) : w1.heap[w.heap.size]? = some (.cells cs t (0, 0)) := by
 rw [h.block _ (by rw [World.size_alloc]; omega)]
 exact heap_alloc_new w _
theorem cell_at {w : World} {b : Nat} {cs : Array Value} {t : TypeId} {fr : Nat × Nat} (hb : w.heap[b]? = some (.cells cs t fr)) (j : Nat) : w.cell? ⟨b, j, none⟩ = cs[j]? := by
 simp [World.cell?, hb]
theorem cells_2 {w : World} {b : Nat} {a0 a1 : Value} {l : List Value} {t : TypeId} {fr : Nat × Nat} (h : w.heap[b]? = some (.cells (List.toArray (a0 :: a1 :: l)) t fr)) : w.cell? ⟨b, 0, none⟩ = some a0 ∧ w.cell? ⟨b, 1, none⟩ = some a1 :=
 ⟨cell_at h 0, cell_at h 1⟩
theorem cells_3 {w : World} {b : Nat} {a0 a1 a2 : Value} {l : List Value} {t : TypeId} {fr : Nat × Nat} (h : w.heap[b]? = some (.cells (List.toArray (a0 :: a1 :: a2 :: l)) t fr)) : w.cell? ⟨b, 0, none⟩ = some a0 ∧ w.cell? ⟨b, 1, none⟩ = some a1 ∧ w.cell? ⟨b, 2, none⟩ = some a2 :=
 ⟨cell_at h 0, cell_at h 1, cell_at h 2⟩
theorem cells_5 {w : World} {b : Nat} {a0 a1 a2 a3 a4 : Value} {l : List Value} {t : TypeId} {fr : Nat × Nat} (h : w.heap[b]? = some (.cells (List.toArray (a0 :: a1 :: a2 :: a3 :: a4 :: l)) t fr)) : w.cell? ⟨b, 0, none⟩ = some a0 ∧ w.cell? ⟨b, 1, none⟩ = some a1 ∧ w.cell? ⟨b, 2, none⟩ = some a2 ∧ w.cell? ⟨b, 3, none⟩ = some a3 ∧ w.cell? ⟨b, 4, none⟩ = some a4 :=
 ⟨cell_at h 0, cell_at h 1, cell_at h 2, cell_at h 3, cell_at h 4⟩
theorem cells_6 {w : World} {b : Nat} {a0 a1 a2 a3 a4 a5 : Value} {l : List Value} {t : TypeId} {fr : Nat × Nat} (h : w.heap[b]? = some (.cells (List.toArray (a0 :: a1 :: a2 :: a3 :: a4 :: a5 :: l)) t fr)) : w.cell? ⟨b, 0, none⟩ = some a0 ∧ w.cell? ⟨b, 1, none⟩ = some a1 ∧ w.cell? ⟨b, 2, none⟩ = some a2 ∧ w.cell? ⟨b, 3, none⟩ = some a3 ∧ w.cell? ⟨b, 4, none⟩ = some a4 ∧ w.cell? ⟨b, 5, none⟩ = some a5 :=
 ⟨cell_at h 0, cell_at h 1, cell_at h 2, cell_at h 3, cell_at h 4, cell_at h 5⟩
theorem cells_7 {w : World} {b : Nat} {a0 a1 a2 a3 a4 a5 a6 : Value} {l : List Value} {t : TypeId} {fr : Nat × Nat} (h : w.heap[b]? = some (.cells (List.toArray (a0 :: a1 :: a2 :: a3 :: a4 :: a5 :: a6 :: l)) t fr)) : w.cell? ⟨b, 0, none⟩ = some a0 ∧ w.cell? ⟨b, 1, none⟩ = some a1 ∧ w.cell? ⟨b, 2, none⟩ = some a2 ∧ w.cell? ⟨b, 3, none⟩ = some a3 ∧ w.cell? ⟨b, 4, none⟩ = some a4 ∧ w.cell? ⟨b, 5, none⟩ = some a5 ∧ w.cell? ⟨b, 6, none⟩ = some a6 :=
 ⟨cell_at h 0, cell_at h 1, cell_at h 2, cell_at h 3, cell_at h 4, cell_at h 5, cell_at h 6⟩
theorem cells_8 {w : World} {b : Nat} {a0 a1 a2 a3 a4 a5 a6 a7 : Value} {l : List Value} {t : TypeId} {fr : Nat × Nat} (h : w.heap[b]? = some (.cells (List.toArray (a0 :: a1 :: a2 :: a3 :: a4 :: a5 :: a6 :: a7 :: l)) t fr)) : w.cell? ⟨b, 0, none⟩ = some a0 ∧ w.cell? ⟨b, 1, none⟩ = some a1 ∧ w.cell? ⟨b, 2, none⟩ = some a2 ∧ w.cell? ⟨b, 3, none⟩ = some a3 ∧ w.cell? ⟨b, 4, none⟩ = some a4 ∧ w.cell? ⟨b, 5, none⟩ = some a5 ∧ w.cell? ⟨b, 6, none⟩ = some a6 ∧ w.cell? ⟨b, 7, none⟩ = some a7 :=
 ⟨cell_at h 0, cell_at h 1, cell_at h 2, cell_at h 3, cell_at h 4, cell_at h 5, cell_at h 6, cell_at h 7⟩
theorem cells_9 {w : World} {b : Nat} {a0 a1 a2 a3 a4 a5 a6 a7 a8 : Value} {l : List Value} {t : TypeId} {fr : Nat × Nat} (h : w.heap[b]? = some (.cells (List.toArray (a0 :: a1 :: a2 :: a3 :: a4 :: a5 :: a6 :: a7 :: a8 :: l)) t fr)) : w.cell? ⟨b, 0, none⟩ = some a0 ∧ w.cell? ⟨b, 1, none⟩ = some a1 ∧ w.cell? ⟨b, 2, none⟩ = some a2 ∧ w.cell? ⟨b, 3, none⟩ = some a3 ∧ w.cell? ⟨b, 4, none⟩ = some a4 ∧ w.cell? ⟨b, 5, none⟩ = some a5 ∧ w.cell? ⟨b, 6, none⟩ = some a6 ∧ w.cell? ⟨b, 7, none⟩ = some a7 ∧ w.cell? ⟨b, 8, none⟩ = some a8 :=
 ⟨cell_at h 0, cell_at h 1, cell_at h 2, cell_at h 3, cell_at h 4, cell_at h 5, cell_at h 6, cell_at h 7, cell_at h 8⟩
theorem cells_10 {w : World} {b : Nat} {a0 a1 a2 a3 a4 a5 a6 a7 a8 a9 : Value} {l : List Value} {t : TypeId} {fr : Nat × Nat} (h : w.heap[b]? = some (.cells (List.toArray (a0 :: a1 :: a2 :: a3 :: a4 :: a5 :: a6 :: a7 :: a8 :: a9 :: l)) t fr)) : w.cell? ⟨b, 0, none⟩ = some a0 ∧ w.cell? ⟨b, 1, none⟩ = some a1 ∧ w.cell? ⟨b, 2, none⟩ = some a2 ∧ w.cell? ⟨b, 3, none⟩ = some a3 ∧ w.cell? ⟨b, 4, none⟩ = some a4 ∧ w.cell? ⟨b, 5, none⟩ = some a5 ∧ w.cell? ⟨b, 6, none⟩ = some a6 ∧ w.cell? ⟨b, 7, none⟩ = some a7 ∧ w.cell? ⟨b, 8, none⟩ = some a8 ∧ w.cell? ⟨b, 9, none⟩ = some a9 :=
 ⟨cell_at h 0, cell_at h 1, cell_at h 2, cell_at h 3, cell_at h 4, cell_at h 5, cell_at h 6, cell_at h 7, cell_at h 8, cell_at h 9⟩
theorem cells_11 {w : World} {b : Nat} {a0 a1 a2 a3 a4 a5 a6 a7 a8 a9 a10 : Value} {l : List Value} {t : TypeId} {fr : Nat × Nat} (h : w.heap[b]? = some (.cells (List.toArray (a0 :: a1 :: a2 :: a3 :: a4 :: a5 :: a6 :: a7 :: a8 :: a9 :: a10 :: l)) t fr)) : w.cell? ⟨b, 0, none⟩ = some a0 ∧ w.cell? ⟨b, 1, none⟩ = some a1 ∧ w.cell? ⟨b, 2, none⟩ = some a2 ∧ w.cell? ⟨b, 3, none⟩ = some a3 ∧ w.cell? ⟨b, 4, none⟩ = some a4 ∧ w.cell? ⟨b, 5, none⟩ = some a5 ∧ w.cell? ⟨b, 6, none⟩ = some a6 ∧ w.cell? ⟨b, 7, none⟩ = some a7 ∧ w.cell? ⟨b, 8, none⟩ = some a8 ∧ w.cell? ⟨b, 9, none⟩ = some a9 ∧ w.cell? ⟨b, 10, none⟩ = some a10 :=
 ⟨cell_at h 0, cell_at h 1, cell_at h 2, cell_at h 3, cell_at h 4, cell_at h 5, cell_at h 6, cell_at h 7, cell_at h 8, cell_at h 9, cell_at h 10⟩
theorem frozen_at {w : World} {b : Nat} {cs : Array Value} {t : TypeId} (hb : w.heap[b]? = some (.cells cs t (0, 0))) (j : Nat) : w.frozen? ⟨b, j, none⟩ = false := by
 simp [World.frozen?, hb]

theorem box4 {w w1 : World} {a b c d : Value} {t : TypeId} (h : Below (w.alloc (.cells #[a, b, c, d] t)).heap.size (w.alloc (.cells #[a, b, c, d] t)) w1) :
 w1.cell? ⟨w.heap.size, 0, none⟩ = some a ∧ w1.cell? ⟨w.heap.size, 1, none⟩ = some b ∧ w1.cell? ⟨w.heap.size, 2, none⟩ = some c ∧ w1.cell? ⟨w.heap.size, 3, none⟩ = some d ∧
 w1.frozen? ⟨w.heap.size, 0, none⟩ = false ∧ w1.frozen? ⟨w.heap.size, 1, none⟩ = false ∧ w1.frozen? ⟨w.heap.size, 2, none⟩ = false ∧ w1.frozen? ⟨w.heap.size, 3, none⟩ = false :=
 have hq := box_at h
 ⟨cell_at hq 0, cell_at hq 1, cell_at hq 2, cell_at hq 3, frozen_at hq 0, frozen_at hq 1, frozen_at hq 2, frozen_at hq 3⟩
theorem below_box {w w1 : World} {o : Obj} (h : Below (w.alloc o).heap.size (w.alloc o) w1) : Below w.heap.size w w1 :=
 ((Below.refl w.heap.size w).alloc (Nat.le_refl _) o).trans (h.mono (by rw [World.size_alloc]; omega))
theorem below_put {w w1 : World} (h : Below w.heap.size w w1) (i : Nat) (u : Value) : Below w.heap.size w (w1.setCell ⟨w.heap.size, i, none⟩ u) :=
 h.setCell (p := ⟨w.heap.size, i, none⟩) (Nat.le_refl _) u

set_option maxHeartbeats 1000000 in
theorem word_any (s : ByteArray) (w : World) :
 Calls Tryz.prog 189 #[.string s] w fun e w' => e = .returned (.bool (isWord s.data.toList)) ∧ w = w' := by
 rw [← ByteArray.toList_eq]
 go_enter Tryz.func189, Tryz.ntmps189
 go_wp2
 all_goals first | (rename_i h1 h2; rw [h1] at h2; cases h2; done) | skip
 all_goals go_ret
 all_goals exact ⟨by simp only [isWord, words, List.contains, List.elem, *]; rfl, rfl⟩

set_option maxHeartbeats 400000 in
theorem clone_any (s : ByteArray) (w : World) (hs : s.size ≤ 100000000) :
 Calls Tryz.prog 37 #[.string s] w fun e w' => e = .returned (.string s) ∧ Below w.heap.size w w' := by
 have c1 := fun w => Tryz.stringslite_Clone s w (by omega)
 go_enter Tryz.func37, Tryz.ntmps37
 go_wp2_with (first | (go_at_call 85; refine (c1 _).mono ?_; rintro e w' ⟨rfl, hb⟩))
 go_ret
 exact ⟨rfl, hb⟩

set_option maxHeartbeats 400000 in
theorem newToken_any (k : Int) (s : ByteArray) (n : Nat) (w : World) (hs : s.size ≤ 100000000) (hn : n ≤ s.size) :
 Calls Tryz.prog 160 #[.int .i64 k, .string s, .int .i64 n] w fun e w' => e = .returned (.agg #[.int .i64 k, .int .i64 0, .string (s.extract 0 n), .int .i64 0]) ∧ Below w.heap.size w w' := by
 have c1 := fun w => clone_any (s.extract 0 n) w (by rw [ByteArray.size_extract]; omega)
 go_enter Tryz.func160, Tryz.ntmps160
 go_wp2_with (first | (go_at_call 37; refine (c1 _).mono ?_; rintro e w' ⟨rfl, hb⟩; obtain ⟨q0, q1, q2, q3, f0, f1, f2, f3⟩ := box4 hb; have hb := hidIt hb))
 (try simp only [Exit.inBlock, Exit.then])
 refine bodyPost_ret (by simp [results, Tryz.results160, go_sem, q0, q1, q2, q3]; try rfl) rfl ?_
 exact ⟨rfl, below_put (below_put (below_put (below_put (below_box hb.out) _ _) _ _) _ _) _ _⟩
end Go.Proofs.YtlppbgmcoknliaaGreatDoor
namespace Go.Proofs.YtlppbgmcoknliaaGreatDoor
set_option linter.unusedVariables false
open Go.RowKit

theorem valStep_le (n : Nat) (b : UInt8) : valStep n b ≤ 1099511627777 := by unfold valStep; omega
theorem valL_take (s : ByteArray) (k : Nat) (h : k < s.size) : valL (s.data.toList.take (k + 1)) = valStep (valL (s.data.toList.take k)) (s[k]'h) := by
 have h' : k < s.data.toList.length := by rw [← size_list]; exact h
 unfold valL
 rw [List.take_succ_eq_append_getElem h', List.foldl_append]
 rfl
theorem foldl_le : ∀ (l : List UInt8) (n : Nat), n ≤ 1099511627777 → l.foldl valStep n ≤ 1099511627777
 | [], n, h => h
 | b :: l, n, h => foldl_le l _ (valStep_le n b)
theorem valL_le (l : List UInt8) : valL l ≤ 1099511627777 := foldl_le l 0 (by omega)

theorem valStep_int (m : Nat) (b : UInt8) (h : isDigit b = true) : ((valStep m b : Nat) : Int) = min ((m : Int) * 10 + ((b.toNat : Int) - 48) % 256) 1099511627777 := by
 unfold valStep
 simp only [isDigit, Bool.and_eq_true, decide_eq_true_eq] at h
 omega

set_option maxHeartbeats 1000000 in
theorem value_any (s : ByteArray) (hs : s.size ≤ 100000000) (w : World) (hd : ∀ k (h : k < s.size), isDigit (s[k]'h) = true) :
 Calls Tryz.prog 191 #[.string s] w fun e w' => e = .returned (.int .i64 (valL s.data.toList : Nat)) ∧ w = w' := by
 have hst : Hid (valL (s.data.toList.take 0) = 0) := hidIt rfl
 have hen : Hid (valL (s.data.toList.take s.size) = valL s.data.toList) := hidIt (by rw [size_list, List.take_length])
 have hd := hidIt hd
 generalize valL s.data.toList = N at hen ⊢
 go_enter Tryz.func191, Tryz.ntmps191
 go_wp2
 go_loopw [3, 7] (fun n i wr => ∃ k m : Nat, k ≤ s.size ∧ m ≤ 1099511627777 ∧ i = .int .i64 k ∧ n = .int .i64 m ∧ wr = w ∧ Hid (valL (s.data.toList.take k) = m)) (fun _ i _ => s.size - (intOf i).toNat)
 case atStart => exact ⟨0, 0, Nat.zero_le _, by omega, rfl, rfl, rfl, hst⟩
 case round =>
  clear hst
  obtain ⟨k, m, hk, hm, rfl, rfl, rfl, hN⟩ := hrel
  by_cases hlt : k < s.size
  · have hb := hd.out k hlt
    have hN2 := hidIt (valL_take s k hlt)
    have hN3 := hidIt (hN2.out.trans (congrArg (fun m => valStep m (s[k]'hlt)) hN.out))
    have he := hidIt (valStep_int m (s[k]'hlt) hb)
    clear hen hd hb hN hN2
    go_wp2
    go_roundw
    case rel => exact ⟨k + 1, valStep m (s[k]'hlt), by omega, valStep_le _ _, by go_num, by rw [he.out], trivial, hN3⟩
    case measure => simp [intOf]; omega
  · obtain rfl : k = s.size := by omega
    have hN2 := hidIt (hN.out.symm.trans hen.out)
    clear hN hen hd
    go_wp2
    go_ret
    exact ⟨by rw [← hN2.out]; rfl, rfl⟩
end Go.Proofs.YtlppbgmcoknliaaGreatDoor
namespace Go.Proofs.YtlppbgmcoknliaaGreatDoor
set_option linter.unusedVariables false
open Go.RowKit

theorem extract_take (s : ByteArray) (n : Nat) : s.extract 0 n = ⟨(s.data.toList.take n).toArray⟩ := by
 rw [Lib.extract_eq]; simp
theorem extract_drop (s : ByteArray) (n : Nat) : (s.extract n s.size).data.toList = s.data.toList.drop n := by
 rw [Lib.extract_data]
 refine List.take_of_length_le ?_
 rw [List.length_drop, size_list]
 exact Nat.le_refl _

set_option maxHeartbeats 1000000 in
theorem name_none (s : ByteArray) (hs : s.size ≤ 100000000) (w : World) (h : 16 < spanL nameByte s.data.toList) :
 Calls Tryz.prog 156 #[.string s] w fun e w' => e = .returned (.tuple #[.agg #[.int .i64 0, .int .i64 0, .string ⟨#[]⟩, .int .i64 0], .bool false]) ∧ Below w.heap.size w w' := by
 have c1 := span_name s hs
 generalize spanL nameByte s.data.toList = N at c1 h
 go_enter Tryz.func156, Tryz.ntmps156
 go_wp2_with (first | (go_at_call 187; refine (c1 _).mono ?_; rintro e w' ⟨rfl, rfl⟩))
 (try simp only [Exit.inBlock, Exit.then])
 refine bodyPost_ret (by simp [results, Tryz.results156, go_sem]; try rfl) rfl ?_
 exact ⟨rfl, (Below.refl w.heap.size w).alloc (Nat.le_refl _) _⟩

set_option maxHeartbeats 1000000 in
theorem name_some (s : ByteArray) (hs : s.size ≤ 100000000) (w : World) (b : Bool) (h : spanL nameByte s.data.toList ≤ 16) (hb : isWord (s.data.toList.take (spanL nameByte s.data.toList)) = b) :
 Calls Tryz.prog 156 #[.string s] w fun e w' => e = .returned (.tuple #[.agg #[.int .i64 (if b then 2 else 1), .int .i64 0, .string ⟨(s.data.toList.take (spanL nameByte s.data.toList)).toArray⟩, .int .i64 0], .bool true]) ∧ Below w.heap.size w w' := by
 have c1 := span_name s hs
 have hN := spanL_le nameByte s.data.toList
 rw [← extract_take]
 have hb : isWord (s.extract 0 (spanL nameByte s.data.toList)).data.toList = b := by rw [extract_take]; exact hb
 generalize spanL nameByte s.data.toList = N at c1 h hb hN ⊢
 have hN : N ≤ s.size := by rw [size_list]; exact hN
 have c2 := word_any (s.extract 0 N)
 rw [hb] at c2
 clear hb
 cases b
 · have c3 := fun w => newToken_any 1 s N w hs hN
   go_enter Tryz.func156, Tryz.ntmps156
   go_wp2_with (first | (go_at_call 187; refine (c1 _).mono ?_; rintro e w' ⟨rfl, rfl⟩) | (go_at_call 189; refine (c2 _).mono ?_; rintro e w' ⟨rfl, rfl⟩) | (go_at_call 160; refine (c3 _).mono ?_; rintro e w' ⟨rfl, hb⟩; obtain ⟨q0, q1, q2, q3, f0, f1, f2, f3⟩ := box4 hb; have hb := hidIt hb))
   (try simp only [Exit.inBlock, Exit.then])
   refine bodyPost_ret (by simp [results, Tryz.results156, go_sem, q0, q1, q2, q3]; try rfl) rfl ?_
   exact ⟨rfl, below_put (below_put (below_put (below_put (below_box hb.out) _ _) _ _) _ _) _ _⟩
 · have c3 := fun w => newToken_any 2 s N w hs hN
   go_enter Tryz.func156, Tryz.ntmps156
   go_wp2_with (first | (go_at_call 187; refine (c1 _).mono ?_; rintro e w' ⟨rfl, rfl⟩) | (go_at_call 189; refine (c2 _).mono ?_; rintro e w' ⟨rfl, rfl⟩) | (go_at_call 160; refine (c3 _).mono ?_; rintro e w' ⟨rfl, hb⟩; obtain ⟨q0, q1, q2, q3, f0, f1, f2, f3⟩ := box4 hb; have hb := hidIt hb))
   (try simp only [Exit.inBlock, Exit.then])
   refine bodyPost_ret (by simp [results, Tryz.results156, go_sem, q0, q1, q2, q3]; try rfl) rfl ?_
   exact ⟨rfl, below_put (below_put (below_put (below_put (below_box hb.out) _ _) _ _) _ _) _ _⟩

theorem trim_minus (l : List UInt8) : Lib.trimPrefix l [45] = dropMinus l := by
 cases l with
 | nil => rfl
 | cons b l =>
  simp only [Lib.trimPrefix, Lib.hasPrefix, dropMinus, List.isPrefixOf, List.length_cons, List.length_nil, List.drop_succ_cons, List.drop_zero, Bool.and_true]
  have : ((45 : UInt8) == b) = (b.toNat == 45) := by
   rw [Bool.eq_iff_iff]
   simp only [beq_iff_eq]
   constructor
   · rintro rfl; rfl
   · intro h; exact (UInt8.toNat_inj.1 (by rw [h]; rfl)).symm
  rw [this]
theorem span_all (p : UInt8 → Bool) : ∀ (l : List UInt8) (k : Nat) (h : k < (l.take (spanL p l)).length), p ((l.take (spanL p l))[k]'h) = true
 | [], k, h => absurd h (by simp)
 | b :: l, k, h => by
  by_cases hb : p b = true
  · have e : (b :: l).take (spanL p (b :: l)) = b :: l.take (spanL p l) := by rw [spanL, if_pos hb]; rfl
    cases k with
    | zero => simp only [e, List.getElem_cons_zero]; exact hb
    | succ k =>
     simp only [e, List.getElem_cons_succ]
     exact span_all p l k (by rw [e] at h; simpa using h)
  · have e : (b :: l).take (spanL p (b :: l)) = [] := by rw [spanL, if_neg hb]; rfl
    rw [e] at h
    exact absurd h (by simp)

/-- What number works with: the text behind a -, how many digits, their value. -/
structure NumC (s d : ByteArray) (C V : Nat) : Prop where
 trim : ∀ w, Calls Tryz.prog 190 #[.string s, .string ⟨#[45]⟩] w fun e w' => e = .returned (.string d) ∧ w = w'
 span : ∀ w, Calls Tryz.prog 187 #[.string d, .func (.func 157) #[] #[]] w fun e w' => e = .returned (.int .i64 (C : Nat)) ∧ w = w'
 val : ∀ w, Calls Tryz.prog 191 #[.string (d.extract 0 C)] w fun e w' => e = .returned (.int .i64 (V : Nat)) ∧ w = w'
 le : C ≤ d.size
 sz : d.size ≤ s.size ∧ s.size ≤ d.size + 1
 vle : V ≤ 1099511627777
theorem numC (s : ByteArray) (hs : s.size ≤ 100000000) : NumC s ⟨(dropMinus s.data.toList).toArray⟩ (spanL isDigit (dropMinus s.data.toList)) (valL ((dropMinus s.data.toList).take (spanL isDigit (dropMinus s.data.toList)))) := by
 have hl := dropMinus_len s.data.toList
 have hsz : (⟨(dropMinus s.data.toList).toArray⟩ : ByteArray).size = (dropMinus s.data.toList).length := by rw [size_list]
 rw [← size_list, ← hsz] at hl
 have hsp := spanL_le isDigit (dropMinus s.data.toList)
 rw [← hsz] at hsp
 have htr := fun w => Tryz.strings_TrimPrefix s ⟨#[45]⟩ w
 have hspan := fun w => span_digit ⟨(dropMinus s.data.toList).toArray⟩ (by omega) w
 have hex : (ByteArray.extract ⟨(dropMinus s.data.toList).toArray⟩ 0 (spanL isDigit (dropMinus s.data.toList))).data.toList = (dropMinus s.data.toList).take (spanL isDigit (dropMinus s.data.toList)) := by
  rw [extract_take]
 have hval := fun w => value_any (ByteArray.extract ⟨(dropMinus s.data.toList).toArray⟩ 0 (spanL isDigit (dropMinus s.data.toList))) (by rw [ByteArray.size_extract]; omega) w (by
  intro k h
  have h1 : k < ((dropMinus s.data.toList).take (spanL isDigit (dropMinus s.data.toList))).length := by rw [← hex, ← size_list]; exact h
  have h2 := span_all isDigit (dropMinus s.data.toList) k h1
  have h3 : (ByteArray.extract ⟨(dropMinus s.data.toList).toArray⟩ 0 (spanL isDigit (dropMinus s.data.toList)))[k] = ((dropMinus s.data.toList).take (spanL isDigit (dropMinus s.data.toList)))[k]'h1 := by
   have : (ByteArray.extract ⟨(dropMinus s.data.toList).toArray⟩ 0 (spanL isDigit (dropMinus s.data.toList)))[k] = ((ByteArray.extract ⟨(dropMinus s.data.toList).toArray⟩ 0 (spanL isDigit (dropMinus s.data.toList))).data.toList)[k]'(by rw [← size_list]; exact h) := rfl
   rw [this]
   simp only [hex]
  rw [h3]; exact h2)
 rw [hex] at hval
 refine ⟨fun w => (htr w).mono ?_, hspan, hval, hsp, hl, valL_le _⟩
 rintro e w' ⟨h1, h2⟩
 exact ⟨by rw [h1, ← trim_minus], h2.symm⟩
end Go.Proofs.YtlppbgmcoknliaaGreatDoor
namespace Go.Proofs.YtlppbgmcoknliaaGreatDoor
set_option linter.unusedVariables false
open Go.RowKit

set_option maxHeartbeats 1000000 in
theorem number_none (s d : ByteArray) (C V : Nat) (hs : s.size ≤ 100000000) (hc : NumC s d C V) (w : World) (h : C = 0 ∨ 1099511627776 < V) :
 Calls Tryz.prog 158 #[.string s] w fun e w' => e = .returned (.tuple #[.agg #[.int .i64 0, .int .i64 0, .string ⟨#[]⟩, .int .i64 0], .bool false]) ∧ Below w.heap.size w w' := by
 obtain ⟨c1, c2, c3, hle, hsz, hv⟩ := hc
 by_cases h0 : C = 0
 · have hz : ((C : Int) == 0) = true := by simp; omega
   clear h h0
   go_enter Tryz.func158, Tryz.ntmps158
   go_wp2_with (first | (go_at_call 190; refine (c1 _).mono ?_; rintro e w' ⟨rfl, rfl⟩) | (go_at_call 187; refine (c2 _).mono ?_; rintro e w' ⟨rfl, rfl⟩) | (go_at_call 191; refine (c3 _).mono ?_; rintro e w' ⟨rfl, rfl⟩))
   (try simp only [Exit.inBlock, Exit.then])
   refine bodyPost_ret (by simp [results, Tryz.results158, go_sem]; try rfl) rfl ?_
   exact ⟨rfl, (Below.refl w.heap.size w).alloc (Nat.le_refl _) _⟩
 · have h1 : 1099511627776 < V := by omega
   have hz : ((C : Int) == 0) = false := by simp; omega
   clear h h0
   go_enter Tryz.func158, Tryz.ntmps158
   go_wp2_with (first | (go_at_call 190; refine (c1 _).mono ?_; rintro e w' ⟨rfl, rfl⟩) | (go_at_call 187; refine (c2 _).mono ?_; rintro e w' ⟨rfl, rfl⟩) | (go_at_call 191; refine (c3 _).mono ?_; rintro e w' ⟨rfl, rfl⟩))
   (try simp only [Exit.inBlock, Exit.then])
   refine bodyPost_ret (by simp [results, Tryz.results158, go_sem]; try rfl) rfl ?_
   exact ⟨rfl, (Below.refl w.heap.size w).alloc (Nat.le_refl _) _⟩

theorem box4' {w w1 : World} {a b c d : Value} {t : TypeId} {o : Obj} {B : Nat} (h : Below B (w.alloc (.cells #[a, b, c, d] t)) w1) (hB : B = (w.alloc (.cells #[a, b, c, d] t)).heap.size) :
 (w1.alloc o).cell? ⟨w.heap.size, 0, none⟩ = some a ∧ (w1.alloc o).cell? ⟨w.heap.size, 1, none⟩ = some b ∧ (w1.alloc o).cell? ⟨w.heap.size, 2, none⟩ = some c ∧ (w1.alloc o).cell? ⟨w.heap.size, 3, none⟩ = some d ∧
 (w1.alloc o).frozen? ⟨w.heap.size, 0, none⟩ = false ∧ (w1.alloc o).frozen? ⟨w.heap.size, 1, none⟩ = false ∧ (w1.alloc o).frozen? ⟨w.heap.size, 2, none⟩ = false ∧ (w1.alloc o).frozen? ⟨w.heap.size, 3, none⟩ = false := by
 subst hB
 have hq := box_at h
 have hlt : w.heap.size < w1.heap.size := by have := h.size; rw [World.size_alloc] at this; omega
 have hq2 : (w1.alloc o).heap[w.heap.size]? = some (.cells #[a, b, c, d] t (0, 0)) := (Below.heap_alloc w1 o _ hlt).trans hq
 exact ⟨cell_at hq2 0, cell_at hq2 1, cell_at hq2 2, cell_at hq2 3, frozen_at hq2 0, frozen_at hq2 1, frozen_at hq2 2, frozen_at hq2 3⟩

set_option maxHeartbeats 1000000 in
theorem number_plus (s d : ByteArray) (C V : Nat) (hs : s.size ≤ 100000000) (hc : NumC s d C V) (w : World) (h : C ≠ 0) (hV : V ≤ 1099511627776) (hd : d.size = s.size) :
 Calls Tryz.prog 158 #[.string s] w fun e w' => e = .returned (.tuple #[.agg #[.int .i64 3, .int .i64 0, .string (s.extract 0 C), .int .i64 V], .bool true]) ∧ Below w.heap.size w w' := by
 obtain ⟨c1, c2, c3, hle, hsz, hv⟩ := hc
 have hz : ((C : Int) == 0) = false := by simp; omega
 have c4 := fun w => newToken_any 3 s C w hs (by omega)
 clear h
 go_enter Tryz.func158, Tryz.ntmps158
 go_wp2_with (first | (go_at_call 190; refine (c1 _).mono ?_; rintro e w' ⟨rfl, rfl⟩) | (go_at_call 187; refine (c2 _).mono ?_; rintro e w' ⟨rfl, rfl⟩) | (go_at_call 191; refine (c3 _).mono ?_; rintro e w' ⟨rfl, rfl⟩) | (go_at_call 160; refine (c4 _).mono ?_; rintro e w' ⟨rfl, hb⟩; have qa := fun o => box4' (o := o) hb rfl; have hb := hidIt hb))
 (try simp only [Exit.inBlock, Exit.then])
 refine bodyPost_ret (by simp [results, Tryz.results158, go_sem, qa]; try rfl) rfl ?_
 exact ⟨rfl, below_put (below_put (below_put (below_put ((below_box hb.out).alloc (below_box hb.out).size _) _ _) _ _) _ _) _ _⟩

set_option maxHeartbeats 1000000 in
theorem number_minus (s d : ByteArray) (C V : Nat) (hs : s.size ≤ 100000000) (hc : NumC s d C V) (w : World) (h : C ≠ 0) (hV : V ≤ 1099511627776) (hd : s.size = d.size + 1) :
 Calls Tryz.prog 158 #[.string s] w fun e w' => e = .returned (.tuple #[.agg #[.int .i64 3, .int .i64 0, .string (s.extract 0 (1 + C)), .int .i64 (-(V : Int))], .bool true]) ∧ Below w.heap.size w w' := by
 obtain ⟨c1, c2, c3, hle, hsz, hv⟩ := hc
 have hz : ((C : Int) == 0) = false := by simp; omega
 have hmin : (s.size : Int) - (d.size : Int) = 1 := by omega
 have c4 : ∀ w, Calls Tryz.prog 160 #[.int .i64 3, .string s, .int .i64 (1 + (C : Int))] w fun e w' => e = .returned (.agg #[.int .i64 3, .int .i64 0, .string (s.extract 0 (1 + C)), .int .i64 0]) ∧ Below w.heap.size w w' := fun w => by
  have := newToken_any 3 s (1 + C) w hs (by omega)
  have e : ((1 + C : Nat) : Int) = 1 + (C : Int) := by omega
  rw [e] at this
  exact this
 have hds : d.size ≤ 100000000 := by omega
 clear h hd hsz
 go_enter Tryz.func158, Tryz.ntmps158
 go_wp2_with (first | (go_at_call 190; refine (c1 _).mono ?_; rintro e w' ⟨rfl, rfl⟩) | (go_at_call 187; refine (c2 _).mono ?_; rintro e w' ⟨rfl, rfl⟩) | (go_at_call 191; refine (c3 _).mono ?_; rintro e w' ⟨rfl, rfl⟩) | (go_at_call 160; refine (c4 _).mono ?_; rintro e w' ⟨rfl, hb⟩; have qa := fun o => box4' (o := o) hb rfl; have hb := hidIt hb))
 (try simp only [Exit.inBlock, Exit.then])
 refine bodyPost_ret (by simp [results, Tryz.results158, go_sem, qa]; try rfl) rfl ?_
 exact ⟨rfl, below_put (below_put (below_put (below_put ((below_box hb.out).alloc (below_box hb.out).size _) _ _) _ _) _ _) _ _⟩
end Go.Proofs.YtlppbgmcoknliaaGreatDoor
namespace Go.Proofs.YtlppbgmcoknliaaGreatDoor
set_option linter.unusedVariables false
open Go.RowKit

/-- What first, name and number answer. -/
def fstV (l : List UInt8) : Option Fst → Value
 | none => .tuple #[.agg #[.int .i64 0, .int .i64 0, .string ⟨#[]⟩, .int .i64 0], .bool false]
 | some x => .tuple #[.agg #[.int .i64 (x.kind : Int), .int .i64 0, .string ⟨(l.take x.size).toArray⟩, .int .i64 x.n], .bool true]
theorem fstV_form (l : List UInt8) (o : Option Fst) : ∃ a0 a1 a2 a3 ok, fstV l o = .tuple #[.agg #[.int .i64 a0, .int .i64 a1, .string a2, .int .i64 a3], .bool ok] := by
 cases o with
 | none => exact ⟨_, _, _, _, _, rfl⟩
 | some x => exact ⟨_, _, _, _, _, rfl⟩

theorem name_any (s : ByteArray) (hs : s.size ≤ 100000000) (w : World) :
 Calls Tryz.prog 156 #[.string s] w fun e w' => e = .returned (fstV s.data.toList (nameL s.data.toList)) ∧ Below w.heap.size w w' := by
 by_cases h : 16 < spanL nameByte s.data.toList
 · have e : nameL s.data.toList = none := by unfold nameL; rw [if_pos h]
   rw [e]
   exact name_none s hs w h
 · have e : nameL s.data.toList = some ⟨if isWord (s.data.toList.take (spanL nameByte s.data.toList)) then 2 else 1, spanL nameByte s.data.toList, 0⟩ := by
    unfold nameL
    rw [if_neg h]
    split <;> rfl
   rw [e]
   refine (name_some s hs w _ (by omega) rfl).mono ?_
   rintro e w' ⟨rfl, hb⟩
   refine ⟨?_, hb⟩
   simp only [fstV]
   split <;> rfl

theorem number_any (s : ByteArray) (hs : s.size ≤ 100000000) (w : World) :
 Calls Tryz.prog 158 #[.string s] w fun e w' => e = .returned (fstV s.data.toList (numL s.data.toList)) ∧ Below w.heap.size w w' := by
 have hc := numC s hs
 have hl := dropMinus_len s.data.toList
 have hsz : (⟨(dropMinus s.data.toList).toArray⟩ : ByteArray).size = (dropMinus s.data.toList).length := by rw [size_list]
 have hss := size_list s
 by_cases h : spanL isDigit (dropMinus s.data.toList) = 0 ∨ 1099511627776 < valL ((dropMinus s.data.toList).take (spanL isDigit (dropMinus s.data.toList)))
 · have e : numL s.data.toList = none := by unfold numL; simp only; rw [if_pos h]
   rw [e]
   exact number_none s _ _ _ hs hc w h
 · have e : numL s.data.toList = some ⟨3, s.data.toList.length - (dropMinus s.data.toList).length + spanL isDigit (dropMinus s.data.toList), if 0 < s.data.toList.length - (dropMinus s.data.toList).length then -(valL ((dropMinus s.data.toList).take (spanL isDigit (dropMinus s.data.toList))) : Int) else valL ((dropMinus s.data.toList).take (spanL isDigit (dropMinus s.data.toList)))⟩ := by unfold numL; simp only; rw [if_neg h]
   rw [e]
   have h1 : spanL isDigit (dropMinus s.data.toList) ≠ 0 := fun x => h (.inl x)
   have h2 : valL ((dropMinus s.data.toList).take (spanL isDigit (dropMinus s.data.toList))) ≤ 1099511627776 := Nat.le_of_not_lt fun x => h (.inr x)
   clear h e
   by_cases hd : s.data.toList.length = (dropMinus s.data.toList).length
   · refine (number_plus s _ _ _ hs hc w h1 h2 (by omega)).mono ?_
     rintro e w' ⟨rfl, hb⟩
     refine ⟨?_, hb⟩
     rw [extract_take]
     simp only [fstV, hd, Nat.sub_self, Nat.zero_add, Nat.lt_irrefl, if_false]
     rfl
   · refine (number_minus s _ _ _ hs hc w h1 h2 (by omega)).mono ?_
     rintro e w' ⟨rfl, hb⟩
     refine ⟨?_, hb⟩
     have h3 : s.data.toList.length - (dropMinus s.data.toList).length = 1 := by omega
     rw [extract_take]
     simp only [fstV, h3, Nat.zero_lt_one, if_true]
     rfl

set_option maxHeartbeats 1000000 in
theorem first_name (s : ByteArray) (a0 a1 a3 : Int) (a2 : ByteArray) (ok : Bool) (hs0 : 0 < s.size) (hl : isLetter (s[0]'hs0) = true) (c : ∀ w, Calls Tryz.prog 156 #[.string s] w fun e w' => e = .returned (.tuple #[.agg #[.int .i64 a0, .int .i64 a1, .string a2, .int .i64 a3], .bool ok]) ∧ Below w.heap.size w w') (w : World) :
 Calls Tryz.prog 120 #[.string s] w fun e w' => e = .returned (.tuple #[.agg #[.int .i64 a0, .int .i64 a1, .string a2, .int .i64 a3], .bool ok]) ∧ Below w.heap.size w w' := by
 have hE : s.toList.isEmpty = false := by
  rw [ByteArray.toList_eq]
  cases h : s.data.toList with
  | nil => rw [size_list, h] at hs0; simp at hs0
  | cons b l => rfl
 have c1 := letter_any (s[0]'hs0)
 rw [hl] at c1
 clear hl
 go_enter Tryz.func120, Tryz.ntmps120
 go_wp2_with (first | (go_at_call 155; refine (c1 _).mono ?_; rintro e w' ⟨rfl, rfl⟩) | (go_at_call 156; refine (c _).mono ?_; rintro e w' ⟨rfl, hb⟩; obtain ⟨q0, q1, q2, q3, f0, f1, f2, f3⟩ := box4 hb; have hb := hidIt hb))
 (try simp only [Exit.inBlock, Exit.then])
 refine bodyPost_ret (by simp [results, Tryz.results120, go_sem, q0, q1, q2, q3]; try rfl) rfl ?_
 exact ⟨rfl, below_put (below_put (below_put (below_put (below_box hb.out) _ _) _ _) _ _) _ _⟩

set_option maxHeartbeats 1000000 in
theorem first_num (s : ByteArray) (a0 a1 a3 : Int) (a2 : ByteArray) (ok : Bool) (hs0 : 0 < s.size) (hl : isLetter (s[0]'hs0) = false) (hd : isDigit (s[0]'hs0) = true) (c : ∀ w, Calls Tryz.prog 158 #[.string s] w fun e w' => e = .returned (.tuple #[.agg #[.int .i64 a0, .int .i64 a1, .string a2, .int .i64 a3], .bool ok]) ∧ Below w.heap.size w w') (w : World) :
 Calls Tryz.prog 120 #[.string s] w fun e w' => e = .returned (.tuple #[.agg #[.int .i64 a0, .int .i64 a1, .string a2, .int .i64 a3], .bool ok]) ∧ Below w.heap.size w w' := by
 have hE : s.toList.isEmpty = false := by
  rw [ByteArray.toList_eq]
  cases h : s.data.toList with
  | nil => rw [size_list, h] at hs0; simp at hs0
  | cons b l => rfl
 have c1 := letter_any (s[0]'hs0)
 have c2 := digit_any (s[0]'hs0)
 rw [hl] at c1
 rw [hd] at c2
 clear hl hd
 go_enter Tryz.func120, Tryz.ntmps120
 go_wp2_with (first | (go_at_call 155; refine (c1 _).mono ?_; rintro e w' ⟨rfl, rfl⟩) | (go_at_call 157; refine (c2 _).mono ?_; rintro e w' ⟨rfl, rfl⟩) | (go_at_call 158; refine (c _).mono ?_; rintro e w' ⟨rfl, hb⟩; obtain ⟨q0, q1, q2, q3, f0, f1, f2, f3⟩ := box4 hb; have hb := hidIt hb))
 (try simp only [Exit.inBlock, Exit.then])
 refine bodyPost_ret (by simp [results, Tryz.results120, go_sem, q0, q1, q2, q3]; try rfl) rfl ?_
 exact ⟨rfl, below_put (below_put (below_put (below_put (below_box hb.out) _ _) _ _) _ _) _ _⟩

set_option maxHeartbeats 1000000 in
theorem first_minus (s : ByteArray) (a0 a1 a3 : Int) (a2 : ByteArray) (ok : Bool) (hs0 : 0 < s.size) (hl : isLetter (s[0]'hs0) = false) (hd : isDigit (s[0]'hs0) = false) (hm : (s[0]'hs0).toNat = 45) (c : ∀ w, Calls Tryz.prog 158 #[.string s] w fun e w' => e = .returned (.tuple #[.agg #[.int .i64 a0, .int .i64 a1, .string a2, .int .i64 a3], .bool ok]) ∧ Below w.heap.size w w') (w : World) :
 Calls Tryz.prog 120 #[.string s] w fun e w' => e = .returned (.tuple #[.agg #[.int .i64 a0, .int .i64 a1, .string a2, .int .i64 a3], .bool ok]) ∧ Below w.heap.size w w' := by
 have hE : s.toList.isEmpty = false := by
  rw [ByteArray.toList_eq]
  cases h : s.data.toList with
  | nil => rw [size_list, h] at hs0; simp at hs0
  | cons b l => rfl
 have c1 := letter_any (s[0]'hs0)
 have c2 := digit_any (s[0]'hs0)
 rw [hl] at c1
 rw [hd] at c2
 have hm2 : (((s[0]'hs0).toNat : Int) == 45) = true := by simp; omega
 clear hl hd hm
 go_enter Tryz.func120, Tryz.ntmps120
 go_wp2_with (first | (go_at_call 155; refine (c1 _).mono ?_; rintro e w' ⟨rfl, rfl⟩) | (go_at_call 157; refine (c2 _).mono ?_; rintro e w' ⟨rfl, rfl⟩) | (go_at_call 158; refine (c _).mono ?_; rintro e w' ⟨rfl, hb⟩; obtain ⟨q0, q1, q2, q3, f0, f1, f2, f3⟩ := box4 hb; have hb := hidIt hb))
 (try simp only [Exit.inBlock, Exit.then])
 refine bodyPost_ret (by simp [results, Tryz.results120, go_sem, q0, q1, q2, q3]; try rfl) rfl ?_
 exact ⟨rfl, below_put (below_put (below_put (below_put (below_box hb.out) _ _) _ _) _ _) _ _⟩

set_option maxHeartbeats 1000000 in
theorem first_sign (s : ByteArray) (hs : s.size ≤ 100000000) (hs0 : 0 < s.size) (hl : isLetter (s[0]'hs0) = false) (hd : isDigit (s[0]'hs0) = false) (hm : (s[0]'hs0).toNat ≠ 45) (hsg : isSign (s[0]'hs0) = true) (w : World) :
 Calls Tryz.prog 120 #[.string s] w fun e w' => e = .returned (.tuple #[.agg #[.int .i64 4, .int .i64 0, .string (s.extract 0 1), .int .i64 0], .bool true]) ∧ Below w.heap.size w w' := by
 have hE : s.toList.isEmpty = false := by
  rw [ByteArray.toList_eq]
  cases h : s.data.toList with
  | nil => rw [size_list, h] at hs0; simp at hs0
  | cons b l => rfl
 have c1 := letter_any (s[0]'hs0)
 have c2 := digit_any (s[0]'hs0)
 have c3 := sign_any (s[0]'hs0)
 have c : ∀ w, Calls Tryz.prog 160 #[.int .i64 4, .string s, .int .i64 1] w fun e w' => e = .returned (.agg #[.int .i64 4, .int .i64 0, .string (s.extract 0 1), .int .i64 0]) ∧ Below w.heap.size w w' := fun w => newToken_any 4 s 1 w hs hs0
 rw [hl] at c1
 rw [hd] at c2
 rw [hsg] at c3
 have hm2 : (((s[0]'hs0).toNat : Int) == 45) = false := by simp; omega
 clear hl hd hm hsg
 go_enter Tryz.func120, Tryz.ntmps120
 go_wp2_with (first | (go_at_call 155; refine (c1 _).mono ?_; rintro e w' ⟨rfl, rfl⟩) | (go_at_call 157; refine (c2 _).mono ?_; rintro e w' ⟨rfl, rfl⟩) | (go_at_call 159; refine (c3 _).mono ?_; rintro e w' ⟨rfl, rfl⟩) | (go_at_call 160; refine (c _).mono ?_; rintro e w' ⟨rfl, hb⟩; obtain ⟨q0, q1, q2, q3, f0, f1, f2, f3⟩ := box4 hb; have hb := hidIt hb))
 (try simp only [Exit.inBlock, Exit.then])
 refine bodyPost_ret (by simp [results, Tryz.results120, go_sem, q0, q1, q2, q3]; try rfl) rfl ?_
 exact ⟨rfl, below_put (below_put (below_put (below_put (below_box hb.out) _ _) _ _) _ _) _ _⟩

set_option maxHeartbeats 1000000 in
theorem first_none (s : ByteArray) (hs0 : 0 < s.size) (hl : isLetter (s[0]'hs0) = false) (hd : isDigit (s[0]'hs0) = false) (hm : (s[0]'hs0).toNat ≠ 45) (hsg : isSign (s[0]'hs0) = false) (w : World) :
 Calls Tryz.prog 120 #[.string s] w fun e w' => e = .returned (.tuple #[.agg #[.int .i64 0, .int .i64 0, .string ⟨#[]⟩, .int .i64 0], .bool false]) ∧ Below w.heap.size w w' := by
 have hE : s.toList.isEmpty = false := by
  rw [ByteArray.toList_eq]
  cases h : s.data.toList with
  | nil => rw [size_list, h] at hs0; simp at hs0
  | cons b l => rfl
 have c1 := letter_any (s[0]'hs0)
 have c2 := digit_any (s[0]'hs0)
 have c3 := sign_any (s[0]'hs0)
 rw [hl] at c1
 rw [hd] at c2
 rw [hsg] at c3
 have hm2 : (((s[0]'hs0).toNat : Int) == 45) = false := by simp; omega
 clear hl hd hm hsg
 go_enter Tryz.func120, Tryz.ntmps120
 go_wp2_with (first | (go_at_call 155; refine (c1 _).mono ?_; rintro e w' ⟨rfl, rfl⟩) | (go_at_call 157; refine (c2 _).mono ?_; rintro e w' ⟨rfl, rfl⟩) | (go_at_call 159; refine (c3 _).mono ?_; rintro e w' ⟨rfl, rfl⟩))
 (try simp only [Exit.inBlock, Exit.then])
 refine bodyPost_ret (by simp [results, Tryz.results120, go_sem]; try rfl) rfl ?_
 exact ⟨rfl, (Below.refl w.heap.size w).alloc (Nat.le_refl _) _⟩

set_option maxHeartbeats 1000000 in
theorem first_empty (s : ByteArray) (hs0 : s.size = 0) (w : World) :
 Calls Tryz.prog 120 #[.string s] w fun e w' => e = .returned (.tuple #[.agg #[.int .i64 0, .int .i64 0, .string ⟨#[]⟩, .int .i64 0], .bool false]) ∧ Below w.heap.size w w' := by
 have hE : s.toList.isEmpty = true := by
  rw [ByteArray.toList_eq]
  cases h : s.data.toList with
  | nil => rfl
  | cons b l => rw [size_list, h] at hs0; simp at hs0
 clear hs0
 go_enter Tryz.func120, Tryz.ntmps120
 go_wp2
 (try simp only [Exit.inBlock, Exit.then])
 refine bodyPost_ret (by simp [results, Tryz.results120, go_sem]; try rfl) rfl ?_
 exact ⟨rfl, (Below.refl w.heap.size w).alloc (Nat.le_refl _) _⟩

theorem first_any (s : ByteArray) (hs : s.size ≤ 100000000) (w : World) :
 Calls Tryz.prog 120 #[.string s] w fun e w' => e = .returned (fstV s.data.toList (firstL s.data.toList)) ∧ Below w.heap.size w w' := by
 by_cases h0 : s.size = 0
 · have e : s.data.toList = [] := List.eq_nil_of_length_eq_zero (by rw [← size_list]; exact h0)
   rw [e]
   exact first_empty s h0 w
 · have hs0 : 0 < s.size := by omega
   have e : s.data.toList = (s[0]'hs0) :: s.data.toList.drop 1 := drop_cons s 0 hs0
   have ef : firstL s.data.toList = if isLetter (s[0]'hs0) then nameL s.data.toList else if isDigit (s[0]'hs0) || (s[0]'hs0).toNat == 45 then numL s.data.toList else if isSign (s[0]'hs0) then some ⟨4, 1, 0⟩ else none := by
    conv => lhs; rw [e]
    simp only [firstL]
    rw [← e]
   rw [ef]
   cases hl : isLetter (s[0]'hs0) with
   | true =>
    simp only [if_true]
    obtain ⟨a0, a1, a2, a3, ok, ev⟩ := fstV_form s.data.toList (nameL s.data.toList)
    have c := name_any s hs
    rw [ev] at c ⊢
    exact first_name s a0 a1 a3 a2 ok hs0 hl c w
   | false =>
    simp only [Bool.false_eq_true, if_false]
    cases hd : isDigit (s[0]'hs0) with
    | true =>
     simp only [Bool.true_or, if_true]
     obtain ⟨a0, a1, a2, a3, ok, ev⟩ := fstV_form s.data.toList (numL s.data.toList)
     have c := number_any s hs
     rw [ev] at c ⊢
     exact first_num s a0 a1 a3 a2 ok hs0 hl hd c w
    | false =>
     by_cases hm : (s[0]'hs0).toNat = 45
     · have hmb : ((s[0]'hs0).toNat == 45) = true := by simp [hm]
       simp only [hmb, Bool.or_true, if_true]
       obtain ⟨a0, a1, a2, a3, ok, ev⟩ := fstV_form s.data.toList (numL s.data.toList)
       have c := number_any s hs
       rw [ev] at c ⊢
       exact first_minus s a0 a1 a3 a2 ok hs0 hl hd hm c w
     · have hmb : ((s[0]'hs0).toNat == 45) = false := by simp [hm]
       simp only [hmb, Bool.or_self, Bool.false_eq_true, if_false]
       cases hsg : isSign (s[0]'hs0) with
       | true =>
        refine (first_sign s hs hs0 hl hd hm hsg w).mono ?_
        rintro e w' ⟨rfl, hb⟩
        refine ⟨?_, hb⟩
        rw [extract_take]
        rfl
       | false => exact first_none s hs0 hl hd hm hsg w
end Go.Proofs.YtlppbgmcoknliaaGreatDoor
namespace Go.Proofs.YtlppbgmcoknliaaGreatDoor
set_option linter.unusedVariables false
open Go.RowKit

theorem heap_on {w w' : World} {b : Nat} {o : Obj} (h : w.heap[b]? = some o) (hb : Below w.heap.size w w') : w'.heap[b]? = some o :=
 (hb.block b (Array.getElem?_eq_some_iff.1 h).1).trans h
theorem below_new (w : World) (o : Obj) : Below w.heap.size w (w.alloc o) := (Below.refl _ _).alloc (Nat.le_refl _) o
theorem below_next {a b c : World} (h : Below a.heap.size a b) (k : Below b.heap.size b c) : Below a.heap.size a c := h.trans (k.mono h.size)

/-- What Name answers. -/
def nameB (l : List UInt8) : Bool :=
 match firstL l with
 | none => false
 | some x => x.kind == 1 && l.take x.size == l

set_option maxHeartbeats 1000000 in
theorem isName_any (s : ByteArray) (hs : s.size ≤ 100000000) (w : World) :
 Calls Tryz.prog 82 #[.string s] w fun e w' => e = .returned (.bool (nameB s.data.toList)) ∧ Below w.heap.size w w' := by
 have c1 := first_any s hs
 unfold nameB
 rw [← ByteArray.toList_eq]
 rw [← ByteArray.toList_eq] at c1
 cases hf : firstL s.toList with
 | none =>
  rw [hf] at c1
  simp only [fstV] at c1
  clear hf
  go_enter Tryz.func82, Tryz.ntmps82
  go_wp2_with (first | (go_at_call 120; refine (c1 _).mono ?_; rintro e w' ⟨rfl, hb⟩; have hb := hidIt hb))
  go_ret
  exact ⟨rfl, hb.out.alloc hb.out.size _⟩
 | some x =>
  rw [hf] at c1
  simp only [fstV] at c1
  clear hf
  simp only
  by_cases hk : x.kind = 1
  · have hk1 : ((x.kind : Int) == 1) = true := by simp; omega
    have hk2 : (x.kind == 1) = true := by simp; omega
    rw [hk2, Bool.true_and]
    generalize (x.kind : Int) = K at c1 hk1
    have el : (⟨(s.toList.take x.size).toArray⟩ : ByteArray).toList = s.toList.take x.size := ByteArray.toList_mk _
    clear hk hk2
    generalize (s.toList.take x.size) = tk at c1 el ⊢
    go_enter Tryz.func82, Tryz.ntmps82
    go_wp2_with (first | (go_at_call 120; refine (c1 _).mono ?_; rintro e w' ⟨rfl, hb⟩; have hb := hidIt hb))
    go_ret
    exact ⟨rfl, hb.out.alloc hb.out.size _⟩
  · have hk1 : ((x.kind : Int) == 1) = false := by simp; omega
    have hk2 : (x.kind == 1) = false := by simp; omega
    rw [hk2, Bool.false_and]
    generalize (x.kind : Int) = K at c1 hk1
    clear hk hk2
    go_enter Tryz.func82, Tryz.ntmps82
    go_wp2_with (first | (go_at_call 120; refine (c1 _).mono ?_; rintro e w' ⟨rfl, hb⟩; have hb := hidIt hb))
    go_ret
    exact ⟨rfl, hb.out.alloc hb.out.size _⟩

end Go.Proofs.YtlppbgmcoknliaaGreatDoor
