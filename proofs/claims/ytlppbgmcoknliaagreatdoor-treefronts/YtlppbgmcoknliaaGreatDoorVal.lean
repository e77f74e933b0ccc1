/-
  The walk of value.
-/
import Derived.Test.YtlppbgmcoknliaaGreatDoorTok
namespace Go.Proofs.YtlppbgmcoknliaaGreatDoor
set_option linter.unusedVariables false
open Go.RowKit

theorem valStep_le (n : Nat) (b : UInt8) : valStep n b ≤ 1099511627777 := by unfold valStep; omega
theorem valL_take (s : ByteArray) (k : Nat) (h : k < s.size) : valL (s.data.toList.take (k + 1)) = valStep (valL (s.data.toList.take k)) (s[k]'h) := by
  have h' : k < s.data.toList.length := by rw [← size_list]; exact h
  unfold valL
  rw [List.take_succ_eq_append_getElem h', List.foldl_append]
  rfl
theorem foldl_le : ∀ (l : List UInt8) (n : Nat), n ≤ 1099511627777 → l.foldl valStep n ≤ 1099511627777
  | [], n, h => h
  | b :: l, n, h => foldl_le l _ (valStep_le n b)
theorem valL_le (l : List UInt8) : valL l ≤ 1099511627777 := foldl_le l 0 (by omega)

theorem valStep_int (m : Nat) (b : UInt8) (h : isDigit b = true) : ((valStep m b : Nat) : Int) = min ((m : Int) * 10 + ((b.toNat : Int) - 48) % 256) 1099511627777 := by
  unfold valStep
  simp only [isDigit, Bool.and_eq_true, decide_eq_true_eq] at h
  omega

set_option maxHeartbeats 1000000 in
theorem value_any (s : ByteArray) (hs : s.size ≤ 100000000) (w : World) (hd : ∀ k (h : k < s.size), isDigit (s[k]'h) = true) :
    Calls Tryz.prog 191 #[.string s] w fun e w' => e = .returned (.int .i64 (valL s.data.toList : Nat)) ∧ w = w' := by
  have hst : Hid (valL (s.data.toList.take 0) = 0) := hidIt rfl
  have hen : Hid (valL (s.data.toList.take s.size) = valL s.data.toList) := hidIt (by rw [size_list, List.take_length])
  have hd := hidIt hd
  generalize valL s.data.toList = N at hen ⊢
  go_enter Tryz.func191, Tryz.ntmps191
  go_wp2
  go_loopw [3, 7] (fun n i wr => ∃ k m : Nat, k ≤ s.size ∧ m ≤ 1099511627777 ∧ i = .int .i64 k ∧ n = .int .i64 m ∧ wr = w ∧ Hid (valL (s.data.toList.take k) = m)) (fun _ i _ => s.size - (intOf i).toNat)
  case atStart => exact ⟨0, 0, Nat.zero_le _, by omega, rfl, rfl, rfl, hst⟩
  case round =>
    clear hst
    obtain ⟨k, m, hk, hm, rfl, rfl, rfl, hN⟩ := hrel
    by_cases hlt : k < s.size
    · have hb := hd.out k hlt
      have hN2 := hidIt (valL_take s k hlt)
      have hN3 := hidIt (hN2.out.trans (congrArg (fun m => valStep m (s[k]'hlt)) hN.out))
      have he := hidIt (valStep_int m (s[k]'hlt) hb)
      clear hen hd hb hN hN2
      go_wp2
      go_roundw
      case rel => exact ⟨k + 1, valStep m (s[k]'hlt), by omega, valStep_le _ _, by go_num, by rw [he.out], trivial, hN3⟩
      case measure => simp [intOf]; omega
    · obtain rfl : k = s.size := by omega
      have hN2 := hidIt (hN.out.symm.trans hen.out)
      clear hN hen hd
      go_wp2
      go_ret
      exact ⟨by rw [← hN2.out]; rfl, rfl⟩
end Go.Proofs.YtlppbgmcoknliaaGreatDoor
