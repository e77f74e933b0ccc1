/-
  The walk of pass.
-/
import Derived.Test.YtinppjjhjijoeaaOne
import Derived.Deep.LoopGhost
namespace Go.Proofs.Ytinppjjhjijoeaa
set_option linter.unusedVariables false
open Go.RowKit

theorem pass_blank {s : ByteArray} {k N : Nat} (h : k < s.size) (hb : isBlank (s[k]'h) = true) (hN : N = k + passL false (s.data.toList.drop k)) : N = k + 1 + passL false (s.data.toList.drop (k + 1)) := by
  rw [hN, drop_cons s k h, passL, if_pos hb]
  omega
theorem pass_stop {s : ByteArray} {k N : Nat} (h : k < s.size) (hb : isBlank (s[k]'h) = false) (hr : (s[k]'h).toNat ≠ 35) (hN : N = k + passL false (s.data.toList.drop k)) : N = k := by
  rw [hN, drop_cons s k h, passL, if_neg (by simp [hb]), if_neg (by simpa using hr)]
  omega
theorem pass_end {s : ByteArray} {N : Nat} (hN : N = s.size + passL false (s.data.toList.drop s.size)) : N = s.size := by
  rw [hN, size_list, List.drop_length]
  rfl
theorem pass_remark {s : ByteArray} {k N : Nat} (h : k < s.size) (hr : (s[k]'h).toNat = 35) (hN : N = k + passL false (s.data.toList.drop k)) :
    N = k + spanL noFeed (s.data.toList.drop k) + passL false (s.data.toList.drop (k + spanL noFeed (s.data.toList.drop k))) ∧ 0 < spanL noFeed (s.data.toList.drop k) ∧ k + spanL noFeed (s.data.toList.drop k) ≤ s.size := by
  have e := drop_cons s k h
  have hf : noFeed (s[k]'h) = true := by simp [noFeed, hr]
  have hs : spanL noFeed (s.data.toList.drop k) = spanL noFeed (s.data.toList.drop (k + 1)) + 1 := by rw [e, spanL, if_pos hf]
  have hb : isBlank (s[k]'h) = false := by simp [isBlank, hr]
  refine ⟨?_, by omega, ?_⟩
  · rw [hN, e, passL, if_neg (by simp [hb]), if_pos (by simp [hr]), passL_true, ← e, hs]
    rw [List.drop_drop]
    have : k + 1 + spanL noFeed (s.data.toList.drop (k + 1)) = k + (spanL noFeed (s.data.toList.drop (k + 1)) + 1) := by omega
    rw [this]
    omega
  · have := spanL_le noFeed (s.data.toList.drop k)
    rw [List.length_drop, ← size_list] at this
    omega

set_option maxHeartbeats 1000000 in
theorem pass_any (s : ByteArray) (hs : s.size ≤ 100000000) (a : Nat) (ha : a ≤ s.size) (w : World) :
    Calls Try.prog 19 #[.string s, .int .i64 a] w fun e w' => e = .returned (.int .i64 (a + passL false (s.data.toList.drop a) : Nat)) ∧ w = w' := by
  obtain ⟨N, hN⟩ : ∃ N, N = a + passL false (s.data.toList.drop a) := ⟨_, rfl⟩
  rw [← hN]
  have hst := hidIt hN
  clear hN
  go_enter Try.func19, Try.ntmps19
  go_wp2
  go_step3
  go_wp2
  go_step3
  go_wp2
  go_loopw [1] (fun i wr => ∃ k : Nat, k ≤ s.size ∧ i = .int .i64 k ∧ wr = w ∧ Hid (N = k + passL false (s.data.toList.drop k))) (fun i _ => s.size - (intOf i).toNat)
  case atStart => exact ⟨a, ha, rfl, rfl, hst⟩
  case round =>
    clear hst ha
    obtain ⟨k, hk, rfl, rfl, hN⟩ := hrel
    by_cases hlt : k < s.size
    · by_cases e32 : (s[k]'hlt).toNat = 32
      · have hN2 := hidIt (pass_blank hlt (by simp [isBlank, e32]) hN.out)
        have h32 : (((s[k]'hlt).toNat : Int) == 32) = true := by simp; omega
        have h9 : (((s[k]'hlt).toNat : Int) == 9) = false := by simp; omega
        have h10 : (((s[k]'hlt).toNat : Int) == 10) = false := by simp; omega
        have h35 : (((s[k]'hlt).toNat : Int) == 35) = false := by simp; omega
        clear e32 hN
        go_wp2
        go_roundw
        case rel => exact ⟨k + 1, by omega, by go_num, trivial, hN2⟩
        case measure => simp [intOf]; omega
      by_cases e9 : (s[k]'hlt).toNat = 9
      · have hN2 := hidIt (pass_blank hlt (by simp [isBlank, e9]) hN.out)
        have h32 : (((s[k]'hlt).toNat : Int) == 32) = false := by simp; omega
        have h9 : (((s[k]'hlt).toNat : Int) == 9) = true := by simp; omega
        have h10 : (((s[k]'hlt).toNat : Int) == 10) = false := by simp; omega
        have h35 : (((s[k]'hlt).toNat : Int) == 35) = false := by simp; omega
        clear e32 e9 hN
        go_wp2
        go_roundw
        case rel => exact ⟨k + 1, by omega, by go_num, trivial, hN2⟩
        case measure => simp [intOf]; omega
      by_cases e10 : (s[k]'hlt).toNat = 10
      · have hN2 := hidIt (pass_blank hlt (by simp [isBlank, e10]) hN.out)
        have h32 : (((s[k]'hlt).toNat : Int) == 32) = false := by simp; omega
        have h9 : (((s[k]'hlt).toNat : Int) == 9) = false := by simp; omega
        have h10 : (((s[k]'hlt).toNat : Int) == 10) = true := by simp; omega
        have h35 : (((s[k]'hlt).toNat : Int) == 35) = false := by simp; omega
        clear e32 e9 e10 hN
        go_wp2
        go_roundw
        case rel => exact ⟨k + 1, by omega, by go_num, trivial, hN2⟩
        case measure => simp [intOf]; omega
      by_cases e35 : (s[k]'hlt).toNat = 35
      · obtain ⟨hN2, hp, hle⟩ := pass_remark hlt e35 hN.out
        have c1 := span_feed (s.extract k s.size) (by rw [ByteArray.size_extract]; omega)
        rw [extract_drop] at c1
        have h32 : (((s[k]'hlt).toNat : Int) == 32) = false := by simp; omega
        have h9 : (((s[k]'hlt).toNat : Int) == 9) = false := by simp; omega
        have h10 : (((s[k]'hlt).toNat : Int) == 10) = false := by simp; omega
        have h35 : (((s[k]'hlt).toNat : Int) == 35) = true := by simp; omega
        generalize spanL noFeed (s.data.toList.drop k) = M at hN2 hp hle c1
        have hN2 := hidIt hN2
        clear e32 e9 e10 e35 hN
        go_wp2_with (first | (go_at_call 31; refine (c1 _).mono ?_; rintro e w' ⟨rfl, rfl⟩))
        go_roundw
        case rel => exact ⟨k + M, by omega, by go_num, trivial, hN2⟩
        case measure => simp [intOf]; omega
      have hN2 := hidIt (pass_stop hlt (by simp [isBlank, e32, e9, e10]) e35 hN.out)
      have h32 : (((s[k]'hlt).toNat : Int) == 32) = false := by simp; omega
      have h9 : (((s[k]'hlt).toNat : Int) == 9) = false := by simp; omega
      have h10 : (((s[k]'hlt).toNat : Int) == 10) = false := by simp; omega
      have h35 : (((s[k]'hlt).toNat : Int) == 35) = false := by simp; omega
      clear e32 e9 e10 e35 hN
      go_wp2
      (try rw [Exit.noGoto_ret])
      go_ret
      exact ⟨by rw [hN2.out]; rfl, rfl⟩
    · obtain rfl : k = s.size := by omega
      have hN2 := hidIt (pass_end hN.out)
      clear hN
      go_wp2
      (try rw [Exit.noGoto_ret])
      go_ret
      exact ⟨by rw [hN2.out]; rfl, rfl⟩
end Go.Proofs.Ytinppjjhjijoeaa
