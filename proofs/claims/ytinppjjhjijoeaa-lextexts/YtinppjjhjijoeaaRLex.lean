/-
  The walk of the document's Lex.
-/
import Derived.Test.YtinppjjhjijoeaaRMod
import Derived.Deep.LoopGhost
import Derived.Deep.CutBlock
import Derived.Deep.DeepCutAuto
namespace Go.Proofs.Ytinppjjhjijoeaa
set_option linter.unusedVariables false
open Go.RowKit

set_option maxHeartbeats 1000000 in
theorem rlex_many (s : ByteArray) (hs : 16384 < s.size) (w : World) :
    Calls Try.prog 11 #[.string s] w fun e w' => e = .returned (.tuple #[.slice none 0 0, .agg #[.int .i64 16384, .int .i64 3]]) ∧ Below w.heap.size w w' := by
  go_enter Try.func11, Try.ntmps11
  go_wp2
  (try simp only [Exit.inBlock, Exit.then])
  refine bodyPost_ret (by simp [results, Try.results11, go_sem]; try rfl) rfl ?_
  exact ⟨rfl, (Below.refl w.heap.size w).alloc (Nat.le_refl _) _⟩

theorem info36r : (Try.prog.info? 36).map (fun i => (i.zero, i.size, i.bytes)) = some (some (.agg #[.int .i64 0, .int .i64 0, .string ⟨#[]⟩, .int .i64 0]), 4, 40) := by kernel_rfl

theorem Sw.none {s : ByteArray} {k : Nat} {wr wx : World} {j : Nat} (hb : Below wr.heap.size wr wx) (h : firstL (s.data.toList.drop k) = .none) : Sw s k wr wx j false := by
  refine ⟨hb, ?_⟩
  rw [h]
theorem Sw.some {s : ByteArray} {k : Nat} {wr wx : World} {j : Nat} {x : Fst} (hb : Below wr.heap.size wr wx) (h : firstL (s.data.toList.drop k) = .some x) (hj : j = k + x.size) (hx : wx.heap[wr.heap.size]? = .some (tbox x.kind k x.n)) : Sw s k wr wx j true := by
  refine ⟨hb, ?_⟩
  rw [h]
  exact ⟨rfl, hj, hx⟩
theorem SwR.mk {s : ByteArray} {k : Nat} {wr wx : World} {j : Nat} {ji : Int} {ok : Bool} (h : Sw s k wr wx j ok) (hj : ji = (j : Int)) : SwR s k wr (.int .i64 ji) (.bool ok) wx := ⟨j, ok, by rw [hj], rfl, h⟩

theorem SwR.name {s : ByteArray} {k M K : Nat} {wr wx : World} (hfl : firstL (s.data.toList.drop k) = if 16 < M - k then .none else .some ⟨K, M - k, 0⟩) (hb : Below wr.heap.size wr wx) (hx : wx.heap[wr.heap.size]? = .some (tbox K k 0)) (hk : k < M) : SwR s k wr (.int .i64 (M : Int)) (.bool (decide ((M : Int) - (k : Int) ≤ 16))) wx := by
  by_cases h : 16 < M - k
  · rw [if_pos h] at hfl
    rw [decide_eq_false (by omega)]
    exact SwR.mk (Sw.none hb hfl) rfl
  · rw [if_neg h] at hfl
    rw [decide_eq_true (by omega)]
    exact SwR.mk (Sw.some hb hfl (by show M = k + (M - k); omega) hx) rfl
theorem get_of {X : ByteArray} {L : List UInt8} (e : X.data.toList = L) (i : Nat) (h : i < X.size) (h' : i < L.length) : X[i]'h = L[i]'h' := by subst e; rfl
/-- The document's number of what stands between two places. -/
theorem rnumber_at (s : ByteArray) (hs : s.size ≤ 100000000) (k M C : Nat) (hk : k < s.size) (hM : M = k + 1 + spanL isDigit (s.data.toList.drop (k + 1))) (hC : C = M - k) (hb : isDigit (s[k]'hk) = true ∨ (s[k]'hk).toNat = 45) (w : World) :
    Calls Try.prog 23 #[.string (s.extract k M)] w fun e w' => e = .returned (numA (numR ((s.data.toList.drop k).take C)) (decide ((s[k]'hk).toNat = 45))) ∧ w = w' := by
  have hle := spanL_le isDigit (s.data.toList.drop (k + 1))
  rw [List.length_drop, ← size_list] at hle
  have hex : (s.extract k M).data.toList = (s.data.toList.drop k).take C := by
    have := extract_between s k C
    rw [show k + C = M from by omega] at this
    exact this
  have hcons : (s.data.toList.drop k).take C = (s[k]'hk) :: (s.data.toList.drop (k + 1)).take (spanL isDigit (s.data.toList.drop (k + 1))) := by
    rw [drop_cons s k hk, show C = spanL isDigit (s.data.toList.drop (k + 1)) + 1 from by omega, List.take_succ_cons]
  have hsz : (s.extract k M).size = M - k := by rw [ByteArray.size_extract]; omega
  have h0 : 0 < (s.extract k M).size := by omega
  have hg0 : (s.extract k M)[0]'h0 = s[k]'hk := get_of (hex.trans hcons) 0 h0 (by simp)
  have := rnumber_any (s.extract k M) (by omega) h0 (fun i hi => by
    have e := get_of (hex.trans hcons) i hi (by rw [← hcons, ← hex, ← size_list]; exact hi)
    rw [e]
    have hm := List.getElem_mem (l := (s[k]'hk) :: (s.data.toList.drop (k + 1)).take (spanL isDigit (s.data.toList.drop (k + 1)))) (n := i) (by rw [← hcons, ← hex, ← size_list]; exact hi)
    rw [List.mem_cons] at hm
    rcases hm with hm | hm
    · rw [hm]; exact hb
    · left
      obtain ⟨q, hq, he⟩ := List.mem_iff_getElem.1 hm
      rw [← he]
      exact span_all isDigit _ q hq) w
  rw [hex, hg0] at this
  exact this
theorem numA_big {V : Nat} {neg : Bool} (h : 1099511627776 < V) : numA V neg = .tuple #[.int .i64 0, .bool false] := by
  unfold numA; rw [if_pos h, decide_eq_false (by omega)]
theorem numA_pos {V : Nat} (h : ¬ 1099511627776 < V) : numA V false = .tuple #[.int .i64 (V : Int), .bool true] := by
  unfold numA; rw [if_neg h, decide_eq_true (by omega)]; rfl
theorem numA_neg {V : Nat} (h : ¬ 1099511627776 < V) : numA V true = .tuple #[.int .i64 (-(V : Int)), .bool true] := by
  unfold numA; rw [if_neg h, decide_eq_true (by omega)]; rfl

set_option maxRecDepth 100000 in
set_option maxHeartbeats 8000000 in
theorem rlex_any (s : ByteArray) (hs : s.size ≤ 16384) (w : World) :
    Calls Try.prog 11 #[.string s] w (RLexPost s w) := by
  have hst := hidIt (RLI.start s w)
  go_enter Try.func11, Try.ntmps11
  go_wp2
  go_loopg [4, 5] (s.size) (fun gk v i wr => ∃ (k : Nat) (ts : List Tok), k ≤ s.size ∧ gk = s.size - k ∧ i = .int .i64 k ∧ Hid (RLI s w wr v ts k))
  case atStart => exact ⟨0, [], Nat.zero_le _, rfl, rfl, hst⟩
  case round =>
    clear hst
    obtain ⟨k, ts, hk, rfl, rfl, H⟩ := hrel
    obtain ⟨b0, b1, z0, z1⟩ := diag_cells H.out.bel
    by_cases hlt : k < s.size
    · clear b0 b1 z0 z1
      by_cases e32 : (s[k]'hlt).toNat = 32
      · have HN := hidIt (H.out.to (Nat.le_succ k) (lexAt_blank hlt (by simp [isBlank, e32])))
        have h32 : (((s[k]'hlt).toNat : Int) == 32) = true := by simp; omega
        clear H e32
        go_wp2
        go_roundg (s.size - (k + 1))
        case measure => omega
        case rel => exact ⟨k + 1, ts, by omega, rfl, by go_num, HN⟩
      have h32 : (((s[k]'hlt).toNat : Int) == 32) = false := by simp; omega
      by_cases e9 : (s[k]'hlt).toNat = 9
      · have HN := hidIt (H.out.to (Nat.le_succ k) (lexAt_blank hlt (by simp [isBlank, e9])))
        have h9 : (((s[k]'hlt).toNat : Int) == 9) = true := by simp; omega
        clear H e9 e32
        go_wp2
        go_roundg (s.size - (k + 1))
        case measure => omega
        case rel => exact ⟨k + 1, ts, by omega, rfl, by go_num, HN⟩
      have h9 : (((s[k]'hlt).toNat : Int) == 9) = false := by simp; omega
      by_cases e10 : (s[k]'hlt).toNat = 10
      · have HN := hidIt (H.out.to (Nat.le_succ k) (lexAt_blank hlt (by simp [isBlank, e10])))
        have h10 : (((s[k]'hlt).toNat : Int) == 10) = true := by simp; omega
        clear H e10 e9 e32
        go_wp2
        go_roundg (s.size - (k + 1))
        case measure => omega
        case rel => exact ⟨k + 1, ts, by omega, rfl, by go_num, HN⟩
      have h10 : (((s[k]'hlt).toNat : Int) == 10) = false := by simp; omega
      by_cases e35 : (s[k]'hlt).toNat = 35
      · have h35 : (((s[k]'hlt).toNat : Int) == 35) = true := by simp; omega
        obtain ⟨_, hp1, hp2⟩ := pass_remark hlt e35 rfl
        have HN := H.out.to (Nat.le_add_right k _) (lexAt_remark hlt e35)
        obtain ⟨N, hN⟩ : ∃ N, Hid (N = k + spanL noFeed (s.data.toList.drop k)) := ⟨_, hidIt rfl⟩
        rw [← hN.out] at HN hp2
        have hkN : k < N := by have := hN.out; omega
        have HN' := hidIt HN
        clear H HN e10 e9 e32 e35 hp1
        go_wp2
        go_loopg [5] (s.size - k) (fun gj i wz => ∃ j : Nat, j ≤ s.size ∧ gj = s.size - j ∧ i = .int .i64 j ∧ wz = wr ∧ Hid (N = j + spanL noFeed (s.data.toList.drop j)))
        case atStart => exact ⟨k, hk, rfl, rfl, rfl, hN⟩
        case round =>
          clear hN
          obtain ⟨j, hj, rfl, rfl, rfl, hN⟩ := hrel
          by_cases hjl : j < s.size
          · by_cases f10 : (s[j]'hjl).toNat = 10
            · have g10 : (((s[j]'hjl).toNat : Int) == 10) = true := by simp; omega
              obtain rfl := spanL_no hjl (by simp [noFeed, f10]) hN.out
              clear hN f10
              go_wp2
              go_roundg (s.size - N)
              case measure => omega
              case rel => exact ⟨N, ts, hp2, rfl, rfl, HN'⟩
            · have g10 : (((s[j]'hjl).toNat : Int) == 10) = false := by simp; omega
              have hN2 := hidIt (spanL_yes hjl (by simp [noFeed, f10]) hN.out)
              clear hN f10
              go_wp2
              go_roundg (s.size - (j + 1))
              case measure => omega
              case rel => exact ⟨j + 1, by omega, rfl, by go_num, rfl, hN2⟩
          · obtain rfl : j = s.size := by omega
            obtain rfl := spanL_end hN.out
            clear hN hjl hj
            go_wp2
            go_roundg (s.size - s.size)
            case measure => omega
            case rel => exact ⟨s.size, ts, hp2, rfl, rfl, HN'⟩
      have h35 : (((s[k]'hlt).toNat : Int) == 35) = false := by simp; omega
      have hpass := hidIt (stop_pass hlt (by simp [isBlank, e32, e9, e10]) e35)
      clear e32 e9 e10 e35
      go_upto_block 4 with fail
      go_cut [7, 9] (fun jv okv wx => SwR s k wr jv okv wx)
      case first =>
        have HB0 := fun o => (below_new wr o)
        have HB0' := hidIt HB0
        have c21 := rletter_any (s[k]'hlt)
        have c22 := rdigit_any (s[k]'hlt)
        clear HB0 H hpass
        cases hl : isLetter (s[k]'hlt) with
        | true =>
          rw [hl] at c21
          obtain ⟨hfl, hsp⟩ := first_letter hlt hl
          obtain ⟨M, hM⟩ : ∃ M, Hid (M = k + 1 + spanL nameByte (s.data.toList.drop (k + 1))) := ⟨_, hidIt rfl⟩
          have hMs : M ≤ s.size := by
            have h1 := hM.out
            have h2 := spanL_le nameByte (s.data.toList.drop (k + 1))
            rw [List.length_drop, ← size_list] at h2
            omega
          have hMk : spanL nameByte (s.data.toList.drop k) = M - k := by have := hM.out; omega
          have hkM : k < M := by have := hM.out; omega
          unfold nameL at hfl
          rw [hMk] at hfl
          have hfl' := hidIt hfl
          clear hfl hsp hMk c22 hl
          go_upto_block 5 with (go_at_call 21; refine (c21 _).mono ?_; rintro e w' ⟨rfl, rfl⟩)
          go_cut [7] (fun jv wx => jv = .int .i64 M ∧ wx = wr.alloc (.cells #[.int .i64 0, .int .i64 k, .string ⟨#[]⟩, .int .i64 0] 36))
          case first =>
            clear c21
            go_wp2_with fail
            go_loopg [7] (s.size - (k + 1)) (fun gj i wz => ∃ j : Nat, k < j ∧ j ≤ s.size ∧ gj = s.size - j ∧ i = .int .i64 j ∧ wz = wr.alloc (.cells #[.int .i64 0, .int .i64 k, .string ⟨#[]⟩, .int .i64 0] 36) ∧ Hid (M = j + spanL nameByte (s.data.toList.drop j)))
            case atStart => exact ⟨k + 1, by omega, by omega, rfl, by go_num, rfl, hM⟩
            case round =>
              clear hM
              obtain ⟨j, hkj, hj, rfl, rfl, rfl, hN⟩ := hrel
              by_cases hjl : j < s.size
              · have d21 := rletter_any (s[j]'hjl)
                have d22 := rdigit_any (s[j]'hjl)
                cases fl : isLetter (s[j]'hjl) with
                | true =>
                  rw [fl] at d21
                  have hN2 := hidIt (spanL_yes hjl (by simp [nameByte, fl]) hN.out)
                  clear hN fl d22
                  go_wp2_with (go_at_call 21; refine (d21 _).mono ?_; rintro e w' ⟨rfl, rfl⟩)
                  go_roundg (s.size - (j + 1))
                  case measure => omega
                  case rel => exact ⟨j + 1, by omega, by omega, rfl, by go_num, rfl, hN2⟩
                | false =>
                  rw [fl] at d21
                  cases fd : isDigit (s[j]'hjl) with
                  | true =>
                    rw [fd] at d22
                    have hN2 := hidIt (spanL_yes hjl (by simp [nameByte, fd]) hN.out)
                    clear hN fl fd
                    go_wp2_with (first | (go_at_call 21; refine (d21 _).mono ?_; rintro e w' ⟨rfl, rfl⟩) | (go_at_call 22; refine (d22 _).mono ?_; rintro e w' ⟨rfl, rfl⟩))
                    go_roundg (s.size - (j + 1))
                    case measure => omega
                    case rel => exact ⟨j + 1, by omega, by omega, rfl, by go_num, rfl, hN2⟩
                  | false =>
                    rw [fd] at d22
                    by_cases f95 : (s[j]'hjl).toNat = 95
                    · have g95 : (((s[j]'hjl).toNat : Int) == 95) = true := by simp; omega
                      have hN2 := hidIt (spanL_yes hjl (by simp [nameByte, f95]) hN.out)
                      clear hN fl fd f95
                      go_wp2_with (first | (go_at_call 21; refine (d21 _).mono ?_; rintro e w' ⟨rfl, rfl⟩) | (go_at_call 22; refine (d22 _).mono ?_; rintro e w' ⟨rfl, rfl⟩))
                      go_roundg (s.size - (j + 1))
                      case measure => omega
                      case rel => exact ⟨j + 1, by omega, by omega, rfl, by go_num, rfl, hN2⟩
                    · have g95 : (((s[j]'hjl).toNat : Int) == 95) = false := by simp; omega
                      obtain rfl := spanL_no hjl (by simp [nameByte, f95, fl, fd]) hN.out
                      clear hN fl fd f95
                      go_wp2_with (first | (go_at_call 21; refine (d21 _).mono ?_; rintro e w' ⟨rfl, rfl⟩) | (go_at_call 22; refine (d22 _).mono ?_; rintro e w' ⟨rfl, rfl⟩))
                      go_meet
                      exact ⟨rfl, rfl⟩
              · obtain rfl : j = s.size := by omega
                obtain rfl := spanL_end hN.out
                clear hN hjl hj
                go_wp2
                go_meet
                exact ⟨rfl, rfl⟩
          case rest =>
            obtain ⟨rfl, rfl⟩ := hcut
            have hex : (s.extract k M).data.toList = (s.data.toList.drop k).take (M - k) := by
              have := extract_between s k (M - k)
              rw [show k + (M - k) = M from by omega] at this
              exact this
            have c14 := rword_any (s.extract k M)
            rw [hex] at c14
            have hfl := hfl'.out
            clear hex c21
            cases hw : isWord ((s.data.toList.drop k).take (M - k)) with
            | true =>
              rw [hw] at c14 hfl
              simp only [if_true] at hfl
              have hfl2 := hidIt hfl
              clear hfl hw hfl'
              go_wp2_with (go_at_call 14; refine (c14 _).mono ?_; rintro e w2 ⟨rfl, hb⟩; obtain ⟨q0, q1, q2, q3, f0, f1, f2, f3⟩ := box4 hb; have hb' := hidIt hb; clear hb)
              go_meet
              exact SwR.name hfl2.out (below_put (below_box hb'.out) _ _) (heap_setCell_same _ _ _ _ _ _ (box_at hb'.out)) hkM
            | false =>
              rw [hw] at c14 hfl
              simp only [Bool.false_eq_true, if_false] at hfl
              have hfl2 := hidIt hfl
              clear hfl hw hfl'
              go_wp2_with (go_at_call 14; refine (c14 _).mono ?_; rintro e w2 ⟨rfl, hb⟩; obtain ⟨q0, q1, q2, q3, f0, f1, f2, f3⟩ := box4 hb; have hb' := hidIt hb; clear hb)
              go_meet
              exact SwR.name hfl2.out (below_box hb'.out) (box_at hb'.out) hkM
        | false =>
          rw [hl] at c21
          by_cases hnum : isDigit (s[k]'hlt) = true ∨ (s[k]'hlt).toNat = 45
          · obtain ⟨M, hM⟩ : ∃ M, Hid (M = k + 1 + spanL isDigit (s.data.toList.drop (k + 1))) := ⟨_, hidIt rfl⟩
            have hMs : M ≤ s.size := by
              have h1 := hM.out
              have h2 := spanL_le isDigit (s.data.toList.drop (k + 1))
              rw [List.length_drop, ← size_list] at h2
              omega
            have hkM : k < M := by have := hM.out; omega
            have c23 := rnumber_at s (by omega) k M (M - k) hlt hM.out rfl hnum
            have hHd : Hid (isDigit (s[k]'hlt) = true → firstL (s.data.toList.drop k) = if 1099511627776 < numR ((s.data.toList.drop k).take (M - k)) then none else some ⟨3, M - k, (numR ((s.data.toList.drop k).take (M - k)) : Int)⟩) :=
              hidIt fun hd => first_digit hlt hl hd _ _ (by have := hM.out; omega) rfl
            have hHm : Hid (isDigit (s[k]'hlt) = false → (s[k]'hlt).toNat = 45 → firstL (s.data.toList.drop k) = if M - k - 1 = 0 ∨ 1099511627776 < numR ((s.data.toList.drop k).take (M - k)) then none else some ⟨3, M - k, -(numR ((s.data.toList.drop k).take (M - k)) : Int)⟩) :=
              hidIt fun hd h45 => by
                have := first_min hlt hl hd h45 (numR ((s.data.toList.drop k).take (M - k))) (M - k - 1) (by have := hM.out; omega) (by rw [show 1 + (M - k - 1) = M - k from by omega])
                rw [show 1 + (M - k - 1) = M - k from by omega] at this
                exact this
            generalize numR ((s.data.toList.drop k).take (M - k)) = V at c23 hHd hHm
            cases hdg : isDigit (s[k]'hlt) with
            | true =>
              rw [hdg] at c22
              go_upto_block 7 with (first | (go_at_call 21; refine (c21 _).mono ?_; rintro e w' ⟨rfl, rfl⟩) | (go_at_call 22; refine (c22 _).mono ?_; rintro e w' ⟨rfl, rfl⟩))
              go_cut [7] (fun jv wx => jv = .int .i64 M ∧ wx = wr.alloc (.cells #[.int .i64 0, .int .i64 k, .string ⟨#[]⟩, .int .i64 0] 36))
              case first =>
                clear c21 c22 c23 hHd hHm
                go_wp2_with fail
                go_loopg [7] (s.size - (k + 1)) (fun gj i wz => ∃ j : Nat, k < j ∧ j ≤ s.size ∧ gj = s.size - j ∧ i = .int .i64 j ∧ wz = wr.alloc (.cells #[.int .i64 0, .int .i64 k, .string ⟨#[]⟩, .int .i64 0] 36) ∧ Hid (M = j + spanL isDigit (s.data.toList.drop j)))
                case atStart => exact ⟨k + 1, by omega, by omega, rfl, by go_num, rfl, hM⟩
                case round =>
                  clear hM
                  obtain ⟨j, hkj, hj, rfl, rfl, rfl, hN⟩ := hrel
                  by_cases hjl : j < s.size
                  · have d22 := rdigit_any (s[j]'hjl)
                    cases fd : isDigit (s[j]'hjl) with
                    | true =>
                      rw [fd] at d22
                      have hN2 := hidIt (spanL_yes hjl fd hN.out)
                      clear hN fd
                      go_wp2_with (go_at_call 22; refine (d22 _).mono ?_; rintro e w' ⟨rfl, rfl⟩)
                      go_roundg (s.size - (j + 1))
                      case measure => omega
                      case rel => exact ⟨j + 1, by omega, by omega, rfl, by go_num, rfl, hN2⟩
                    | false =>
                      rw [fd] at d22
                      obtain rfl := spanL_no hjl fd hN.out
                      clear hN fd
                      go_wp2_with (go_at_call 22; refine (d22 _).mono ?_; rintro e w' ⟨rfl, rfl⟩)
                      go_meet
                      exact ⟨rfl, rfl⟩
                  · obtain rfl : j = s.size := by omega
                    obtain rfl := spanL_end hN.out
                    clear hN hjl hj
                    go_wp2
                    go_meet
                    exact ⟨rfl, rfl⟩
              case rest =>
                obtain ⟨rfl, rfl⟩ := hcut
                clear c21 c22
                have hHd1 := hHd.out hdg
                have n45 : (((s[k]'hlt).toNat : Int) == 45) = false := by simp only [isDigit, Bool.and_eq_true, decide_eq_true_eq] at hdg; simp; omega
                have m45 : (((s[k]'hlt).toNat : Int) != 45) = true := by simp only [bne, n45]; rfl
                rw [decide_eq_false (by simp only [isDigit, Bool.and_eq_true, decide_eq_true_eq] at hdg; omega)] at c23
                by_cases hV : 1099511627776 < V
                · rw [numA_big hV] at c23
                  rw [if_pos hV] at hHd1
                  have hHd2 := hidIt hHd1
                  clear hHd1 hHd hHm hdg hV hM
                  go_wp2_with (go_at_call 23; refine (c23 _).mono ?_; rintro e w' ⟨rfl, rfl⟩)
                  go_meet
                  exact SwR.mk (Sw.none (below_new _ _) hHd2.out) rfl
                · rw [numA_pos hV] at c23
                  rw [if_neg hV] at hHd1
                  have hHd2 := hidIt hHd1
                  clear hHd1 hHd hHm hdg hV hM
                  go_wp2_with (go_at_call 23; refine (c23 _).mono ?_; rintro e w' ⟨rfl, rfl⟩)
                  go_meet
                  exact SwR.mk (Sw.some (below_new _ _) hHd2.out (by show M = k + (M - k); omega) (heap_alloc_new _ _)) rfl
            | false =>
              rw [hdg] at c22
              have p45 : (((s[k]'hlt).toNat : Int) == 45) = true := by simp; have := hnum.resolve_left (by simp [hdg]); omega
              go_upto_block 7 with (first | (go_at_call 21; refine (c21 _).mono ?_; rintro e w' ⟨rfl, rfl⟩) | (go_at_call 22; refine (c22 _).mono ?_; rintro e w' ⟨rfl, rfl⟩))
              go_cut [7] (fun jv wx => jv = .int .i64 M ∧ wx = wr.alloc (.cells #[.int .i64 0, .int .i64 k, .string ⟨#[]⟩, .int .i64 0] 36))
              case first =>
                clear c21 c22 c23 hHd hHm
                go_wp2_with fail
                go_loopg [7] (s.size - (k + 1)) (fun gj i wz => ∃ j : Nat, k < j ∧ j ≤ s.size ∧ gj = s.size - j ∧ i = .int .i64 j ∧ wz = wr.alloc (.cells #[.int .i64 0, .int .i64 k, .string ⟨#[]⟩, .int .i64 0] 36) ∧ Hid (M = j + spanL isDigit (s.data.toList.drop j)))
                case atStart => exact ⟨k + 1, by omega, by omega, rfl, by go_num, rfl, hM⟩
                case round =>
                  clear hM
                  obtain ⟨j, hkj, hj, rfl, rfl, rfl, hN⟩ := hrel
                  by_cases hjl : j < s.size
                  · have d22 := rdigit_any (s[j]'hjl)
                    cases fd : isDigit (s[j]'hjl) with
                    | true =>
                      rw [fd] at d22
                      have hN2 := hidIt (spanL_yes hjl fd hN.out)
                      clear hN fd
                      go_wp2_with (go_at_call 22; refine (d22 _).mono ?_; rintro e w' ⟨rfl, rfl⟩)
                      go_roundg (s.size - (j + 1))
                      case measure => omega
                      case rel => exact ⟨j + 1, by omega, by omega, rfl, by go_num, rfl, hN2⟩
                    | false =>
                      rw [fd] at d22
                      obtain rfl := spanL_no hjl fd hN.out
                      clear hN fd
                      go_wp2_with (go_at_call 22; refine (d22 _).mono ?_; rintro e w' ⟨rfl, rfl⟩)
                      go_meet
                      exact ⟨rfl, rfl⟩
                  · obtain rfl : j = s.size := by omega
                    obtain rfl := spanL_end hN.out
                    clear hN hjl hj
                    go_wp2
                    go_meet
                    exact ⟨rfl, rfl⟩
              case rest =>
                obtain ⟨rfl, rfl⟩ := hcut
                clear c21 c22
                have hHm1 := hHm.out hdg (hnum.resolve_left (by simp [hdg]))
                have e45 : (s[k]'hlt).toNat = 45 := hnum.resolve_left (by simp [hdg])
                have n45 : (((s[k]'hlt).toNat : Int) == 45) = true := by simp; omega
                have m45 : (((s[k]'hlt).toNat : Int) != 45) = false := by simp only [bne, n45]; rfl
                rw [decide_eq_true e45] at c23
                by_cases hV : 1099511627776 < V
                · rw [numA_big hV] at c23
                  rw [if_pos (.inr hV)] at hHm1
                  have hHm2 := hidIt hHm1
                  clear hHm1 hHd hHm hdg hV hM e45 hnum
                  go_wp2_with (go_at_call 23; refine (c23 _).mono ?_; rintro e w' ⟨rfl, rfl⟩)
                  go_meet
                  exact SwR.mk (Sw.none (below_new _ _) hHm2.out) rfl
                · rw [numA_neg hV] at c23
                  by_cases hM1 : M = k + 1
                  · rw [if_pos (.inl (by omega))] at hHm1
                    have hHm2 := hidIt hHm1
                    have hno : ¬ ((k : Int) + 1 < (M : Int)) := by omega
                    clear hHm1 hHd hHm hdg hV hM e45 hnum hM1
                    go_wp2_with (go_at_call 23; refine (c23 _).mono ?_; rintro e w' ⟨rfl, rfl⟩)
                    go_meet
                    rw [decide_eq_false (by omega)]
                    exact SwR.mk (Sw.none (below_new _ _) hHm2.out) rfl
                  · rw [if_neg (by rintro (h | h) <;> omega)] at hHm1
                    have hHm2 := hidIt hHm1
                    have hyes : (k : Int) + 1 < (M : Int) := by omega
                    clear hHm1 hHd hHm hdg hV hM e45 hnum hM1
                    go_wp2_with (go_at_call 23; refine (c23 _).mono ?_; rintro e w' ⟨rfl, rfl⟩)
                    go_meet
                    exact SwR.mk (Sw.some (below_new _ _) hHm2.out (by show M = k + (M - k); omega) (heap_alloc_new _ _)) rfl
          · have hdg : isDigit (s[k]'hlt) = false := by cases h : isDigit (s[k]'hlt) with
              | true => exact absurd (.inl h) hnum
              | false => rfl
            have e45 : (s[k]'hlt).toNat ≠ 45 := fun h => hnum (.inr h)
            have n45 : (((s[k]'hlt).toNat : Int) == 45) = false := by simp; omega
            have hF := first_sig hlt hl hdg e45
            have c24 := rsign_any (s[k]'hlt)
            rw [hdg] at c22
            cases hsg : isSign (s[k]'hlt) with
            | true =>
              rw [hsg] at c24
              rw [hsg, if_pos rfl] at hF
              have hF2 := hidIt hF
              clear hF hsg e45 hnum hdg hl
              go_wp2_with (first | (go_at_call 21; refine (c21 _).mono ?_; rintro e w' ⟨rfl, rfl⟩) | (go_at_call 22; refine (c22 _).mono ?_; rintro e w' ⟨rfl, rfl⟩) | (go_at_call 24; refine (c24 _).mono ?_; rintro e w' ⟨rfl, rfl⟩))
              go_meet
              exact SwR.mk (j := k + 1) (Sw.some (below_new _ _) hF2.out rfl (heap_alloc_new _ _)) (by omega)
            | false =>
              rw [hsg] at c24
              rw [hsg, if_neg (by decide)] at hF
              have hF2 := hidIt hF
              clear hF hsg e45 hnum hdg hl
              go_wp2_with (first | (go_at_call 21; refine (c21 _).mono ?_; rintro e w' ⟨rfl, rfl⟩) | (go_at_call 22; refine (c22 _).mono ?_; rintro e w' ⟨rfl, rfl⟩) | (go_at_call 24; refine (c24 _).mono ?_; rintro e w' ⟨rfl, rfl⟩))
              go_meet
              exact SwR.mk (j := k + 1) (Sw.none (below_new _ _) hF2.out) (by omega)
      case rest =>
        obtain ⟨j, ok, rfl, rfl, hbx, hm⟩ := hcut
        cases hf : firstL (s.data.toList.drop k) with
        | none =>
          rw [hf] at hm
          obtain rfl : ok = false := hm
          have qd := diag_cells (diag_on H.out.bel hbx)
          obtain ⟨b0, b1, z0, z1⟩ := qd
          have hans := hidIt fun x y => H.out.fail hlt hpass.out hf hbx x y
          clear H hf hbx hpass
          go_wp2
          (try simp only [Exit.inBlock, Exit.then])
          refine bodyPost_ret (by simp [results, Try.results11, go_sem, b0, b1]; try rfl) rfl ?_
          exact ⟨_, _, _, rfl, hans.out _ _⟩
        | some x =>
          rw [hf] at hm
          obtain ⟨rfl, hj, hx⟩ := hm
          have hsz := firstL_size hf
          rw [List.length_drop, ← size_list] at hsz
          have hkj : k < j := by omega
          have hjs : j ≤ s.size := by omega
          have htl := H.out.len
          obtain ⟨T, hT, hT2⟩ : ∃ T, s.extract k j = T ∧ Hid (T = ⟨((s.data.toList.drop k).take x.size).toArray⟩) := ⟨_, rfl, hidIt (by
            have := extract_between s k x.size
            rw [← hj] at this
            rw [← this])⟩
          have q0 := cell_at hx 0
          have q1 := cell_at hx 1
          have q2 := cell_at hx 2
          have q3 := cell_at hx 3
          have f2 := frozen_at hx 2
          have hrow := hidIt (row_kept H.out.row (below_put hbx 2 (.string T)))
          have hsz2 : Hid (w.heap.size + 1 ≤ wc.heap.size) := hidIt (by have := (diag_on H.out.bel hbx).size; rw [World.size_alloc] at this; exact this)
          have hmore := fun (w3 : World) (v' : Value) (o : Obj) ho hg => RLI.more (w3 := w3) (v' := v') (o := o) H.out hf (below_put hbx 2 (.string T)) ho hg
          rw [← hj] at hmore
          have Hmore := hidIt hmore
          clear hmore hf hx hj hbx hpass
          obtain ⟨i0, hi, hz0, hz1, hz2⟩ := info_parts info36r
          go_wp2_with (at_builtin; go_must (refine wpList_append_own _ rfl _ _ 28 rfl (w.heap.size + 1) 36 i0 _ 4 40 Try.underlying28 hi hz0 hz1 hz2 rfl (by decide) _ _ _ rfl (hrow.out.alloc _) ⟨wc.heap.size, 0, none⟩ 1 1 [.int .i64 (x.kind : Int), .int .i64 (k : Int), .string T, .int .i64 x.n] rfl rfl (cell_row_new _ _ _ _ (by simp)) (by simp [Value.oneCell']) (by unfold maxLen; omega) (by omega) (by have := hsz2.out; rw [World.size_alloc, World.size_setCell]; omega) ?_))
          intro v' w3 ho hg _
          rw [hT2.out] at ho
          have HI := hidIt (Hmore.out _ _ _ ho hg)
          clear ho hg Hmore hrow hsz2 H q0 q1 q2 q3 f2
          go_wp2
          go_roundg (s.size - j)
          case measure => omega
          case rel => exact ⟨j, _, hjs, rfl, rfl, HI⟩
    · obtain rfl : k = s.size := by omega
      go_wp2
      (try simp only [Exit.inBlock, Exit.then])
      refine bodyPost_ret (by simp [results, Try.results11, go_sem, b0, b1]; try rfl) rfl ?_
      exact ⟨_, _, _, rfl, H.out.atEnd _ _⟩
end Go.Proofs.Ytinppjjhjijoeaa
