/-
  The walk of LexNumbers.
-/
import Derived.Test.YtinppjjhjijoeaaAlive
import Derived.Test.YtinppjjhjijoeaaDec
namespace Go.Proofs.Ytinppjjhjijoeaa
set_option linter.unusedVariables false
open Go.RowKit

set_option maxHeartbeats 1000000 in
theorem numbers_early (n k : Int) (h : n < -1125899906842624 ∨ 1125899906842624 < n) (w : World) :
    Calls Try.prog 7 #[.int .i64 n, .int .u8 k] w fun e w' => e = .returned (.bool true) ∧ Below w.heap.size w w' := by
  have c9 := alive_any w
  by_cases h1 : n < -1125899906842624
  · clear h
    go_enter Try.func7, Try.ntmps7
    go_wp2_with (go_at_call 9; refine c9.mono ?_)
    rintro e w1 ⟨rfl, hb⟩
    have hb := hidIt hb
    clear c9
    go_wp2
    go_ret
    exact ⟨rfl, hb.out⟩
  · have h2 : 1125899906842624 < n := by omega
    have h3 : -1125899906842624 ≤ n := by omega
    clear h h1
    go_enter Try.func7, Try.ntmps7
    go_wp2_with (go_at_call 9; refine c9.mono ?_)
    rintro e w1 ⟨rfl, hb⟩
    have hb := hidIt hb
    clear c9
    go_wp2
    go_ret
    exact ⟨rfl, hb.out⟩

def emp : Value → Nat
  | .string s => if s.size = 0 then 1 else 0
  | _ => 0
def isNil (s : ByteArray) : Bool := s.toList.isEmpty
theorem isEmpty_size (s : ByteArray) : s.toList.isEmpty = decide (s.size = 0) := by
  rw [ByteArray.toList_eq, size_list]
  cases s.data.toList <;> simp

theorem s_next (m : Nat) (S : ByteArray) : (ByteArray.extract ⟨#[48, 49, 50, 51, 52, 53, 54, 55, 56, 57]⟩ (m % 10) (m % 10 + 1) ++ S).data.toList = dbyte (m % 10) :: S.data.toList := by
  rw [ByteArray.data_append, Array.toList_append, ten_digit _ (Nat.mod_lt _ (by omega))]
  rfl
theorem s_size {S : ByteArray} {b : UInt8} {l : List UInt8} (h : S.data.toList = b :: l) : S.size = l.length + 1 := by rw [size_list, h]; rfl
theorem pre_list (b : UInt8) (S : ByteArray) : ((⟨#[b]⟩ : ByteArray) ++ S).data.toList = b :: S.data.toList := by rw [ByteArray.data_append]; simp
theorem all_list (S : ByteArray) : ((⟨#[120, 32]⟩ : ByteArray) ++ S ++ ⟨#[121]⟩).data.toList = 120 :: 32 :: (S.data.toList ++ [121]) := by
  rw [ByteArray.data_append, ByteArray.data_append]; simp
/-- The digits are laid. -/
structure DD (l : List UInt8) (N : Nat) : Prop where
  dig : AllD l
  val : numV l = N
  ne : l ≠ []
theorem DD.nought {l : List UInt8} {N : Nat} (h : DD l N) : DD (48 :: l) N := ⟨(Go.Proofs.Ytinppjjhjijoeaa.nought h.dig).1, (Go.Proofs.Ytinppjjhjijoeaa.nought h.dig).2.trans h.val, by simp⟩

/-- What the law asks of the last call, in the walk's words. -/
theorem num_bad {n : Int} {N : Nat} {neg : Bool} {D : List UInt8} {S : ByteArray} (hS : S.data.toList = sgn neg ++ D) (hD : DD D N) (hs : S.size ≤ 100) (hn : 1099511627776 < N) (w : World) :
    Calls Try.prog 10 #[.string (⟨#[120, 32]⟩ ++ S ++ ⟨#[121]⟩)] w fun e w' => e = .returned (.tuple #[.slice none 0 0, .agg #[.int .i64 2, .int .i64 1]]) ∧ Below w.heap.size w w' := by
  refine lex_err (q := 2) ?_ ?_ w
  · rw [size_list, all_list, List.length_cons, List.length_cons, List.length_append, ← size_list, List.length_singleton]; omega
  · rw [all_list, hS, lex_num neg hD.dig hD.ne, if_pos (by rw [hD.val]; exact hn)]
theorem num_good {n : Int} {N : Nat} {neg : Bool} {D : List UInt8} {S : ByteArray} (hS : S.data.toList = sgn neg ++ D) (hD : DD D N) (hs : S.size ≤ 100) (hn : ¬ 1099511627776 < N) (hv : sval neg N = n) (w : World) :
    Calls Try.prog 10 #[.string (⟨#[120, 32]⟩ ++ S ++ ⟨#[121]⟩)] w fun e w' => ∃ (g cap : Nat), e = .returned (.tuple #[.slice (some ⟨g, 0, none⟩) 3 cap, .agg #[.int .i64 0, .int .i64 0]]) ∧ Below w.heap.size w w' ∧
      w'.cell? ⟨g, 4, none⟩ = some (.int .i64 3) ∧ w'.cell? ⟨g, 5, none⟩ = some (.int .i64 2) ∧ w'.cell? ⟨g, 6, none⟩ = some (.string S) ∧ w'.cell? ⟨g, 7, none⟩ = some (.int .i64 n) ∧
      w'.cell? ⟨g, 8, none⟩ = some (.int .i64 1) ∧ w'.cell? ⟨g, 9, none⟩ = some (.int .i64 (2 + (S.size : Int))) ∧ w'.cell? ⟨g, 10, none⟩ = some (.string ⟨#[121]⟩) ∧ w'.cell? ⟨g, 11, none⟩ = some (.int .i64 0) := by
  have hl : lexL (⟨#[120, 32]⟩ ++ S ++ ⟨#[121]⟩ : ByteArray).data.toList = .ok [⟨1, 0, [120], 0⟩, ⟨3, 2, S.data.toList, n⟩, ⟨1, 2 + S.size, [121], 0⟩] := by
    rw [all_list, size_list, hS, lex_num neg hD.dig hD.ne, if_neg (by rw [hD.val]; exact hn), hD.val, hv]
  refine (lex_ok ?_ hl w).mono ?_
  · rw [size_list, all_list, List.length_cons, List.length_cons, List.length_append, ← size_list, List.length_singleton]; omega
  · rintro e w' ⟨ao, cap, rfl, hr⟩
    obtain ⟨g, rfl, _, d0, d1, d2, d3⟩ := row_at hr.row (k := 1) (by simp)
    obtain ⟨g', hg, _, e0, e1, e2, e3⟩ := row_at hr.row (k := 2) (by simp)
    injection hg with hg
    injection hg with hg
    subst hg
    simp only [List.getElem_cons_zero, List.getElem_cons_succ, Lib.mk_data] at d0 d1 d2 d3 e0 e1 e2 e3
    refine ⟨g, cap, rfl, hr.bel, d0, d1, d2, d3, e0, ?_, e2, e3⟩
    have : ((2 + S.size : Nat) : Int) = 2 + (S.size : Int) := by omega
    rw [this] at e1
    exact e1

set_option maxHeartbeats 4000000 in
theorem numbers_main (n k : Int) (N q : Nat) (h1 : -1125899906842624 ≤ n) (h2 : n ≤ 1125899906842624) (hN : Hid (N = n.natAbs)) (hq : k % 5 = (q : Int)) (hk : 0 ≤ k) (hk2 : k < 256) (w : World) :
    Calls Try.prog 7 #[.int .i64 n, .int .u8 k] w fun e w' => e = .returned (.bool true) ∧ Below w.heap.size w w' := by
  have c9 := alive_any w
  have hmax : max n (-n) = (N : Int) := by have := hN.out; omega
  have hNle : N ≤ 1125899906842624 := by have := hN.out; omega
  have hq4 : q ≤ 4 := by omega
  have hst : Hid (DI [] N N) := hidIt ⟨fun b hm => by simp at hm, by simp [numV], by simp; omega, by simp⟩
  go_enter Try.func7, Try.ntmps7
  go_wp2_with (go_at_call 9; refine c9.mono ?_)
  rintro e w1 ⟨rfl, hb⟩
  have hb := hidIt hb
  clear c9
  go_wp2
  go_loopw [5, 6] (fun sv mv wr => ∃ (m : Nat) (S : ByteArray), m ≤ 1125899906842624 ∧ S.size ≤ 17 ∧ mv = .int .i64 m ∧ sv = .string S ∧ wr = w1 ∧ Hid (DI S.data.toList m N)) (fun sv mv _ => (intOf mv).toNat + emp sv)
  case atStart => exact ⟨N, _, hNle, by decide, rfl, rfl, rfl, hst⟩
  case round =>
    clear hst
    obtain ⟨m, S, hm, hS, rfl, rfl, rfl, HD⟩ := hrel
    by_cases hc : 0 < m ∨ S.size = 0
    · have HN := HD.out.next (by
        rcases hc with hc | hc
        · exact .inl hc
        · exact .inr (List.eq_nil_of_length_eq_zero (by rw [← size_list]; exact hc)))
      rw [← s_next] at HN
      have hsz := s_size (s_next m S)
      rw [← size_list] at hsz
      have hS2 : (ByteArray.extract ⟨#[48, 49, 50, 51, 52, 53, 54, 55, 56, 57]⟩ (m % 10) (m % 10 + 1) ++ S).size ≤ 17 := by
        have := HN.len
        rw [← size_list] at this
        exact this
      have HN := hidIt HN
      have hsz := hidIt hsz
      have hS2 := hidIt hS2
      have hmeas : Hid (m / 10 < m + (if S.size = 0 then 1 else 0)) := hidIt (by rcases hc with hc | hc <;> split <;> omega)
      by_cases hc1 : (0 : Int) < (m : Int)
      · clear HD hc
        go_wp2
        go_roundw
        case rel => exact ⟨m / 10, _, by omega, hS2.out, by go_num, rfl, trivial, HN⟩
        case measure =>
          have h1 := hmeas.out
          have h2 := hsz.out
          show ((m : Int) / 10).toNat + (if (ByteArray.extract ⟨#[48, 49, 50, 51, 52, 53, 54, 55, 56, 57]⟩ (m % 10) (m % 10 + 1) ++ S).size = 0 then 1 else 0) < ((m : Int)).toNat + (if S.size = 0 then 1 else 0)
          rw [h2, if_neg (by omega)]
          omega
      · have hE : S.toList.isEmpty = true := by rw [isEmpty_size, decide_eq_true_eq]; omega
        have hm0 : m = 0 := by omega
        subst hm0
        clear HD hc hc1 hm
        go_wp2
        go_roundw
        case rel => exact ⟨0, _, by omega, hS2.out, rfl, rfl, trivial, HN⟩
        case measure =>
          have h1 := hmeas.out
          have h2 := hsz.out
          show 0 + (if (ByteArray.extract ⟨#[48, 49, 50, 51, 52, 53, 54, 55, 56, 57]⟩ (0 % 10) (0 % 10 + 1) ++ S).size = 0 then 1 else 0) < 0 + (if S.size = 0 then 1 else 0)
          rw [h2, if_neg (by omega)]
          omega
    · have hm0 : m = 0 := by omega
      subst hm0
      have hE : S.toList.isEmpty = false := by rw [isEmpty_size, decide_eq_false_iff_not]; omega
      have HZ : Hid (DD S.data.toList N) := hidIt ⟨HD.out.zero.1, HD.out.zero.2, fun e => by rw [size_list, e] at hc; simp at hc⟩
      clear HD hc hm
      go_wp2
      go_loopw [5, 7] (fun sv jv wz => ∃ (j : Nat) (S2 : ByteArray), j ≤ q ∧ S2.size ≤ 17 + j ∧ jv = .int .i64 j ∧ sv = .string S2 ∧ wz = wr ∧ Hid (DD S2.data.toList N)) (fun _ jv _ => q - (intOf jv).toNat)
      case atStart => exact ⟨0, _, Nat.zero_le _, by omega, rfl, rfl, rfl, HZ⟩
      case round =>
        clear HZ hE
        obtain ⟨j, S2, hj, hs2, rfl, rfl, rfl, HZ2⟩ := hrel
        by_cases hjq : j < q
        · have hN2 := HZ2.out.nought
          rw [← pre_list] at hN2
          have hN2 := hidIt hN2
          have hs3 : Hid ((⟨#[48]⟩ ++ S2 : ByteArray).size ≤ 17 + (j + 1)) := hidIt (by rw [s_size (pre_list 48 S2), ← size_list]; omega)
          have hjq1 : (j : Int) < (q : Int) := by omega
          clear HZ2
          go_wp2
          go_roundw
          case rel => exact ⟨j + 1, _, by omega, hs3.out, by go_num, rfl, trivial, hN2⟩
          case measure => simp [intOf]; omega
        · obtain rfl : j = q := by omega
          clear hjq hj
          by_cases hneg : n < 0
          · go_wp2_with fail
            have hS3 : Hid ((⟨#[45]⟩ ++ S2 : ByteArray).data.toList = sgn true ++ S2.data.toList) := hidIt (pre_list 45 S2)
            have hz3 : Hid ((⟨#[45]⟩ ++ S2 : ByteArray).size ≤ 100) := hidIt (by rw [s_size (pre_list 45 S2), ← size_list]; omega)
            by_cases hr : 1099511627776 < N
            · have c1 := hidIt fun w => num_bad (n := n) (neg := true) hS3.out HZ2.out hz3.out hr w
              have g1 : n < -1099511627776 := by have := hN.out; omega
              clear HZ2 hS3 hz3
              go_wp2_with (go_at_call 10; refine (c1.out _).mono ?_)
              rintro e w2 ⟨rfl, b2⟩
              have BE := hidIt fun o => below_next (below_next hb.out b2) (below_new w2 o)
              clear c1 b2 hb
              go_wp2
              go_ret
              exact ⟨rfl, BE.out _⟩
            · have hv : sval true N = n := by have := hN.out; simp only [sval, if_true]; omega
              have c1 := hidIt fun w => num_good (n := n) (neg := true) hS3.out HZ2.out hz3.out hr hv w
              have g1 : -1099511627776 ≤ n := by have := hN.out; omega
              have g2 : n ≤ 1099511627776 := by have := hN.out; omega
              clear HZ2 hS3 hz3 hv hr
              go_wp2_with (go_at_call 10; refine (c1.out _).mono ?_)
              rintro e w2 ⟨g, cap, rfl, b2, d4, d5, d6, d7, d8, d9, d10, d11⟩
              have f4 : ∀ o, (w2.alloc o).cell? ⟨g, 4, none⟩ = some (.int .i64 3) := fun o => cell_later (below_new w2 o) d4
              have f5 : ∀ o, (w2.alloc o).cell? ⟨g, 5, none⟩ = some (.int .i64 2) := fun o => cell_later (below_new w2 o) d5
              have f6 : ∀ o, (w2.alloc o).cell? ⟨g, 6, none⟩ = some (.string (⟨#[45]⟩ ++ S2)) := fun o => cell_later (below_new w2 o) d6
              have f7 : ∀ o, (w2.alloc o).cell? ⟨g, 7, none⟩ = some (.int .i64 n) := fun o => cell_later (below_new w2 o) d7
              have f8 : ∀ o, (w2.alloc o).cell? ⟨g, 8, none⟩ = some (.int .i64 1) := fun o => cell_later (below_new w2 o) d8
              have f9 : ∀ o, (w2.alloc o).cell? ⟨g, 9, none⟩ = some (.int .i64 (2 + ((⟨#[45]⟩ ++ S2 : ByteArray).size : Int))) := fun o => cell_later (below_new w2 o) d9
              have f10 : ∀ o, (w2.alloc o).cell? ⟨g, 10, none⟩ = some (.string ⟨#[121]⟩) := fun o => cell_later (below_new w2 o) d10
              have f11 : ∀ o, (w2.alloc o).cell? ⟨g, 11, none⟩ = some (.int .i64 0) := fun o => cell_later (below_new w2 o) d11
              have BE := hidIt fun o => below_next (below_next hb.out b2) (below_new w2 o)
              clear c1 b2 hb d4 d5 d6 d7 d8 d9 d10 d11
              go_wp2
              go_ret
              exact ⟨rfl, BE.out _⟩
          · have hneg : 0 ≤ n := by omega
            go_wp2_with fail
            have hS3 : Hid (S2.data.toList = sgn false ++ S2.data.toList) := hidIt rfl
            have hz3 : Hid (S2.size ≤ 100) := hidIt (by omega)
            by_cases hr : 1099511627776 < N
            · have c1 := hidIt fun w => num_bad (n := n) (neg := false) hS3.out HZ2.out hz3.out hr w
              have g1 : (1099511627776 : Int) < n := by have := hN.out; omega
              have g2 : -1099511627776 ≤ n := by omega
              clear HZ2 hS3 hz3
              go_wp2_with (go_at_call 10; refine (c1.out _).mono ?_)
              rintro e w2 ⟨rfl, b2⟩
              have BE := hidIt fun o => below_next (below_next hb.out b2) (below_new w2 o)
              clear c1 b2 hb
              go_wp2
              go_ret
              exact ⟨rfl, BE.out _⟩
            · have hv : sval false N = n := by have := hN.out; simp only [sval, Bool.false_eq_true, if_false]; omega
              have c1 := hidIt fun w => num_good (n := n) (neg := false) hS3.out HZ2.out hz3.out hr hv w
              have g1 : -1099511627776 ≤ n := by have := hN.out; omega
              have g2 : n ≤ 1099511627776 := by have := hN.out; omega
              clear HZ2 hS3 hz3 hv hr
              go_wp2_with (go_at_call 10; refine (c1.out _).mono ?_)
              rintro e w2 ⟨g, cap, rfl, b2, d4, d5, d6, d7, d8, d9, d10, d11⟩
              have f4 : ∀ o, (w2.alloc o).cell? ⟨g, 4, none⟩ = some (.int .i64 3) := fun o => cell_later (below_new w2 o) d4
              have f5 : ∀ o, (w2.alloc o).cell? ⟨g, 5, none⟩ = some (.int .i64 2) := fun o => cell_later (below_new w2 o) d5
              have f6 : ∀ o, (w2.alloc o).cell? ⟨g, 6, none⟩ = some (.string S2) := fun o => cell_later (below_new w2 o) d6
              have f7 : ∀ o, (w2.alloc o).cell? ⟨g, 7, none⟩ = some (.int .i64 n) := fun o => cell_later (below_new w2 o) d7
              have f8 : ∀ o, (w2.alloc o).cell? ⟨g, 8, none⟩ = some (.int .i64 1) := fun o => cell_later (below_new w2 o) d8
              have f9 : ∀ o, (w2.alloc o).cell? ⟨g, 9, none⟩ = some (.int .i64 (2 + (S2.size : Int))) := fun o => cell_later (below_new w2 o) d9
              have f10 : ∀ o, (w2.alloc o).cell? ⟨g, 10, none⟩ = some (.string ⟨#[121]⟩) := fun o => cell_later (below_new w2 o) d10
              have f11 : ∀ o, (w2.alloc o).cell? ⟨g, 11, none⟩ = some (.int .i64 0) := fun o => cell_later (below_new w2 o) d11
              have BE := hidIt fun o => below_next (below_next hb.out b2) (below_new w2 o)
              clear c1 b2 hb d4 d5 d6 d7 d8 d9 d10 d11
              go_wp2
              go_ret
              exact ⟨rfl, BE.out _⟩
theorem numbers_walk (n k : Int) (hn : (Lit.int .i64 n).wf = true) (hk : (Lit.int .u8 k).wf = true) (w : World) :
    Calls Try.prog 7 #[.int .i64 n, .int .u8 k] w fun e w' => e = .returned (.bool true) ∧ Below w.heap.size w w' := by
  by_cases h : n < -1125899906842624 ∨ 1125899906842624 < n
  · exact numbers_early n k h w
  · have hk' : 0 ≤ k ∧ k < 256 := by
      simp only [Lit.wf, Bool.and_eq_true, decide_eq_true_eq] at hk
      rw [show IntKind.u8.min = 0 from rfl, show IntKind.u8.max = 255 from rfl] at hk
      omega
    exact numbers_main n k n.natAbs (k % 5).toNat (by omega) (by omega) (hidIt rfl) (by omega) hk'.1 hk'.2 w
end Go.Proofs.Ytinppjjhjijoeaa
