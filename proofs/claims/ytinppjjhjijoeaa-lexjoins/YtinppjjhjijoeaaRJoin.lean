/-
  The walk of the document's Join.
-/
import Derived.Test.YtinppjjhjijoeaaRelex
import Derived.Test.YtinppjjhjijoeaaAlive
namespace Go.Proofs.Ytinppjjhjijoeaa
set_option linter.unusedVariables false
open Go.RowKit

theorem row_of {e : TypeId} {w : World} {B : Nat} {ao : Option Addr} {cap : Nat} {ts : List Tok} (h : w.ownsRow B e 4 (.slice ao ts.length cap) ts.length (tokCells ts)) {k : Nat} (hk : k < ts.length) :
    ∃ g, ao = some ⟨g, 0, none⟩ ∧ w.cell? ⟨g, k * 4, none⟩ = some (.int .i64 (ts[k].kind : Int)) ∧ w.cell? ⟨g, k * 4 + 1, none⟩ = some (.int .i64 (ts[k].at_ : Int)) ∧ w.cell? ⟨g, k * 4 + 2, none⟩ = some (.string ⟨ts[k].text.toArray⟩) ∧ w.cell? ⟨g, k * 4 + 3, none⟩ = some (.int .i64 ts[k].n) := by
  rcases h.2 with ⟨_, h0⟩ | ⟨g, cap', cur, hv, hB, hg, hle, _, hsz, htk⟩
  · omega
  · injection hv with h1 h2 h3
    subst h1 h3
    have hc := fun (j : Nat) (hj : j < 4) => (h.cellAt (k * 4 + j) (by omega)).trans ((congrArg (fun i => (tokCells ts)[i]?) (by omega : k * 4 + j = 4 * k + j)).trans (tokCells_get ts k hk j hj))
    exact ⟨g, rfl, hc 0 (by omega), hc 1 (by omega), hc 2 (by omega), hc 3 (by omega)⟩

theorem out_next {o : ByteArray} {ts : List Tok} {k : Nat} (h : k < ts.length) (h0 : 0 < k) (ho : o.data.toList = joinL (texts (ts.take k))) : (o ++ ⟨#[32]⟩ ++ ⟨ts[k].text.toArray⟩).data.toList = joinL (texts (ts.take (k + 1))) := by
  rw [texts_next ts k h, joinL_snoc _ _ (by
    intro e
    have := congrArg List.length e
    simp only [texts, List.length_map, List.length_take, List.length_nil] at this
    omega), ← ho]
  simp [ByteArray.data_append]
theorem out_first {o : ByteArray} {ts : List Tok} {k : Nat} (h : k < ts.length) (h0 : k = 0) (ho : o.data.toList = joinL (texts (ts.take k))) : (o ++ ⟨ts[k].text.toArray⟩).data.toList = joinL (texts (ts.take (k + 1))) := by
  subst h0
  rw [texts_next ts 0 h]
  simp only [List.take_zero, texts, List.map_nil, joinL, List.nil_append, joinT] at ho ⊢
  simp [ByteArray.data_append, ho]

set_option maxHeartbeats 1000000 in
theorem rjoin_any (ts : List Tok) (ao : Option Addr) (cap B : Nat) (w : World) (h : w.ownsRow B 36 4 (.slice ao ts.length cap) ts.length (tokCells ts)) (hc : ts.length ≤ 1000000) (hl : (joinL (texts ts)).length ≤ 1000000) :
    Calls Try.prog 18 #[.slice ao ts.length cap] w fun e w' => e = .returned (.string ⟨(joinL (texts ts)).toArray⟩) ∧ w = w' := by
  have H := hidIt h
  have hlk := hidIt fun k => Nat.le_trans (joinL_take (texts ts) k) hl
  have hst : Hid ((⟨#[]⟩ : ByteArray).data.toList = joinL (texts (ts.take 0))) := hidIt rfl
  clear h hl
  go_enter Try.func18, Try.ntmps18
  go_wp2
  go_loopw [3, 4] (fun v i wr => ∃ (k : Nat) (o : ByteArray), k ≤ ts.length ∧ i = .int .i64 k ∧ v = .string o ∧ wr = w ∧ Hid (o.data.toList = joinL (texts (ts.take k)))) (fun _ i _ => ts.length - (intOf i).toNat)
  case atStart => exact ⟨0, _, Nat.zero_le _, rfl, rfl, rfl, hst⟩
  case round =>
    clear hst
    obtain ⟨k, o, hk, rfl, rfl, rfl, HO⟩ := hrel
    by_cases hlt : k < ts.length
    · obtain ⟨g, rfl, _, _, c2, _⟩ := row_of H.out (k := k) hlt
      have ho : o.size ≤ 1000000 := by rw [size_list, HO.out, texts_take]; exact hlk.out k
      by_cases h0 : k = 0
      · have hz : ¬ ((0 : Int) < (k : Int)) := by omega
        have HN := hidIt (out_first hlt h0 HO.out)
        have hs2 : (⟨ts[k].text.toArray⟩ : ByteArray).size ≤ 1000000 := by
          have e := congrArg List.length HN.out
          rw [ByteArray.data_append] at e
          simp only [Array.toList_append, List.length_append] at e
          have := hlk.out (k + 1)
          rw [← texts_take, ← e] at this
          rw [size_list]
          show ts[k].text.length ≤ _
          omega
        generalize (⟨ts[k].text.toArray⟩ : ByteArray) = T at c2 HN hs2
        clear h0 HO
        go_wp2
        go_roundw
        case rel => exact ⟨k + 1, _, by omega, by go_num, rfl, trivial, HN⟩
        case measure => simp [intOf]; omega
      · have hz : (0 : Int) < (k : Int) := by omega
        have HN := hidIt (out_next hlt (by omega) HO.out)
        have hs2 : (⟨ts[k].text.toArray⟩ : ByteArray).size ≤ 1000000 := by
          have e := congrArg List.length HN.out
          rw [ByteArray.data_append] at e
          simp only [Array.toList_append, List.length_append] at e
          have := hlk.out (k + 1)
          rw [← texts_take, ← e] at this
          rw [size_list]
          show ts[k].text.length ≤ _
          omega
        generalize (⟨ts[k].text.toArray⟩ : ByteArray) = T at c2 HN hs2
        clear h0 HO
        go_wp2
        go_roundw
        case rel => exact ⟨k + 1, _, by omega, by go_num, rfl, trivial, HN⟩
        case measure => simp [intOf]; omega
    · obtain rfl : k = ts.length := by omega
      have HE := HO.out
      rw [List.take_length] at HE
      have HE : Hid ((⟨(joinL (texts ts)).toArray⟩ : ByteArray) = o) := hidIt (by rw [← HE])
      clear HO H
      go_wp2
      go_ret
      exact ⟨by rw [HE.out]; rfl, rfl⟩
end Go.Proofs.Ytinppjjhjijoeaa
