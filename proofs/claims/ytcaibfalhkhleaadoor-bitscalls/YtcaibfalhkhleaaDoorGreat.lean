/-
  The walk of great: is a call more than is looked at?
-/
import Derived.Test.YtcaibfalhkhleaaDoorDo
namespace Go.Proofs.YtcaibfalhkhleaaDoor
set_option linter.unusedVariables false
open Go.RowKit

/-- A call, as its three cells say it. -/
structure Cd where
  i : Int
  k : Int
  ao : Option Addr
  zs : List Int
  cap : Nat
def Cd.val (d : Cd) : Value := .agg #[.int .i64 d.i, .int .i64 d.k, .slice d.ao d.zs.length d.cap]
/-- The calls lie in a row at co. -/
def CAt (w : World) (co : Option Addr) (cs : List Cd) : Prop := ∀ j d, cs[j]? = some d → ∃ b off, co = some ⟨b, off, none⟩ ∧ w.cell? ⟨b, off + j * 3, none⟩ = some (.int .i64 d.i) ∧ w.cell? ⟨b, off + j * 3 + 1, none⟩ = some (.int .i64 d.k) ∧ w.cell? ⟨b, off + j * 3 + 2, none⟩ = some (.slice d.ao d.zs.length d.cap) ∧ d.zs.length ≤ 9223372036854775807 ∧ LAt w d.ao d.zs
/-- A call that is looked at. -/
def Cd.fine (d : Cd) : Prop := d.zs.length ≤ 60 ∧ (2 ≤ d.i → d.i ≤ 4 → d.k ≤ 1000)

def GreatPost (cs : List Cd) (w : World) (e : Ending) (w' : World) : Prop := ∃ r, e = .returned (.bool r) ∧ (r = false → cs.length ≤ 60 ∧ ∀ d ∈ cs, d.fine) ∧ w' = w

set_option maxRecDepth 100000 in
set_option maxHeartbeats 4000000 in
theorem great_any (co : Option Addr) (cs : List Cd) (cap : Nat) (w : World) (h : CAt w co cs) (hn : cs.length ≤ 9223372036854775807) :
    Calls Tryd.prog 9 #[.slice co cs.length cap] w (GreatPost cs w) := by
  have H := hidIt h
  clear h
  go_enter Tryd.func9, Tryd.ntmps9
  by_cases h60 : 60 < cs.length
  · go_wp2
    go_ret
    exact ⟨true, rfl, by simp, rfl⟩
  · go_wp2
    go_loopw [3] (fun i wr => ∃ k : Nat, k ≤ cs.length ∧ i = .int .i64 k ∧ wr = w ∧ Hid (∀ j d, j < k → cs[j]? = some d → d.fine)) (fun i _ => cs.length - (intOf i).toNat)
    case atStart => exact ⟨0, Nat.zero_le _, rfl, rfl, fun j d hj => by omega⟩
    case round =>
      obtain ⟨k, hk, rfl, rfl, hrm⟩ := hrel
      by_cases hlt : k < cs.length
      · obtain ⟨b, off, rfl, c0, c1, c2, hz, _⟩ := H.out k cs[k] (by simp)
        have HN : Hid (cs[k].fine → ∀ j d, j < k + 1 → cs[j]? = some d → d.fine) := fun hf j d hj he => by
          by_cases e : j = k
          · subst e
            rw [List.getElem?_eq_getElem hlt] at he
            cases he
            exact hf
          · exact hrm.out j d (by omega) he
        have HFi : Hid (cs[k].fine ↔ cs[k].zs.length ≤ 60 ∧ (2 ≤ cs[k].i → cs[k].i ≤ 4 → cs[k].k ≤ 1000)) := Iff.rfl
        clear hrm H
        generalize hd : cs[k] = d at *
        clear hd
        obtain ⟨i, kk, ao, zs, cap'⟩ := d
        simp only at c0 c1 c2 hz HFi
        by_cases g1 : 60 < zs.length
        · go_wp2
          go_ret
          exact ⟨true, rfl, by simp, rfl⟩
        · by_cases g2 : 1000 < kk
          · by_cases g3 : 2 ≤ i
            · by_cases g4 : i ≤ 4
              · go_wp2
                go_ret
                exact ⟨true, rfl, by simp, rfl⟩
              · have HM := hidIt (HN.out (HFi.out.2 ⟨by omega, fun _ h => absurd h g4⟩))
                clear HN HFi
                go_wp2
                go_roundw
                case rel => exact ⟨k + 1, by omega, by go_num, by first | rfl | trivial, HM.out⟩
                case measure => simp [intOf]; omega
            · have HM := hidIt (HN.out (HFi.out.2 ⟨by omega, fun h _ => absurd h g3⟩))
              clear HN HFi
              go_wp2
              go_roundw
              case rel => exact ⟨k + 1, by omega, by go_num, by first | rfl | trivial, HM.out⟩
              case measure => simp [intOf]; omega
          · have HM := hidIt (HN.out (HFi.out.2 ⟨by omega, fun _ _ => by omega⟩))
            clear HN HFi
            go_wp2
            go_roundw
            case rel => exact ⟨k + 1, by omega, by go_num, by first | rfl | trivial, HM.out⟩
            case measure => simp [intOf]; omega
      · have HF : Hid (∀ d ∈ cs, d.fine) := fun d hd => by
          obtain ⟨j, hj, rfl⟩ := List.getElem_of_mem hd
          exact hrm.out j _ (by omega) (by simp)
        clear hrm H
        go_wp2
        go_ret
        exact ⟨false, rfl, fun _ => ⟨by omega, HF.out⟩, rfl⟩

end Go.Proofs.YtcaibfalhkhleaaDoor
