/-
  The map of BitsSteps beside a set: it tells what is in it.
-/
import Derived.Test.YtcaibfalhkhleaaDoorMany
import Derived.Maps.OwnSet
namespace Go.Proofs.YtcaibfalhkhleaaDoor
set_option linter.unusedVariables false
open Go.RowKit Go.Maps

theorem law3 : Keyed Tryd.prog 3 := int_keyed Tryd.underlying3
theorem zero4 (w : World) : (zeroValue 4).run Tryd.prog w = .ok (.bool false) w := by kernel_rfl

/-- The map's data tells what p tells. -/
def MapIs (D : DataW Unit) (p : Nat → Bool) : Prop := IsMap D ∧ ∀ k : Int, D.atKey (.int .i64 k) (.lit (.bool false)) = .lit (.bool (hasP p k))
theorem MapIs.start : MapIs (.map []) (fun _ => false) := ⟨isMap_empty, fun k => by
  have : hasP (fun _ => false) k = false := by simp [hasP]
  rw [this]
  rfl⟩
theorem MapIs.put {D : DataW Unit} {p q : Nat → Bool} (h : MapIs D p) (k : Int) (v : Bool) (h1 : hasP q k = v) (h2 : ∀ j, j ≠ k → hasP q j = hasP p j) : MapIs (D.put (.int .i64 k) (.lit (.bool v))) q := by
  refine ⟨h.1.put _ _, fun j => ?_⟩
  by_cases hj : j = k
  · subst hj
    rw [h1]
    exact atKey_put_same (k := .int .i64 j) h.1 trivial _ _
  · rw [atKey_put_other (by simpa using hj), h2 j hj]
    exact h.2 j

abbrev OwnM (W : World) (B c : Nat) (D : DataW Unit) : Prop := W.ownsMap Tryd.prog 3 (plainElem Tryd.prog 4) B c D
theorem map_of_held {W W' : World} {B c : Nat} {D : DataW Unit} (h : OwnM W B c D) (hb : W'.heap[B]? = W.heap[B]?) : OwnM W' B c D := by
  obtain ⟨es, clock, h1, r⟩ := h
  exact ⟨es, clock, hb.trans h1, r⟩
theorem map_obj {W : World} {B c : Nat} {D : DataW Unit} (h : OwnM W B c D) : ∃ o, W.heap[B]? = some o ∧ ∀ cs, o ≠ .cells cs 58 (0, 0) := by
  obtain ⟨es, clock, h1, r⟩ := h
  exact ⟨_, h1, by simp⟩
/-- m[k]. -/
theorem map_look {W : World} {B c : Nat} {D : DataW Unit} {p : Nat → Bool} (h : OwnM W B c D) (hm : MapIs D p) {k : Int} (hk : (Lit.int .i64 k).wf = true) :
    Sem.run Tryd.prog (Instr.lookup 51 (.map (some B)) (.int .i64 k) false) W = .ok (.bool (hasP p k)) W := by
  obtain ⟨v, ps, hrun, hv⟩ := World.ownsMap.lookup h law3 Tryd.underlying51 (zero4 W) (plainElem_bool Tryd.underlying4 false) (keyOf_int_mk Tryd.underlying3 hk)
  rw [hm.2 k] at hv
  have : v = .bool (hasP p k) := by
    unfold plainElem at hv
    rw [Tryd.underlying4] at hv
    cases v <;> simp at hv
    rw [← hv.1]
  rw [this] at hrun
  exact hrun
theorem map_look_drewN {W : World} {B c : Nat} {D : DataW Unit} {p : Nat → Bool} (h : OwnM W B c D) (hm : MapIs D p) {k : Int} (hk : (Lit.int .i64 k).wf = true) (m : Nat) :
    Sem.run Tryd.prog (Instr.lookup 51 (.map (some B)) (.int .i64 k) false) (W.drewN m) = .ok (.bool (hasP p k)) (W.drewN m) := map_look (W := W.drewN m) (map_of_held (W := W) (W' := W.drewN m) h rfl) hm hk

/-- What a step does to how many there are. -/
theorem cnt_upd {b n : Nat} {p : Nat → Bool} {v : Bool} (hn : n < b) (hv : p n = !v) : cnt b (upd p n v) + (!v).toNat = cnt b p + v.toNat := by
  induction b with
  | zero => omega
  | succ b ih =>
    rw [cnt_succ, cnt_succ]
    by_cases hb : n = b
    · subst hb
      have : cnt n (upd p n v) = cnt n p := cnt_congr fun k hk => by
        unfold upd
        rw [if_neg (by omega)]
      rw [this, upd_same, hv]
      cases v <;> simp
    · have := ih (by omega)
      have h2 : upd p n v b = p b := by
        unfold upd
        rw [if_neg (by omega)]
      rw [h2]
      omega
section
variable {b : Nat} {p : Nat → Bool} {k : Int}
theorem add_yes (h0 : 0 ≤ k) (h1 : k < b) (hp : hasP p k = false) : addB b p k = true ∧ cnt b (addP b p k) = cnt b p + 1 ∧ hasP (addP b p k) k = true ∧ ∀ j, j ≠ k → hasP (addP b p k) j = hasP p j := by
  obtain ⟨n, rfl⟩ : ∃ n : Nat, k = n := ⟨k.toNat, by omega⟩
  have hpn : p n = false := by simpa [hasP] using hp
  have hn : n < b := by omega
  have e : addP b p n = upd p n true := by simp [addP, hn]
  have hc := cnt_upd (v := true) hn (by simpa using hpn)
  refine ⟨by simp [addB, hn, hpn], by rw [e]; simpa using hc, by rw [e]; simp [hasP, upd], fun j hj => ?_⟩
  rw [e]
  unfold hasP upd
  by_cases h : 0 ≤ j
  · rw [if_neg (by omega)]
  · simp [h]
theorem add_no (h : ¬ (0 ≤ k ∧ k < b) ∨ hasP p k = true) : addB b p k = false ∧ addP b p k = p := by
  by_cases hw : 0 ≤ k ∧ k < b
  · have hp : hasP p k = true := by
      rcases h with h | h
      · exact absurd hw h
      · exact h
    have hpk : p k.toNat = true := by
      simp [hasP] at hp
      exact hp.2
    refine ⟨by simp [addB, hpk], ?_⟩
    unfold addP
    rw [if_pos hw]
    exact upd_self hpk
  · exact ⟨by simp [addB, hw], by simp [addP, hw]⟩
theorem cut_yes (hf : Fits b p) (hp : hasP p k = true) : (0 ≤ k ∧ k < b) ∧ cnt b (cutN p k) + 1 = cnt b p ∧ hasP (cutN p k) k = false ∧ ∀ j, j ≠ k → hasP (cutN p k) j = hasP p j := by
  have h0 : 0 ≤ k := by
    simp [hasP] at hp
    exact hp.1
  obtain ⟨n, rfl⟩ : ∃ n : Nat, k = n := ⟨k.toNat, by omega⟩
  have hpn : p n = true := by simpa [hasP] using hp
  have hn := hf.2 n hpn
  have e : cutN p n = upd p n false := by simp [cutN]
  have hc := cnt_upd (v := false) hn (by simpa using hpn)
  refine ⟨by omega, by rw [e]; simpa using hc, by rw [e]; simp [hasP, upd], fun j hj => ?_⟩
  rw [e]
  unfold hasP upd
  by_cases h : 0 ≤ j
  · rw [if_neg (by omega)]
  · simp [h]
theorem cut_no (hp : hasP p k = false) : cutN p k = p := by
  unfold cutN
  split
  · rename_i h0
    simp [hasP, h0] at hp
    exact upd_self hp
  · rfl
end
end Go.Proofs.YtcaibfalhkhleaaDoor
