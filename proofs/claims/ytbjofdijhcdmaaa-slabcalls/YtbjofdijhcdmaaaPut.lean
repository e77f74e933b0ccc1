/-
  Store and Blank.
-/
import Derived.Test.YtbjofdijhcdmaaaRead3
import Derived.Test.YtbjofdijhcdmaaaTurn
import Derived.BigRegion
namespace Go.Proofs.Ytbjofdijhcdmaaa
set_option linter.unusedVariables false
open Go.RowKit

set_option maxHeartbeats 400000 in
theorem put_err (A : Nat) (a c v : Int) (b : Bool) (w : World) (hc : (c != 0) = true)
    (hf : Hid (Calls Try.prog 42 #[.pointer (some ⟨A, 0, none⟩), .int .u64 a] (w.alloc (.cells #[.int .i64 v, .bool b] 91)) fun e w' => e = .returned (.tuple #[.pointer none, .int .i64 0, .int .i64 c]) ∧ (w.alloc (.cells #[.int .i64 v, .bool b] 91)) = w')) :
    Calls Try.prog 41 #[.pointer (some ⟨A, 0, none⟩), .int .u64 a, .agg #[.int .i64 v, .bool b]] w fun e w' => e = .returned (.int .i64 c) ∧ (w.alloc (.cells #[.int .i64 v, .bool b] 91)) = w' := by
  go_enter Try.func41, Try.ntmps41
  go_wp2_with (go_at_call 42; refine hf.out.mono ?_; rintro e w' ⟨rfl, rfl⟩)
  go_ret
  exact ⟨rfl, rfl⟩

set_option maxHeartbeats 400000 in
theorem put_ok (A g o gt nt ct p : Nat) (a v : Int) (b : Bool) (w : World) (hg : g < w.heap.size) (hgt : gt < w.heap.size) (x y : Value)
    (hT : w.cell? ⟨g, o + 1, none⟩ = some (.slice (some ⟨gt, 0, none⟩) nt ct)) (hp : p < nt)
    (hc1 : w.cell? ⟨gt, p * 2, none⟩ = some x) (hc2 : w.cell? ⟨gt, p * 2 + 1, none⟩ = some y) (hf1 : w.frozen? ⟨gt, p * 2, none⟩ = false) (hf2 : w.frozen? ⟨gt, p * 2 + 1, none⟩ = false)
    (hf : Hid (Calls Try.prog 42 #[.pointer (some ⟨A, 0, none⟩), .int .u64 a] (w.alloc (.cells #[.int .i64 v, .bool b] 91)) fun e w' => e = .returned (.tuple #[.pointer (some ⟨g, o, none⟩), .int .i64 p, .int .i64 0]) ∧ (w.alloc (.cells #[.int .i64 v, .bool b] 91)) = w')) :
    Calls Try.prog 41 #[.pointer (some ⟨A, 0, none⟩), .int .u64 a, .agg #[.int .i64 v, .bool b]] w fun e w' => e = .returned (.int .i64 0) ∧
      (((w.setCell ⟨gt, p * 2, none⟩ (.int .i64 v)).setCell ⟨gt, p * 2 + 1, none⟩ (.bool b)).alloc (.cells #[.int .i64 v, .bool b] 91)).drew = w' := by
  go_enter Try.func41, Try.ntmps41
  go_wp2_with (go_at_call 42; refine hf.out.mono ?_; rintro e w' ⟨rfl, rfl⟩)
  go_region
  all_goals go_wp2
  all_goals go_ret
  all_goals exact ⟨rfl, rfl⟩

/-- What a call on a slab leaves: the slab as st', in its own blocks and new ones; all else as it was. -/
def Did (w : World) (A : Nat) (st' : Sl) (fp : Nat → Prop) (w' : World) : Prop := Rep w' A st' (ext fp w w') ∧ Kp fp w w'

theorem ext_lt {w w' : World} {fp : Nat → Prop} (h : ∀ k, fp k → k < w.heap.size) (hs : w.heap.size ≤ w'.heap.size) : ∀ k, ext fp w w' k → k < w'.heap.size := by
  intro k hk
  rcases hk with hk | hk
  · exact Nat.lt_of_lt_of_le (h k hk) hs
  · exact hk.2
theorem RepAt.grow {w w' : World} {A : Nat} {st : Sl} {fp : Nat → Prop} {ve vf : Value} {es : List (Value × Value)} (h : RepAt w A st fp ve vf es) (hk : Kp (fun _ => False) w w') : RepAt w' A st (ext fp w w') ve vf es :=
  (h.frame hk.size fun k hf => hk.block k (h.fplt k hf) id).mono (fun _ h => .inl h) (ext_lt h.fplt hk.size)
theorem Rep.grow {w w' : World} {A : Nat} {st : Sl} {fp : Nat → Prop} (h : Rep w A st fp) (hk : Kp (fun _ => False) w w') : Rep w' A st (ext fp w w') := by
  obtain ⟨ve, vf, es, h⟩ := h
  exact ⟨ve, vf, es, h.grow hk⟩
theorem Kp.of_false {fp : Nat → Prop} {w w' : World} (h : Kp (fun _ => False) w w') : Kp fp w w' := h.mono fun _ h => h.elim
theorem Did.same {w : World} {A : Nat} {st : Sl} {fp : Nat → Prop} (h : Rep w A st fp) : Did w A st fp w := ⟨h.grow (Kp.refl _ _), Kp.refl _ _⟩
theorem ext_trans {fp : Nat → Prop} {a b c : World} (h1 : a.heap.size ≤ b.heap.size) (h2 : b.heap.size ≤ c.heap.size) : ∀ k, ext (ext fp a b) b c k → ext fp a c k := by
  intro k hk
  rcases hk with (hk | hk) | hk
  · exact .inl hk
  · exact .inr ⟨hk.1, by omega⟩
  · exact .inr ⟨by omega, hk.2⟩
/-- Two calls, one behind the other. -/
theorem Did.trans {a b c : World} {A : Nat} {s1 s2 : Sl} {fp : Nat → Prop} (h1 : Did a A s1 fp b) (h2 : Did b A s2 (ext fp a b) c) : Did a A s2 fp c :=
  ⟨h2.1.mono (ext_trans h1.2.size h2.2.size) (fun k hk => by
    rcases hk with hk | hk
    · exact Nat.lt_of_lt_of_le (h1.1.lt k (.inl hk)) h2.2.size
    · exact hk.2), h1.2.trans h2.2⟩

theorem slotCells_set (l : List (Int × Bool)) (p : Nat) (v : Int) (b : Bool) (hp : p < l.length) : ((slotCells l).set (p * 2) (.int .i64 v)).set (p * 2 + 1) (.bool b) = slotCells (l.set p (v, b)) :=
  flat2_set (fun s : Int × Bool => Value.int .i64 s.1) (fun s => Value.bool s.2) l p (v, b) hp

theorem put_any {w : World} {A : Nat} {st : Sl} {fp : Nat → Prop} (h : Rep w A st fp) (hv : Inv st) (hs : Small st 1000000000) (a v : Int) (b : Bool) (h0 : 0 ≤ a) (h1 : a < 18446744073709551616) :
    Calls Try.prog 41 #[.pointer (some ⟨A, 0, none⟩), .int .u64 a, .agg #[.int .i64 v, .bool b]] w fun e w' => e = .returned (.int .i64 (mput st a (v, b)).2) ∧ Did w A (mput st a (v, b)).1 fp w' := by
  obtain ⟨ve, vf, es, h⟩ := h
  have hk0 : Kp (fun _ => False) w (w.alloc (.cells #[.int .i64 v, .bool b] 91)) := Kp.alloc _ _ _
  have hg := h.grow hk0
  by_cases hc : mfind st a = 0
  · obtain ⟨g, cap, e, gs, cs, gt, ct, s, rfl, he, hu, hcu, hcv, hp, hsl, hv1, hv2, hf1, hf2, _, _, _, _⟩ := h.good hv hs a h0 h1 hc
    have hlt := h.fplt
    have ho := h.slots _ _ _ he hu
    refine (put_ok A g _ gt _ ct _ a v b w (hlt g (h.fpE g rfl)) (hlt gt (ho.2 gt rfl)) _ _ hcv hp hv1 hv2 hf1 hf2 (find_okay hg hv hs a h0 h1 hc)).mono ?_
    rintro _ w' ⟨rfl, rfl⟩
    have e1 : mput st a (v, b) = ({ st with ents := st.ents.set (idx a) { e with slots := e.slots.set (plc a) (v, b) } }, 0) := by
      unfold mput setEnt
      rw [if_neg (by simp [hc])]
      simp only [he]
    rw [e1]
    refine ⟨rfl, ?_⟩
    have hst1 := (ho.1.stored (plc a * 2) (.int .i64 v)).1
    have hst2 := (hst1.stored (plc a * 2 + 1) (.bool b)).1
    rw [slotCells_set _ _ _ _ hp] at hst2
    have hR : RepAt ((w.setCell ⟨gt, plc a * 2, none⟩ (.int .i64 v)).setCell ⟨gt, plc a * 2 + 1, none⟩ (.bool b)) A _ fp _ vf es :=
      h.slotsIn he hu (by simp [World.setCell]) (fun k _ hne => by
        have hne' : k ≠ gt := fun e => hne (by rw [e]; rfl)
        rw [heap_setCell_other _ ⟨gt, plc a * 2 + 1, none⟩ k _ hne', heap_setCell_other _ ⟨gt, plc a * 2, none⟩ k _ hne']) (e.slots.set (plc a) (v, b)) (by simpa using hst2)
    have hK : Kp fp w ((w.setCell ⟨gt, plc a * 2, none⟩ (.int .i64 v)).setCell ⟨gt, plc a * 2 + 1, none⟩ (.bool b)) :=
      (Kp.setCell w (p := ⟨gt, plc a * 2, none⟩) (ho.2 gt rfl) _).trans' (Kp.setCell _ (p := ⟨gt, plc a * 2 + 1, none⟩) (ho.2 gt rfl) _)
    have hK2 : Kp (fun _ => False) ((w.setCell ⟨gt, plc a * 2, none⟩ (.int .i64 v)).setCell ⟨gt, plc a * 2 + 1, none⟩ (.bool b)) (((w.setCell ⟨gt, plc a * 2, none⟩ (.int .i64 v)).setCell ⟨gt, plc a * 2 + 1, none⟩ (.bool b)).alloc (.cells #[.int .i64 v, .bool b] 91)).drew := (Kp.alloc _ _ _).drew
    exact Did.trans ⟨⟨_, _, _, hR.mono (fun _ h => .inl h) (ext_lt hlt hK.size)⟩, hK⟩ ⟨⟨_, _, _, (hR.mono (fun _ h => .inl h) (ext_lt hlt hK.size)).grow hK2⟩, hK2.of_false⟩
  · have e1 : mput st a (v, b) = (st, (mfind st a : Int)) := by
      unfold mput
      rw [if_pos hc]
    rw [e1]
    refine (put_err A a _ v b w (by simp [hc]) (find_err hg hv hs a h0 h1 hc)).mono ?_
    rintro _ w' ⟨rfl, rfl⟩
    exact ⟨rfl, ⟨_, _, _, hg⟩, hk0.of_false⟩

set_option maxHeartbeats 400000 in
theorem store_any {w : World} {A : Nat} {st : Sl} {fp : Nat → Prop} (h : Rep w A st fp) (hv : Inv st) (hs : Small st 1000000000) (a v : Int) (h0 : 0 ≤ a) (h1 : a < 18446744073709551616) :
    Calls Try.prog 16 #[.pointer (some ⟨A, 0, none⟩), .int .u64 a, .int .i64 v] w fun e w' => e = .returned (.int .i64 (mput st a (v, true)).2) ∧ Did w A (mput st a (v, true)).1 fp w' := by
  have hc := put_any h hv hs a v true h0 h1
  generalize (mput st a (v, true)).2 = c at hc ⊢
  generalize (mput st a (v, true)).1 = s2 at hc ⊢
  have H := hidIt hc
  clear hc h hv hs
  go_enter Try.func16, Try.ntmps16
  go_wp2_with (go_at_call 41; refine H.out.mono ?_; rintro e w' ⟨rfl, hd⟩)
  go_ret
  exact ⟨rfl, hd⟩

set_option maxHeartbeats 400000 in
theorem blank_any {w : World} {A : Nat} {st : Sl} {fp : Nat → Prop} (h : Rep w A st fp) (hv : Inv st) (hs : Small st 1000000000) (a : Int) (h0 : 0 ≤ a) (h1 : a < 18446744073709551616) :
    Calls Try.prog 21 #[.pointer (some ⟨A, 0, none⟩), .int .u64 a] w fun e w' => e = .returned (.int .i64 (mput st a (0, false)).2) ∧ Did w A (mput st a (0, false)).1 fp w' := by
  have hc := put_any h hv hs a 0 false h0 h1
  generalize (mput st a (0, false)).2 = c at hc ⊢
  generalize (mput st a (0, false)).1 = s2 at hc ⊢
  have H := hidIt hc
  clear hc h hv hs
  go_enter Try.func21, Try.ntmps21
  go_wp2_with (go_at_call 41; refine H.out.mono ?_; rintro e w' ⟨rfl, hd⟩)
  go_ret
  exact ⟨rfl, hd⟩
end Go.Proofs.Ytbjofdijhcdmaaa
