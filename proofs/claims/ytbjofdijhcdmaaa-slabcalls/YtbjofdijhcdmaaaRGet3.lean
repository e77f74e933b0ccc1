/-
  The document's slab: Get in one word.
-/
import Derived.Test.YtbjofdijhcdmaaaRGet
import Derived.Test.YtbjofdijhcdmaaaRGet2
namespace Go.Proofs.Ytbjofdijhcdmaaa
set_option linter.unusedVariables false
open Go.RowKit

set_option maxHeartbeats 1000000 in
theorem rget_full {w : World} {A : Nat} {rs : RS} {fp : Nat → Prop} (h : RRep w A rs fp) (hok : ROk rs) (n : Int) (h1 : 1 ≤ n) (h2 : n ≤ 4095) (hu : (rs.room : Int) < rused rs.ps + n) (hul : rused rs.ps ≤ 16384) :
    Calls Try.prog 25 #[.pointer (some ⟨A, 0, none⟩), .int .i64 n] w fun e w' => e = .returned (.tuple #[.int .u64 0, .int .i64 13]) ∧ w.drew = w' := by
  have HU : Hid (∀ wx : World, wx.heap = w.heap → Calls Try.prog 34 #[.pointer (some ⟨A, 0, none⟩)] wx fun e w' => e = .returned (.int .i64 (rused rs.ps)) ∧ wx = w') := fun wx hx =>
    rused_any (h.frame (by rw [hx]; exact Nat.le_refl _) fun k _ => by rw [hx]) hok.len fun p hp => (hok.piece p hp).2.2.2.1
  obtain ⟨vp, vf, es, h0⟩ := h
  have c0 := h0.cells.1
  have hroom := hok.room
  generalize rused rs.ps = us at *
  have hwr : IntKind.i64.wrap ((us : Int) + n) = (us : Int) + n := IntWalk.i64_in _ (by omega)
  clear h0 hok
  go_enter Try.func25, Try.ntmps25
  go_wp2
  go_region_with (go_at_call 34; go_must (refine (HU.out w.drew rfl).mono ?_); rintro e w' ⟨rfl, rfl⟩)
  all_goals go_wp2
  all_goals go_ret2
  all_goals exact ⟨rfl, rfl⟩

theorem RDid.undrew {w : World} {A : Nat} {rs : RS} {fp : Nat → Prop} {w' : World} (h : RDid w.drew A rs fp w') : RDid w A rs fp w' := ⟨h.1, h.2.os, h.2.tape, h.2.output, h.2.size, h.2.block⟩

theorem rget_any {w : World} {A N : Nat} {st : Sl} {rs : RS} {fp : Nat → Prop} (h : RRep w A rs fp) (hS : Sim N st rs) (hv : Inv st) (hs : Small st N) (hN : N ≤ 900000) (n : Int) :
    Calls Try.prog 25 #[.pointer (some ⟨A, 0, none⟩), .int .i64 n] w fun e w' => e = .returned (.tuple #[.int .u64 (mget st n).2.1, .int .i64 (mget st n).2.2]) ∧ RDid w A (rget rs n).1 fp w' := by
  have hok := hS.ok hv hs hN
  have heq := (sim_get hS hv hs n).1
  rw [← heq]
  have hul : rused rs.ps ≤ 16384 := by rw [hS.used]; have := hv.fits; have := hv.room; omega
  by_cases hr : n < 1 ∨ 4095 < n
  · have em : rget rs n = (rs, 0, 11) := by unfold rget; rw [if_pos hr]
    rw [em]
    refine (rget_err n hr).mono ?_
    rintro _ w' ⟨rfl, rfl⟩
    exact ⟨rfl, RDid.same h⟩
  · by_cases hf : (rs.room : Int) < rused rs.ps + n
    · have em : rget rs n = (rs, 0, 13) := by unfold rget; rw [if_neg hr, if_pos hf]
      rw [em]
      refine (rget_full h hok n (by omega) (by omega) hf hul).mono ?_
      rintro _ w' ⟨rfl, rfl⟩
      exact ⟨rfl, (RDid.same (w := w.drew) (h.frame (Nat.le_refl _) fun _ _ => rfl)).undrew⟩
    · obtain ⟨m, rfl⟩ : ∃ m : Nat, n = m := ⟨n.toNat, by omega⟩
      have em : rget rs m = (rnew rs m, rfirst (rpiece rs m), 0) := by unfold rget; rw [if_neg hr, if_neg hf]; simp
      rw [em]
      cases hg : rs.free.getLast? with
      | none => exact rget_a h hok m (by omega) (by omega) (by omega) (List.getLast?_eq_none_iff.1 hg)
      | some x =>
        obtain ⟨l, hl⟩ := List.getLast?_eq_some_iff.1 hg
        have hx : x ∈ st.free := by rw [← hS.free, hl]; simp
        obtain ⟨e, he, _⟩ := hv.free x hx
        have := (List.getElem?_eq_some_iff.1 he).1
        have := hs.ents
        exact rget_b h hok m (by omega) (by omega) (by omega) l x hl (by omega)
end Go.Proofs.Ytbjofdijhcdmaaa
