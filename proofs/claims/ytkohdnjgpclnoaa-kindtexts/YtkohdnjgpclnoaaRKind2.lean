/-
  The walks of the document's Kind, Elem, Deep, Base.
-/
import Derived.Test.YtkohdnjgpclnoaaRKind
namespace Go.Proofs.Ytkohdnjgpclnoaa
set_option linter.unusedVariables false
open Go.RowKit

/-- Is it a plain type with that in front? -/
def lentB (l P : List UInt8) : Bool := restB l P && (plainL (restL l P)).isSome
theorem rest_app {P r : List UInt8} (hP : P.length = 4) : restB (P ++ r) P = decide (0 < r.length) := by
  unfold restB
  rw [pre_app, Bool.true_and, List.length_append, hP]
  exact decide_eq_decide.2 (by omega)
theorem lent_app {P r : List UInt8} (hP : P.length = 4) : lentB (P ++ r) P = (plainL r).isSome := by
  unfold lentB
  rw [rest_app hP]
  cases r with
  | nil => rw [plainL_nil]; rfl
  | cons b r =>
    have h : restB (P ++ b :: r) P = true := by rw [rest_app hP]; simp
    have : restL (P ++ b :: r) P = b :: r := by unfold restL; rw [if_pos h, drop4 hP]
    rw [this]
    simp
theorem lent_no {l P : List UInt8} (h : Lib.hasPrefix l P = false) : lentB l P = false := by
  unfold lentB restB
  rw [h, Bool.false_and, Bool.false_and]
theorem kind_plain {l : List UInt8} {k : Nat} (h : plainL l = some k) : kindL l = if leafL l = 0 then 3 else leafL l := by
  unfold kindL
  rcases ways l with hl | ⟨r, rfl⟩ | ⟨r, rfl⟩ | ⟨r, rfl⟩ | ⟨h0, h1, h2, h3⟩
  · rw [split_leaf hl, if_neg hl]
  · rw [split_box, if_neg (by rw [h]; simp), leaf_box, if_pos rfl]
  · rw [plainL_ref] at h; cases h
  · rw [plainL_mut] at h; cases h
  · rw [plainL_none h1 h0] at h; cases h
theorem kind_other {l : List UInt8} (h : plainL l = none) : kindL l = if lentB l refP then 4 else if lentB l mutP then 5 else 0 := by
  unfold kindL
  rcases ways l with hl | ⟨r, rfl⟩ | ⟨r, rfl⟩ | ⟨r, rfl⟩ | ⟨h0, h1, h2, h3⟩
  · rw [plainL_leaf hl] at h; cases h
  · rw [split_box, if_pos h, lent_no (pre_ref_box r), lent_no (pre_mut_box r)]
    rfl
  · rw [split_ref, lent_app rfl, lent_no (pre_mut_ref r)]
    cases plainL r <;> rfl
  · rw [split_mut, lent_app rfl, lent_no (pre_ref_mut r)]
    cases plainL r <;> rfl
  · rw [split_none h0 h1 h2 h3, lent_no h2, lent_no h3]
    rfl

def lentV : Array Value := #[.string ⟨#[114, 101, 102]⟩, .string ⟨#[109, 117, 116]⟩]
theorem lents_at {w : World} {B : Nat} (h : w.heap[B]? = some (.cells lentV 9 (0, 0))) :
    w.cell? ⟨B, 0, none⟩ = some (.string ⟨#[114, 101, 102]⟩) ∧ w.cell? ⟨B, 1, none⟩ = some (.string ⟨#[109, 117, 116]⟩) := ⟨cell_at h 0, cell_at h 1⟩
theorem lents_on {w w' : World} {B : Nat} (h : w.heap[B]? = some (.cells lentV 9 (0, 0))) (hb : Below w.heap.size w w') : w'.heap[B]? = some (.cells lentV 9 (0, 0)) := heap_on h hb
theorem rest_size {l P : List UInt8} : (restL l P).length ≤ l.length := by
  unfold restL
  split
  · rw [List.length_drop]; omega
  · simp

set_option maxHeartbeats 1000000 in
theorem rkind_plain (s : ByteArray) (hs : s.size ≤ 1000) (k : Nat) (h : plainL s.data.toList = some k) (w : World) :
    Calls Try.prog 14 #[.string s] w fun e w' => e = .returned (.int .i64 (kindL s.data.toList : Nat)) ∧ Below w.heap.size w w' := by
  have c1 := rplain_any 1000 s hs (by decide)
  have c2 := rname_any s (by omega)
  have hb := hidIt (Below.refl w.heap.size w)
  rw [kind_plain h]
  rw [h] at c1
  simp only [plainV, Option.getD_some, Option.isSome_some] at c1
  have hk : (k : Int) ≤ 8 := by have := plainL_le h; omega
  clear h
  unfold leafL
  by_cases hi : s.data.toList = intL
  · have hb1 : (s.toList == [105, 110, 116]) = true := by rw [ByteArray.toList_eq, hi]; rfl
    rw [if_pos hi]
    clear hi
    go_enter Try.func14, Try.ntmps14
    go_wp2_with (first | (go_at_call 8; refine (c1 _).mono ?_; rintro e w' ⟨rfl, hq⟩; have hb := hidIt (below_next hb.out hq); clear hq))
    go_ret
    exact ⟨rfl, hb.out⟩
  · have hb1 : (s.toList == [105, 110, 116]) = false := by rw [ByteArray.toList_eq]; simpa [intL] using hi
    rw [if_neg hi]
    clear hi
    generalize nameB s.data.toList = n at c2 ⊢
    cases n
    · go_enter Try.func14, Try.ntmps14
      go_wp2_with (first | (go_at_call 8; refine (c1 _).mono ?_; rintro e w' ⟨rfl, hq⟩; have hb := hidIt (below_next hb.out hq); clear hq) | (go_at_call 24; refine (c2 _).mono ?_; rintro e w' ⟨rfl, hq⟩; have hb := hidIt (below_next hb.out hq); clear hq))
      go_ret
      exact ⟨rfl, hb.out⟩
    · go_enter Try.func14, Try.ntmps14
      go_wp2_with (first | (go_at_call 8; refine (c1 _).mono ?_; rintro e w' ⟨rfl, hq⟩; have hb := hidIt (below_next hb.out hq); clear hq) | (go_at_call 24; refine (c2 _).mono ?_; rintro e w' ⟨rfl, hq⟩; have hb := hidIt (below_next hb.out hq); clear hq))
      go_ret
      exact ⟨rfl, hb.out⟩

set_option maxHeartbeats 2000000 in
theorem rkind_other (s : ByteArray) (hs : s.size ≤ 1000) (h : plainL s.data.toList = none) (w : World) :
    Calls Try.prog 14 #[.string s] w fun e w' => e = .returned (.int .i64 (kindL s.data.toList : Nat)) ∧ Below w.heap.size w w' := by
  have c1 := rplain_any 1000 s hs (by decide)
  have hb := hidIt (Below.refl w.heap.size w)
  rw [kind_other h]
  rw [h] at c1
  simp only [plainV, Option.getD_none, Option.isSome_none] at c1
  clear h
  have r0 := rest_ref s (by omega)
  have r1 := rest_mut s (by omega)
  have p0 := rplain_any 1000 (bs (restL s.data.toList refP)) (by rw [bs_size]; have := rest_size (l := s.data.toList) (P := refP); rw [← size_list] at this; omega) (by decide)
  have p1 := rplain_any 1000 (bs (restL s.data.toList mutP)) (by rw [bs_size]; have := rest_size (l := s.data.toList) (P := mutP); rw [← size_list] at this; omega) (by decide)
  rw [bs_list] at p0 p1
  unfold lentB
  unfold plainV at p0 p1
  generalize plainL (restL s.data.toList refP) = o0 at p0 ⊢
  generalize plainL (restL s.data.toList mutP) = o1 at p1 ⊢
  generalize restL s.data.toList refP = l0 at r0 p0
  generalize restL s.data.toList mutP = l1 at r1 p1
  generalize restB s.data.toList refP = b0 at r0 ⊢
  generalize restB s.data.toList mutP = b1 at r1 ⊢
  generalize o0.getD 0 = n0 at p0
  generalize o1.getD 0 = n1 at p1
  generalize o0.isSome = i0 at p0 ⊢
  generalize o1.isSome = i1 at p1 ⊢
  obtain ⟨N, hN0⟩ : ∃ N : Nat, (if (b0 && i0) = true then 4 else if (b1 && i1) = true then 5 else 0) = N := ⟨_, rfl⟩
  rw [hN0]
  have hN := hidIt hN0
  clear hN0
  have R0 := hidIt r0
  have R1 := hidIt r1
  have P0 := hidIt p0
  have P1 := hidIt p1
  clear r0 r1 p0 p1
  go_enter Try.func14, Try.ntmps14
  go_wp2_with (go_at_call 8; refine (c1 _).mono ?_)
  rintro e w0 ⟨rfl, hq⟩
  have hb := hidIt (below_next hb.out hq)
  clear hq c1
  have hst := hidIt (below_next hb.out (below_new w0 (.cells lentV 9 (0, 0))))
  have hsh : Hid ((w0.alloc (.cells lentV 9 (0, 0))).heap[w0.heap.size]? = some (.cells lentV 9 (0, 0))) := hidIt (heap_alloc_new w0 _)
  go_wp2
  go_loopw [6] (fun i wr => ∃ k : Nat, k ≤ 2 ∧ i = .int .i64 k ∧ Hid ((0 < k → (b0 && i0) = false) ∧ (1 < k → (b1 && i1) = false)) ∧ Hid (wr.heap[w0.heap.size]? = some (.cells lentV 9 (0, 0))) ∧ Hid (Below w.heap.size w wr)) (fun i _ => 2 - (intOf i).toNat)
  case atStart => exact ⟨0, by omega, rfl, hidIt ⟨fun h => by omega, fun h => by omega⟩, hsh, hst⟩
  case round =>
    clear hb hst hsh
    obtain ⟨k, hk, rfl, hf, hh, hb⟩ := hrel
    obtain ⟨q0, q1⟩ := lents_at hh.out
    have hcase : k = 0 ∨ k = 1 ∨ k = 2 := by omega
    rcases hcase with rfl | rfl | rfl
    · have r0 := R0.out
      have p0 := P0.out
      clear R0 R1 P0 P1
      cases b0 <;> cases i0
      all_goals
        go_wp2_with (first | (go_at_call 25; refine (r0 _).mono ?_; rintro e w' ⟨rfl, rfl⟩) | (go_at_call 8; refine (p0 _).mono ?_; rintro e w' ⟨rfl, hq⟩; have hh := hidIt (lents_on hh.out hq); have hb := hidIt (below_next hb.out hq); clear hq; obtain ⟨q0, q1⟩ := lents_at hh.out))
        first
          | (go_roundw
             case rel => exact ⟨1, by omega, rfl, hidIt ⟨fun _ => rfl, fun h => by omega⟩, hh, hb⟩
             case measure => simp [intOf])
          | (obtain rfl : 4 = N := hN.out
             go_ret
             exact ⟨rfl, hb.out⟩)
    · have r1 := R1.out
      have p1 := P1.out
      have f0 := hidIt (hf.out.1 (by omega))
      clear R0 R1 P0 P1
      cases b1 <;> cases i1
      all_goals
        go_wp2_with (first | (go_at_call 25; refine (r1 _).mono ?_; rintro e w' ⟨rfl, rfl⟩) | (go_at_call 8; refine (p1 _).mono ?_; rintro e w' ⟨rfl, hq⟩; have hh := hidIt (lents_on hh.out hq); have hb := hidIt (below_next hb.out hq); clear hq; obtain ⟨q0, q1⟩ := lents_at hh.out))
        first
          | (go_roundw
             case rel => exact ⟨2, by omega, rfl, hidIt ⟨fun _ => f0.out, fun h => rfl⟩, hh, hb⟩
             case measure => simp [intOf])
          | (obtain rfl : 5 = N := by have := hN.out; rw [f0.out] at this; exact this
             go_ret
             exact ⟨rfl, hb.out⟩)
    · have f0 := hf.out.1 (by omega)
      have f1 := hf.out.2 (by omega)
      obtain rfl : 0 = N := by have := hN.out; rw [f0, f1] at this; exact this
      clear f0 f1 R0 R1 P0 P1
      go_wp2
      go_ret
      exact ⟨rfl, hb.out⟩

theorem rkind_any (s : ByteArray) (hs : s.size ≤ 1000) (w : World) :
    Calls Try.prog 14 #[.string s] w fun e w' => e = .returned (.int .i64 (kindL s.data.toList : Nat)) ∧ Below w.heap.size w w' := by
  cases h : plainL s.data.toList with
  | none => exact rkind_other s hs h w
  | some k => exact rkind_plain s hs k h w
end Go.Proofs.Ytkohdnjgpclnoaa
