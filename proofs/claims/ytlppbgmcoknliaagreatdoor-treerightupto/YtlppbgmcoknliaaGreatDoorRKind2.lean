/-
  A type is made of its base by its boxes, and at most one ref or mut. No walk here.
  The walks of the document's rest, Plain, Kind.
  The walks of the document's Kind, Elem, Deep, Base.
-/
import Derived.Test.YtlppbgmcoknliaaGreatDoorSplit
namespace Go.Proofs.YtlppbgmcoknliaaGreatDoor
set_option linter.unusedVariables false
open Go.RowKit

end Go.Proofs.YtlppbgmcoknliaaGreatDoor
namespace Go.Proofs.YtlppbgmcoknliaaGreatDoor
set_option linter.unusedVariables false
open Go.RowKit

theorem str_app' (s t : ByteArray) : (s ++ t).data.toList = s.data.toList ++ t.data.toList := by simp
/-- Has it that front, and something behind? -/
def restB (l P : List UInt8) : Bool := Lib.hasPrefix l P && decide (4 < l.length)
def restL (l P : List UInt8) : List UInt8 := if restB l P then l.drop 4 else []

theorem pre_take {l P : List UInt8} (h : P.length = 4) : (l.take 4 == P) = Lib.hasPrefix l P := by
 unfold Lib.hasPrefix
 rw [Bool.eq_iff_iff, List.isPrefixOf_iff_prefix, List.prefix_iff_eq_take, h, beq_iff_eq]
 exact ⟨fun e => e.symm, fun e => e.symm⟩

set_option maxHeartbeats 1000000 in
theorem rest_walk (s W : ByteArray) (P : List UInt8) (hP : P = W.data.toList ++ [32]) (hW : W.size = 3) (hs : s.size ≤ 100000000) (w : World) :
 Calls Tryz.prog 139 #[.string s, .string W] w fun e w' => e = .returned (.tuple #[.string (bs (restL s.data.toList P)), .bool (restB s.data.toList P)]) ∧ w = w' := by
 have hl : P.length = 4 := by rw [hP, List.length_append, ← size_list, hW]; rfl
 have hw3 : (W.size : Int) = 3 := by omega
 by_cases h4 : 4 < s.size
 · have h4' : (4 : Int) < (s.size : Int) := by omega
   have e1 : ((s.extract 0 4).toList == (W ++ ⟨#[32]⟩).toList) = Lib.hasPrefix s.data.toList P := by
    rw [ByteArray.toList_eq, ByteArray.toList_eq, extract_take, str_app', ← pre_take hl, hP]
   have e2 : restB s.data.toList P = Lib.hasPrefix s.data.toList P := by
    unfold restB
    rw [← size_list, decide_eq_true h4, Bool.and_true]
   unfold restL
   rw [e2]
   generalize Lib.hasPrefix s.data.toList P = b at e1 ⊢
   have e3 : Hid (s.extract 4 s.size = bs (s.data.toList.drop 4)) := hidIt (bs_drop s 4)
   clear e2 hl hP
   cases b
   · go_enter Tryz.func139, Tryz.ntmps139
     go_wp2
     (try simp only [Exit.inBlock, Exit.then])
     refine bodyPost_ret (by simp [results, Tryz.results139, go_sem]; try rfl) rfl ?_
     exact ⟨rfl, rfl⟩
   · go_enter Tryz.func139, Tryz.ntmps139
     go_wp2
     (try simp only [Exit.inBlock, Exit.then])
     refine bodyPost_ret (by simp [results, Tryz.results139, go_sem]; try rfl) rfl ?_
     exact ⟨by rw [e3.out], rfl⟩
 · have h4' : (s.size : Int) ≤ 4 := by omega
   have e2 : restB s.data.toList P = false := by
    unfold restB
    rw [← size_list, decide_eq_false h4, Bool.and_false]
   unfold restL
   rw [e2]
   clear e2 hl hP h4
   go_enter Tryz.func139, Tryz.ntmps139
   go_wp2
   (try simp only [Exit.inBlock, Exit.then])
   refine bodyPost_ret (by simp [results, Tryz.results139, go_sem]; try rfl) rfl ?_
   exact ⟨rfl, rfl⟩

theorem rest_box (s : ByteArray) (hs : s.size ≤ 100000000) (w : World) :
 Calls Tryz.prog 139 #[.string s, .string ⟨#[98, 111, 120]⟩] w fun e w' => e = .returned (.tuple #[.string (bs (restL s.data.toList boxP)), .bool (restB s.data.toList boxP)]) ∧ w = w' := rest_walk s ⟨#[98, 111, 120]⟩ boxP rfl rfl hs w
theorem rest_ref (s : ByteArray) (hs : s.size ≤ 100000000) (w : World) :
 Calls Tryz.prog 139 #[.string s, .string ⟨#[114, 101, 102]⟩] w fun e w' => e = .returned (.tuple #[.string (bs (restL s.data.toList refP)), .bool (restB s.data.toList refP)]) ∧ w = w' := rest_walk s ⟨#[114, 101, 102]⟩ refP rfl rfl hs w
theorem rest_mut (s : ByteArray) (hs : s.size ≤ 100000000) (w : World) :
 Calls Tryz.prog 139 #[.string s, .string ⟨#[109, 117, 116]⟩] w fun e w' => e = .returned (.tuple #[.string (bs (restL s.data.toList mutP)), .bool (restB s.data.toList mutP)]) ∧ w = w' := rest_walk s ⟨#[109, 117, 116]⟩ mutP rfl rfl hs w

def plainV (o : Option Nat) : Value := .tuple #[.int .i64 ((o.getD 0 : Nat) : Int), .bool o.isSome]

theorem rest_none {l : List UInt8} (h : restB l boxP = false) (hl : leafL l = 0) : plainL l = none := by
 unfold restB at h
 cases hp : Lib.hasPrefix l boxP with
 | false => exact plainL_none hp hl
 | true =>
  rw [hp, Bool.true_and, decide_eq_false_iff_not] at h
  have e := pre_split hp
  have : l.drop boxP.length = [] := List.eq_nil_of_length_eq_zero (by rw [List.length_drop]; simp only [boxP, List.length_cons, List.length_nil]; omega)
  rw [this] at e
  rw [e, plainL_box, plainL_nil]
theorem rest_some {l P : List UInt8} (hP : P.length = 4) (h : restB l P = true) : l = P ++ restL l P ∧ (restL l P).length < l.length := by
 have hr : restL l P = l.drop 4 := by unfold restL; rw [if_pos h]
 unfold restB at h
 rw [Bool.and_eq_true, decide_eq_true_eq] at h
 refine ⟨by rw [hr, ← hP]; exact pre_split h.1, ?_⟩
 rw [hr, List.length_drop]
 omega

set_option maxHeartbeats 1000000 in
theorem rplain_leaf (s : ByteArray) (hs : s.size ≤ 100000000) (h : leafL s.data.toList ≠ 0) (w : World) :
 Calls Tryz.prog 103 #[.string s] w fun e w' => e = .returned (.tuple #[.int .i64 0, .bool true]) ∧ Below w.heap.size w w' := by
 have c1 := rname_any s hs
 have e1 : s.toList = s.data.toList := ByteArray.toList_eq _
 have hb := hidIt (Below.refl w.heap.size w)
 by_cases hi : s.data.toList = intL
 · have hb1 : (s.toList == [105, 110, 116]) = true := by rw [e1, hi]; rfl
   clear hi e1 h
   go_enter Tryz.func103, Tryz.ntmps103
   go_wp2
   (try simp only [Exit.inBlock, Exit.then])
   refine bodyPost_ret (by simp [results, Tryz.results103, go_sem]; try rfl) rfl ?_
   exact ⟨rfl, hb.out⟩
 · have hb1 : (s.toList == [105, 110, 116]) = false := by rw [e1]; simpa [intL] using hi
   have hn : nameB s.data.toList = true := by
    unfold leafL at h
    rw [if_neg hi] at h
    cases hn : nameB s.data.toList with
    | true => rfl
    | false => rw [hn] at h; exact absurd rfl h
   rw [hn] at c1
   clear hi e1 h hn
   go_enter Tryz.func103, Tryz.ntmps103
   go_wp2_with (first | (go_at_call 44; refine (c1 _).mono ?_; rintro e w' ⟨rfl, hq⟩; have hb := hidIt (below_next hb.out hq); clear hq))
   (try simp only [Exit.inBlock, Exit.then])
   refine bodyPost_ret (by simp [results, Tryz.results103, go_sem]; try rfl) rfl ?_
   exact ⟨rfl, hb.out⟩
theorem leaf_no {l : List UInt8} (h : leafL l = 0) : l ≠ intL ∧ nameB l = false := by
 unfold leafL at h
 split at h
 · cases h
 · rename_i hi
   split at h
   · cases h
   · rename_i hn
     exact ⟨hi, by simpa using hn⟩

set_option maxHeartbeats 1000000 in
theorem rplain_any : ∀ (n : Nat) (s : ByteArray), s.size ≤ n → n ≤ 100000000 → ∀ w : World,
 Calls Tryz.prog 103 #[.string s] w fun e w' => e = .returned (plainV (plainL s.data.toList)) ∧ Below w.heap.size w w' := by
 intro n
 induction n with
 | zero =>
  intro s hs hn w
  have e0 : s.data.toList = [] := List.eq_nil_of_length_eq_zero (by rw [← size_list]; omega)
  have c1 := rname_any s (by omega)
  have c2 := rest_box s (by omega)
  have hb := hidIt (Below.refl w.heap.size w)
  have hb1 : (s.toList == [105, 110, 116]) = false := by rw [ByteArray.toList_eq, e0]; rfl
  rw [e0] at c1 c2 ⊢
  rw [show nameB [] = false by rfl] at c1
  rw [show restB [] boxP = false by rfl, show restL [] boxP = [] by rfl] at c2
  rw [plainL_nil]
  clear e0
  go_enter Tryz.func103, Tryz.ntmps103
  go_wp2_with (first | (go_at_call 44; refine (c1 _).mono ?_; rintro e w' ⟨rfl, hq⟩; have hb := hidIt (below_next hb.out hq); clear hq) | (go_at_call 139; refine (c2 _).mono ?_; rintro e w' ⟨rfl, rfl⟩))
  (try simp only [Exit.inBlock, Exit.then])
  refine bodyPost_ret (by simp [results, Tryz.results103, go_sem]; try rfl) rfl ?_
  exact ⟨rfl, hb.out⟩
 | succ n ih =>
  intro s hs hn w
  by_cases hl : leafL s.data.toList = 0
  · obtain ⟨hi, hnm⟩ := leaf_no hl
    have hb1 : (s.toList == [105, 110, 116]) = false := by rw [ByteArray.toList_eq]; simpa [intL] using hi
    have c1 := rname_any s (by omega)
    have c2 := rest_box s (by omega)
    have hb := hidIt (Below.refl w.heap.size w)
    rw [hnm] at c1
    cases hr : restB s.data.toList boxP with
    | false =>
     rw [rest_none hr hl]
     rw [hr] at c2
     clear hi hnm hl hr ih
     go_enter Tryz.func103, Tryz.ntmps103
     go_wp2_with (first | (go_at_call 44; refine (c1 _).mono ?_; rintro e w' ⟨rfl, hq⟩; have hb := hidIt (below_next hb.out hq); clear hq) | (go_at_call 139; refine (c2 _).mono ?_; rintro e w' ⟨rfl, rfl⟩))
     (try simp only [Exit.inBlock, Exit.then])
     refine bodyPost_ret (by simp [results, Tryz.results103, go_sem]; try rfl) rfl ?_
     exact ⟨rfl, hb.out⟩
    | true =>
     obtain ⟨e1, e2⟩ := rest_some (P := boxP) rfl hr
     rw [hr] at c2
     rw [← size_list] at e2
     have c3 := ih (bs (restL s.data.toList boxP)) (by rw [bs_size]; omega) (by omega)
     rw [bs_list] at c3
     have eP : plainL s.data.toList = (match plainL (restL s.data.toList boxP) with | none => none | some k => if k = 8 then none else some (k + 1)) := by
      conv => lhs; rw [e1]
      exact plainL_box _
     rw [eP]
     have hle : ∀ k, plainL (restL s.data.toList boxP) = some k → k ≤ 8 := fun k h => plainL_le h
     clear hi hnm hl hr ih e1 e2 eP
     generalize restL s.data.toList boxP = r at c2 c3 hle ⊢
     cases hp : plainL r with
     | none =>
      rw [hp] at c3
      simp only [plainV, Option.getD_none, Option.isSome_none] at c3 ⊢
      clear hp hle
      go_enter Tryz.func103, Tryz.ntmps103
      go_wp2_with (first | (go_at_call 44; refine (c1 _).mono ?_; rintro e w' ⟨rfl, hq⟩; have hb := hidIt (below_next hb.out hq); clear hq) | (go_at_call 139; refine (c2 _).mono ?_; rintro e w' ⟨rfl, rfl⟩) | (go_at_call 103; refine (c3 _).mono ?_; rintro e w' ⟨rfl, hq⟩; have hb := hidIt (below_next hb.out hq); clear hq))
      (try simp only [Exit.inBlock, Exit.then])
      refine bodyPost_ret (by simp [results, Tryz.results103, go_sem]; try rfl) rfl ?_
      exact ⟨rfl, hb.out⟩
     | some k =>
      have hk := hle k hp
      rw [hp] at c3
      simp only [plainV, Option.getD_some, Option.isSome_some] at c3
      clear hp hle
      by_cases h8 : k = 8
      · subst h8
        go_enter Tryz.func103, Tryz.ntmps103
        go_wp2_with (first | (go_at_call 44; refine (c1 _).mono ?_; rintro e w' ⟨rfl, hq⟩; have hb := hidIt (below_next hb.out hq); clear hq) | (go_at_call 139; refine (c2 _).mono ?_; rintro e w' ⟨rfl, rfl⟩) | (go_at_call 103; refine (c3 _).mono ?_; rintro e w' ⟨rfl, hq⟩; have hb := hidIt (below_next hb.out hq); clear hq))
        (try simp only [Exit.inBlock, Exit.then])
        refine bodyPost_ret (by simp [results, Tryz.results103, go_sem]; try rfl) rfl ?_
        exact ⟨rfl, hb.out⟩
      · have h8' : ((k : Int) == 8) = false := by simp; omega
        have hk' : (k : Int) ≤ 8 := by omega
        simp only
        rw [if_neg h8]
        clear h8
        go_enter Tryz.func103, Tryz.ntmps103
        go_wp2_with (first | (go_at_call 44; refine (c1 _).mono ?_; rintro e w' ⟨rfl, hq⟩; have hb := hidIt (below_next hb.out hq); clear hq) | (go_at_call 139; refine (c2 _).mono ?_; rintro e w' ⟨rfl, rfl⟩) | (go_at_call 103; refine (c3 _).mono ?_; rintro e w' ⟨rfl, hq⟩; have hb := hidIt (below_next hb.out hq); clear hq))
        (try simp only [Exit.inBlock, Exit.then])
        refine bodyPost_ret (by simp [results, Tryz.results103, go_sem]; try rfl) rfl ?_
        exact ⟨rfl, hb.out⟩
  · rw [plainL_leaf hl]
    exact rplain_leaf s (by omega) hl w
end Go.Proofs.YtlppbgmcoknliaaGreatDoor
namespace Go.Proofs.YtlppbgmcoknliaaGreatDoor
set_option linter.unusedVariables false
open Go.RowKit

/-- Is it a plain type with that in front? -/
def lentB (l P : List UInt8) : Bool := restB l P && (plainL (restL l P)).isSome
theorem rest_app {P r : List UInt8} (hP : P.length = 4) : restB (P ++ r) P = decide (0 < r.length) := by
 unfold restB
 rw [pre_app, Bool.true_and, List.length_append, hP]
 exact decide_eq_decide.2 (by omega)
theorem lent_app {P r : List UInt8} (hP : P.length = 4) : lentB (P ++ r) P = (plainL r).isSome := by
 unfold lentB
 rw [rest_app hP]
 cases r with
 | nil => rw [plainL_nil]; rfl
 | cons b r =>
  have h : restB (P ++ b :: r) P = true := by rw [rest_app hP]; simp
  have : restL (P ++ b :: r) P = b :: r := by unfold restL; rw [if_pos h, drop4 hP]
  rw [this]
  simp
theorem lent_no {l P : List UInt8} (h : Lib.hasPrefix l P = false) : lentB l P = false := by
 unfold lentB restB
 rw [h, Bool.false_and, Bool.false_and]
theorem kind_plain {l : List UInt8} {k : Nat} (h : plainL l = some k) : kindL l = if leafL l = 0 then 3 else leafL l := by
 unfold kindL
 rcases ways l with hl | ⟨r, rfl⟩ | ⟨r, rfl⟩ | ⟨r, rfl⟩ | ⟨h0, h1, h2, h3⟩
 · rw [split_leaf hl, if_neg hl]
 · rw [split_box, if_neg (by rw [h]; simp), leaf_box, if_pos rfl]
 · rw [plainL_ref] at h; cases h
 · rw [plainL_mut] at h; cases h
 · rw [plainL_none h1 h0] at h; cases h
theorem kind_other {l : List UInt8} (h : plainL l = none) : kindL l = if lentB l refP then 4 else if lentB l mutP then 5 else 0 := by
 unfold kindL
 rcases ways l with hl | ⟨r, rfl⟩ | ⟨r, rfl⟩ | ⟨r, rfl⟩ | ⟨h0, h1, h2, h3⟩
 · rw [plainL_leaf hl] at h; cases h
 · rw [split_box, if_pos h, lent_no (pre_ref_box r), lent_no (pre_mut_box r)]
   rfl
 · rw [split_ref, lent_app rfl, lent_no (pre_mut_ref r)]
   cases plainL r <;> rfl
 · rw [split_mut, lent_app rfl, lent_no (pre_ref_mut r)]
   cases plainL r <;> rfl
 · rw [split_none h0 h1 h2 h3, lent_no h2, lent_no h3]
   rfl

def lentV : Array Value := #[.string ⟨#[114, 101, 102]⟩, .string ⟨#[109, 117, 116]⟩]
theorem lents_at {w : World} {B : Nat} (h : w.heap[B]? = some (.cells lentV 9 (0, 0))) :
 w.cell? ⟨B, 0, none⟩ = some (.string ⟨#[114, 101, 102]⟩) ∧ w.cell? ⟨B, 1, none⟩ = some (.string ⟨#[109, 117, 116]⟩) := ⟨cell_at h 0, cell_at h 1⟩
theorem lents_on {w w' : World} {B : Nat} (h : w.heap[B]? = some (.cells lentV 9 (0, 0))) (hb : Below w.heap.size w w') : w'.heap[B]? = some (.cells lentV 9 (0, 0)) := heap_on h hb
theorem rest_size {l P : List UInt8} : (restL l P).length ≤ l.length := by
 unfold restL
 split
 · rw [List.length_drop]; omega
 · simp

set_option maxHeartbeats 1000000 in
theorem rkind_plain (s : ByteArray) (hs : s.size ≤ 1048576) (k : Nat) (h : plainL s.data.toList = some k) (w : World) :
 Calls Tryz.prog 104 #[.string s] w fun e w' => e = .returned (.int .i64 (kindL s.data.toList : Nat)) ∧ Below w.heap.size w w' := by
 have c1 := rplain_any 1048576 s hs (by decide)
 have c2 := rname_any s (by omega)
 have hb := hidIt (Below.refl w.heap.size w)
 rw [kind_plain h]
 rw [h] at c1
 simp only [plainV, Option.getD_some, Option.isSome_some] at c1
 have hk : (k : Int) ≤ 8 := by have := plainL_le h; omega
 clear h
 unfold leafL
 by_cases hi : s.data.toList = intL
 · have hb1 : (s.toList == [105, 110, 116]) = true := by rw [ByteArray.toList_eq, hi]; rfl
   rw [if_pos hi]
   clear hi
   go_enter Tryz.func104, Tryz.ntmps104
   go_wp2_with (first | (go_at_call 103; refine (c1 _).mono ?_; rintro e w' ⟨rfl, hq⟩; have hb := hidIt (below_next hb.out hq); clear hq))
   go_ret
   exact ⟨rfl, hb.out⟩
 · have hb1 : (s.toList == [105, 110, 116]) = false := by rw [ByteArray.toList_eq]; simpa [intL] using hi
   rw [if_neg hi]
   clear hi
   generalize nameB s.data.toList = n at c2 ⊢
   cases n
   · go_enter Tryz.func104, Tryz.ntmps104
     go_wp2_with (first | (go_at_call 103; refine (c1 _).mono ?_; rintro e w' ⟨rfl, hq⟩; have hb := hidIt (below_next hb.out hq); clear hq) | (go_at_call 44; refine (c2 _).mono ?_; rintro e w' ⟨rfl, hq⟩; have hb := hidIt (below_next hb.out hq); clear hq))
     go_ret
     exact ⟨rfl, hb.out⟩
   · go_enter Tryz.func104, Tryz.ntmps104
     go_wp2_with (first | (go_at_call 103; refine (c1 _).mono ?_; rintro e w' ⟨rfl, hq⟩; have hb := hidIt (below_next hb.out hq); clear hq) | (go_at_call 44; refine (c2 _).mono ?_; rintro e w' ⟨rfl, hq⟩; have hb := hidIt (below_next hb.out hq); clear hq))
     go_ret
     exact ⟨rfl, hb.out⟩

set_option maxHeartbeats 2000000 in
theorem rkind_other (s : ByteArray) (hs : s.size ≤ 1048576) (h : plainL s.data.toList = none) (w : World) :
 Calls Tryz.prog 104 #[.string s] w fun e w' => e = .returned (.int .i64 (kindL s.data.toList : Nat)) ∧ Below w.heap.size w w' := by
 have c1 := rplain_any 1048576 s hs (by decide)
 have hb := hidIt (Below.refl w.heap.size w)
 rw [kind_other h]
 rw [h] at c1
 simp only [plainV, Option.getD_none, Option.isSome_none] at c1
 clear h
 have r0 := rest_ref s (by omega)
 have r1 := rest_mut s (by omega)
 have p0 := rplain_any 1048576 (bs (restL s.data.toList refP)) (by rw [bs_size]; have := rest_size (l := s.data.toList) (P := refP); rw [← size_list] at this; omega) (by decide)
 have p1 := rplain_any 1048576 (bs (restL s.data.toList mutP)) (by rw [bs_size]; have := rest_size (l := s.data.toList) (P := mutP); rw [← size_list] at this; omega) (by decide)
 rw [bs_list] at p0 p1
 unfold lentB
 unfold plainV at p0 p1
 generalize plainL (restL s.data.toList refP) = o0 at p0 ⊢
 generalize plainL (restL s.data.toList mutP) = o1 at p1 ⊢
 generalize restL s.data.toList refP = l0 at r0 p0
 generalize restL s.data.toList mutP = l1 at r1 p1
 generalize restB s.data.toList refP = b0 at r0 ⊢
 generalize restB s.data.toList mutP = b1 at r1 ⊢
 generalize o0.getD 0 = n0 at p0
 generalize o1.getD 0 = n1 at p1
 generalize o0.isSome = i0 at p0 ⊢
 generalize o1.isSome = i1 at p1 ⊢
 obtain ⟨N, hN0⟩ : ∃ N : Nat, (if (b0 && i0) = true then 4 else if (b1 && i1) = true then 5 else 0) = N := ⟨_, rfl⟩
 rw [hN0]
 have hN := hidIt hN0
 clear hN0
 have R0 := hidIt r0
 have R1 := hidIt r1
 have P0 := hidIt p0
 have P1 := hidIt p1
 clear r0 r1 p0 p1
 go_enter Tryz.func104, Tryz.ntmps104
 go_wp2_with (go_at_call 103; refine (c1 _).mono ?_)
 rintro e w0 ⟨rfl, hq⟩
 have hb := hidIt (below_next hb.out hq)
 clear hq c1
 have hst := hidIt (below_next hb.out (below_new w0 (.cells lentV 9 (0, 0))))
 have hsh : Hid ((w0.alloc (.cells lentV 9 (0, 0))).heap[w0.heap.size]? = some (.cells lentV 9 (0, 0))) := hidIt (heap_alloc_new w0 _)
 go_wp2
 go_loopw [6] (fun i wr => ∃ k : Nat, k ≤ 2 ∧ i = .int .i64 k ∧ Hid ((0 < k → (b0 && i0) = false) ∧ (1 < k → (b1 && i1) = false)) ∧ Hid (wr.heap[w0.heap.size]? = some (.cells lentV 9 (0, 0))) ∧ Hid (Below w.heap.size w wr)) (fun i _ => 2 - (intOf i).toNat)
 case atStart => exact ⟨0, by omega, rfl, hidIt ⟨fun h => by omega, fun h => by omega⟩, hsh, hst⟩
 case round =>
  clear hb hst hsh
  obtain ⟨k, hk, rfl, hf, hh, hb⟩ := hrel
  obtain ⟨q0, q1⟩ := lents_at hh.out
  have hcase : k = 0 ∨ k = 1 ∨ k = 2 := by omega
  rcases hcase with rfl | rfl | rfl
  · have r0 := R0.out
    have p0 := P0.out
    clear R0 R1 P0 P1
    cases b0 <;> cases i0
    all_goals
     go_wp2_with (first | (go_at_call 139; refine (r0 _).mono ?_; rintro e w' ⟨rfl, rfl⟩) | (go_at_call 103; refine (p0 _).mono ?_; rintro e w' ⟨rfl, hq⟩; have hh := hidIt (lents_on hh.out hq); have hb := hidIt (below_next hb.out hq); clear hq; obtain ⟨q0, q1⟩ := lents_at hh.out))
     first
      | (go_roundw
         case rel => exact ⟨1, by omega, rfl, hidIt ⟨fun _ => rfl, fun h => by omega⟩, hh, hb⟩
         case measure => simp [intOf])
      | (obtain rfl : 4 = N := hN.out
         go_ret
         exact ⟨rfl, hb.out⟩)
  · have r1 := R1.out
    have p1 := P1.out
    have f0 := hidIt (hf.out.1 (by omega))
    clear R0 R1 P0 P1
    cases b1 <;> cases i1
    all_goals
     go_wp2_with (first | (go_at_call 139; refine (r1 _).mono ?_; rintro e w' ⟨rfl, rfl⟩) | (go_at_call 103; refine (p1 _).mono ?_; rintro e w' ⟨rfl, hq⟩; have hh := hidIt (lents_on hh.out hq); have hb := hidIt (below_next hb.out hq); clear hq; obtain ⟨q0, q1⟩ := lents_at hh.out))
     first
      | (go_roundw
         case rel => exact ⟨2, by omega, rfl, hidIt ⟨fun _ => f0.out, fun h => rfl⟩, hh, hb⟩
         case measure => simp [intOf])
      | (obtain rfl : 5 = N := by have := hN.out; rw [f0.out] at this; exact this
         go_ret
         exact ⟨rfl, hb.out⟩)
  · have f0 := hf.out.1 (by omega)
    have f1 := hf.out.2 (by omega)
    obtain rfl : 0 = N := by have := hN.out; rw [f0, f1] at this; exact this
    clear f0 f1 R0 R1 P0 P1
    go_wp2
    go_ret
    exact ⟨rfl, hb.out⟩

theorem rkind_any (s : ByteArray) (hs : s.size ≤ 1048576) (w : World) :
 Calls Tryz.prog 104 #[.string s] w fun e w' => e = .returned (.int .i64 (kindL s.data.toList : Nat)) ∧ Below w.heap.size w w' := by
 cases h : plainL s.data.toList with
 | none => exact rkind_other s hs h w
 | some k => exact rkind_plain s hs k h w
end Go.Proofs.YtlppbgmcoknliaaGreatDoor
