/-
  The document's own Read of a place; its parts between dots.
-/
import Derived.Test.YtlppbgmcoknliaaGreatDoorPlc
import Derived.Test.YtlppbgmcoknliaaGreatDoorRPl
namespace Go.Proofs.YtlppbgmcoknliaaGreatDoor
set_option linter.unusedVariables false
open Go.RowKit

/-- x ahead of the first one. -/
def conH (x : List UInt8) : List (List UInt8) → List (List UInt8)
  | [] => [x]
  | p :: ps => (x ++ p) :: ps
/-- A text's parts, between its dots. -/
def dotsL : List UInt8 → List (List UInt8)
  | [] => [[]]
  | b :: l => if b = 46 then [] :: dotsL l else conH [b] (dotsL l)
theorem conH_nil : ∀ {l : List (List UInt8)}, l ≠ [] → conH [] l = l
  | [], h => absurd rfl h
  | p :: ps, _ => rfl
theorem conH_conH (x y : List UInt8) : ∀ l : List (List UInt8), conH x (conH y l) = conH (x ++ y) l
  | [] => rfl
  | p :: ps => by simp [conH]
theorem conH_len (x : List UInt8) : ∀ {l : List (List UInt8)}, l ≠ [] → (conH x l).length = l.length
  | [], h => absurd rfl h
  | p :: ps, _ => rfl
theorem conH_ne (x : List UInt8) : ∀ l : List (List UInt8), conH x l ≠ []
  | [], h => by simp [conH] at h
  | p :: ps, h => by simp [conH] at h
theorem dots_ne : ∀ l, dotsL l ≠ []
  | [] => by simp [dotsL]
  | b :: l => by
    unfold dotsL
    split
    · simp
    · exact conH_ne _ _
theorem dots_len : ∀ l : List UInt8, (dotsL l).length ≤ l.length + 1
  | [] => by simp [dotsL]
  | b :: l => by
    have := dots_len l
    unfold dotsL
    split
    · simp only [List.length_cons]; omega
    · rw [conH_len _ (dots_ne l), List.length_cons]; omega
theorem dots_none : ∀ {l : List UInt8}, (46 : UInt8) ∉ l → dotsL l = [l]
  | [], _ => rfl
  | b :: l, h => by
    rw [dotsL, if_neg (by intro e; exact h (by simp [e])), dots_none (fun e => h (by simp [e]))]
    rfl
theorem dots_app : ∀ {x : List UInt8} (l : List UInt8), (46 : UInt8) ∉ x → dotsL (x ++ 46 :: l) = x :: dotsL l
  | [], l, _ => by simp [dotsL]
  | b :: x, l, h => by
    rw [List.cons_append, dotsL, if_neg (by intro e; exact h (by simp [e])), dots_app l (fun e => h (by simp [e]))]
    rfl
theorem dots_index : ∀ l : List UInt8, (Lib.indexByte l 46 = -1 ∧ dotsL l = [l]) ∨ ∃ i : Nat, Lib.indexByte l 46 = i ∧ dotsL l = l.take i :: dotsL (l.drop (i + 1))
  | [] => .inl ⟨rfl, rfl⟩
  | b :: l => by
    by_cases hb : b = 46
    · subst hb
      exact .inr ⟨0, by simp [Lib.indexByte], by simp [dotsL]⟩
    · have hb' : (b == 46) = false := by simpa using hb
      rcases dots_index l with ⟨h1, h2⟩ | ⟨i, h1, h2⟩
      · refine .inl ⟨by simp [Lib.indexByte, hb', h1], ?_⟩
        rw [dotsL, if_neg hb, h2]
        rfl
      · refine .inr ⟨i + 1, ?_, ?_⟩
        · have : ¬ ((i : Int) = -1) := by omega
          simp [Lib.indexByte, hb', h1, this]
        · rw [dotsL, if_neg hb, h2]
          rfl
theorem splitK_dots : ∀ (k : Nat) (l : List UInt8), (dotsL l).length ≤ k + 1 → Lib.splitK [46] 0 k l = dotsL l
  | 0, l, h => by
    rcases dots_index l with ⟨_, h2⟩ | ⟨i, _, h2⟩
    · rw [h2]; rfl
    · have := List.length_pos_iff.2 (dots_ne (l.drop (i + 1)))
      rw [h2, List.length_cons] at h
      omega
  | k + 1, l, h => by
    rcases dots_index l with ⟨h1, h2⟩ | ⟨i, h1, h2⟩
    · rw [Lib.splitK, if_pos (by rw [Lib.index_one, h1]; rfl), h2]
    · have hne : ¬ ((i : Int) == -1) = true := by intro e; have := beq_iff_eq.1 e; omega
      rw [Lib.splitK, Lib.index_one, h1, if_neg hne, h2]
      rw [h2, List.length_cons] at h
      have := splitK_dots k (l.drop (i + 1)) (by omega)
      simp only [Int.toNat_natCast, Nat.add_zero, List.length_cons, List.length_nil, Nat.zero_add]
      rw [this]
theorem splitK_more : ∀ (k : Nat) (l : List UInt8), k + 1 < (dotsL l).length → (Lib.splitK [46] 0 k l).length = k + 1
  | 0, l, h => rfl
  | k + 1, l, h => by
    rcases dots_index l with ⟨h1, h2⟩ | ⟨i, h1, h2⟩
    · rw [h2] at h
      simp at h
    · have hne : ¬ ((i : Int) == -1) = true := by intro e; have := beq_iff_eq.1 e; omega
      rw [Lib.splitK, Lib.index_one, h1, if_neg hne]
      rw [h2, List.length_cons] at h
      have := splitK_more k (l.drop (i + 1)) (by omega)
      simp only [Int.toNat_natCast, Nat.add_zero, List.length_cons, List.length_nil, Nat.zero_add]
      rw [this]

def partsF (s : ByteArray) : List ByteArray := (dotsL s.data.toList).map bs
/-- The place of a text, by all of its parts. -/
def readF (s : ByteArray) : PlaceD := ⟨(partsF s).headD ⟨#[]⟩, (partsF s).tail⟩
theorem partsD_list (s : ByteArray) : (partsD s).map (·.data.toList) = Lib.splitK [46] 0 (min 10 (s.size + 1) - 1) s.data.toList := Lib.splitB_data _ _ _ _
theorem long_not {p : PlaceD} (h : 8 < p.steps.length) : placeR p = false := by
  unfold placeR everyL
  rw [decide_eq_false (show ¬ (p.steps.length : Int) ≤ 8 by omega)]
  simp
theorem partsD_eq {s : ByteArray} (h : (dotsL s.data.toList).length ≤ min 10 (s.size + 1) - 1 + 1) : partsD s = partsF s := by
  have h1 := partsD_list s
  rw [splitK_dots _ _ h] at h1
  unfold partsF
  rw [← h1, List.map_map]
  conv => lhs; rw [← List.map_id (partsD s)]
  exact List.map_congr_left fun x _ => (bs_of x).symm
theorem read_same (s : ByteArray) : placeR (readD s) = placeR (readF s) ∧ (placeR (readF s) = true → readD s = readF s) := by
  by_cases h : (dotsL s.data.toList).length ≤ min 10 (s.size + 1) - 1 + 1
  · have e : readD s = readF s := by unfold readD readF; rw [partsD_eq h]
    exact ⟨by rw [e], fun _ => e⟩
  · have hl := dots_len s.data.toList
    have hz : s.data.toList.length = s.size := (size_list s).symm
    have h2 := congrArg List.length (partsD_list s)
    rw [splitK_more _ _ (by omega), List.length_map] at h2
    have e1 : placeR (readD s) = false := long_not (by unfold readD; simp only [List.length_tail]; omega)
    have e2 : placeR (readF s) = false := long_not (by unfold readF partsF; simp only [List.length_tail, List.length_map]; omega)
    rw [e1, e2]
    exact ⟨rfl, fun h => by cases h⟩
theorem partsF_fit (s : ByteArray) : ∀ x ∈ partsF s, x.size ≤ s.size := by
  have key : ∀ l : List UInt8, ∀ x ∈ dotsL l, x.length ≤ l.length := by
    intro l
    induction l with
    | nil => intro x hx; simp [dotsL] at hx; rw [hx]; exact Nat.le_refl _
    | cons b l ih =>
      intro x hx
      unfold dotsL at hx
      split at hx
      · rcases List.mem_cons.1 hx with rfl | hx
        · simp
        · have := ih x hx; simp only [List.length_cons]; omega
      · cases hd : dotsL l with
        | nil => exact absurd hd (dots_ne l)
        | cons p q =>
          rw [hd] at hx ih
          rcases List.mem_cons.1 hx with rfl | hx
          · have := ih p (by simp)
            simp only [List.length_append, List.length_cons, List.length_nil]
            omega
          · have := ih x (by simp [hx]); simp only [List.length_cons]; omega
  intro x hx
  obtain ⟨y, hy, rfl⟩ := List.mem_map.1 hx
  rw [bs_size, size_list]
  exact key _ y hy
theorem St.set2 {W : World} {B g o : Nat} {xs : List ByteArray} {u v : Value} (h : St W (some ⟨g, o, none⟩) xs) (hne : g ≠ B) : St ((W.setCell ⟨B, 0, none⟩ u).setCell ⟨B, 1, none⟩ v) (some ⟨g, o, none⟩) xs := by
  refine ⟨h.len, Sl.big h, ?_⟩
  rcases Sl.at_ h with h0 | ⟨b, off, e, hlt, hcell⟩
  · exact .inl h0
  · refine .inr ⟨b, off, e, by rw [World.size_setCell, World.size_setCell]; exact hlt, fun j r i x hr hx => ?_⟩
    cases e
    rw [World.cell?_setCell_far _ _ _ _ (fun e => hne e.symm), World.cell?_setCell_far _ _ _ _ (fun e => hne e.symm)]
    exact hcell j r i x hr hx
/-- How far Read is: what lies in its parts, and what is still to come. -/
structure RI (w : World) (s : ByteArray) (v : Value) (P : List ByteArray) (f k : Nat) (W : World) : Prop where
  own : W.ownsRow (w.heap.size + 1) 9 1 v P.length (P.map Value.string)
  bel : Below w.heap.size w W
  box : W.heap[w.heap.size]? = some (.cells #[.string ⟨#[]⟩, .slice none 0 0] 24 (0, 0))
  len : P.length ≤ k
  par : k ≤ s.size → partsF s = P ++ (conH ((s.data.toList.drop f).take (k - f)) (dotsL (s.data.toList.drop k))).map bs
  done : s.size < k → partsF s = P
theorem ext_list (s : ByteArray) (f k : Nat) : s.extract f k = bs ((s.data.toList.drop f).take (k - f)) := by
  refine ByteArray.ext (Array.ext' ?_)
  rw [Lib.extract_data]
  rfl
theorem take_next (l : List UInt8) {f k : Nat} (hf : f ≤ k) {b : UInt8} (h : l[k]? = some b) : (l.drop f).take (k + 1 - f) = (l.drop f).take (k - f) ++ [b] := by
  rw [show k + 1 - f = k - f + 1 by omega, List.take_add_one, List.getElem?_drop, show f + (k - f) = k by omega, h]
  rfl
theorem RI.skip {w W : World} {s : ByteArray} {v : Value} {P : List ByteArray} {f k : Nat} (h : RI w s v P f k W) (hf : f ≤ k) (hlt : k < s.size) (hb : s[k]'hlt ≠ 46) : RI w s v P f (k + 1) W := by
  refine ⟨h.own, h.bel, h.box, Nat.le_trans h.len (Nat.le_succ k), fun _ => ?_, fun h2 => by omega⟩
  have hg : s.data.toList[k]? = some (s[k]'hlt) := by
    rw [Array.getElem?_toList]
    exact Array.getElem?_eq_getElem hlt
  have h1 := h.par (by omega)
  rw [drop_cons s k hlt, dotsL, if_neg hb, conH_conH] at h1
  rw [h1, take_next _ hf hg]
theorem RI.dot {w W W' : World} {s : ByteArray} {v v' : Value} {P : List ByteArray} {f k : Nat} (h : RI w s v P f k W) (hf : f ≤ k) (hk : k ≤ s.size) (hb : ∀ hlt : k < s.size, s[k]'hlt = 46)
    (ho : W'.ownsRow (w.heap.size + 1) 9 1 v' (P.length + 1) (P.map Value.string ++ [.string (s.extract f k)])) (hbel : Below w.heap.size w W') (hbox : W'.heap[w.heap.size]? = some (.cells #[.string ⟨#[]⟩, .slice none 0 0] 24 (0, 0))) : RI w s v' (P ++ [s.extract f k]) (k + 1) (k + 1) W' := by
  have h1 := h.par hk
  refine ⟨by simpa using ho, hbel, hbox, ?_, fun h2 => ?_, fun h2 => ?_⟩
  · rw [List.length_append, List.length_singleton]
    have := h.len
    omega
  · rw [drop_cons s k (by omega), dotsL, if_pos (hb (by omega))] at h1
    rw [h1, Nat.sub_self, List.take_zero, conH_nil (dots_ne _), ext_list]
    simp [conH]
  · have e : k = s.size := by omega
    have e2 : s.data.toList.drop k = [] := by rw [e, size_list, List.drop_length]
    rw [e2] at h1
    rw [h1, ext_list]
    simp [conH, dotsL]

theorem grown_bel {w W w2 : World} {s : ByteArray} {v : Value} {P : List ByteArray} {f k : Nat} {o : Obj} (h : RI w s v P f k W) (hg : (W.alloc o).grownBy w2 v.ownBlock) : Below w.heap.size w w2 :=
  (h.bel.trans ((Below.refl _ W).alloc h.bel.size o)).grown hg (by rw [World.size_alloc]; have := h.bel.size; omega) (fun k hk => by have := (h.own.lt k hk).1; omega)
theorem grown_box {w W w2 : World} {s : ByteArray} {v : Value} {P : List ByteArray} {f k : Nat} {o : Obj} (h : RI w s v P f k W) (hg : (W.alloc o).grownBy w2 v.ownBlock) : w2.heap[w.heap.size]? = some (.cells #[.string ⟨#[]⟩, .slice none 0 0] 24 (0, 0)) := by
  have hlt := (Array.getElem?_eq_some_iff.1 h.box).1
  rw [hg.block w.heap.size (by rw [World.size_alloc]; omega) (fun e => by have := (h.own.lt _ e.symm).1; omega), Below.heap_alloc _ _ _ hlt]
  exact h.box

set_option maxHeartbeats 2000000 in
set_option maxRecDepth 100000 in
theorem read_any (s : ByteArray) (hs : fitS s) (w : World) :
    Calls Tryz.prog 11 #[.string s] w fun e w' => ∃ y : PlaceX, e = .returned (.tuple #[.agg #[.string y.loc, .slice y.sa y.steps.length y.sc], .bool (placeR (readF s))]) ∧ y.d = (if placeR (readF s) = true then readF s else noPlace) ∧ y.steps.length ≤ y.sc ∧ y.At w' ∧ Below w.heap.size w w' := by
  have HS := hidIt hs
  have hs1 : s.size ≤ 1048576 := hs
  clear hs
  obtain ⟨R, hR⟩ : ∃ R, placeR (readF s) = R := ⟨_, rfl⟩
  obtain ⟨D, hD⟩ : ∃ D, (if R = true then readF s else noPlace) = D := ⟨_, rfl⟩
  rw [hR, hD]
  have HR := hidIt hR
  have HD := hidIt hD
  clear hR hD
  have I0 : Hid (RI w s (.slice (some ⟨w.heap.size + 1, 0, none⟩) 0 0) [] 0 0 ((w.alloc (.cells #[.string ⟨#[]⟩, .slice none 0 0] 24)).alloc (.cells #[] 9))) := hidIt (by
    have hh := two_at (w := w) (cs := #[.string ⟨#[]⟩, .slice none 0 0]) (ds := #[]) (t := 24) (u := 9) rfl rfl (Below.refl _ _)
    refine ⟨⟨rfl, .inr ⟨w.heap.size + 1, 0, #[], rfl, Nat.le_refl _, hh.2, Nat.le_refl _, Nat.zero_le _, rfl, rfl⟩⟩, below_next (below_new w _) (below_new _ _), hh.1, Nat.le_refl _, fun _ => ?_, fun h => by omega⟩
    simp only [Nat.sub_zero, List.take_zero, List.drop_zero, List.nil_append]
    rw [conH_nil (dots_ne _)]
    rfl)
  obtain ⟨i0, hi, hz0, hz1, hz2⟩ := info_parts info9
  go_enter Tryz.func11, Tryz.ntmps11
  go_wp2_with fail
  generalize (w.alloc (.cells #[.string ⟨#[]⟩, .slice none 0 0] 24)).alloc (.cells #[] 9) = W0 at I0 ⊢
  go_loopg [4, 5, 6] (s.size + 1) (fun g s4 s5 s6 wr => ∃ (k f : Nat) (v : Value) (P : List ByteArray), k ≤ s.size + 1 ∧ f ≤ k ∧ s.size + 1 - k ≤ g ∧ s4 = v ∧ s5 = .int .i64 f ∧ s6 = .int .i64 k ∧ Hid (RI w s v P f k wr))
  case atStart => exact ⟨0, 0, _, [], Nat.zero_le _, Nat.le_refl _, by omega, rfl, rfl, rfl, I0⟩
  case round =>
    clear I0
    obtain ⟨k, f, v, P, hk, hf, hg, rfl, rfl, rfl, I⟩ := hrel
    by_cases hle : k ≤ s.size
    · have hle2 : (k : Int) ≤ (s.size : Int) := by omega
      have hPl := I.out.len
      have hf0 : f ≤ s.size := by omega
      by_cases he : k = s.size
      · have he1 : ((k : Int) == (s.size : Int)) = true := by simp; omega
        have hB : Hid (∀ hlt : k < s.size, s[k]'hlt = 46) := hidIt (fun hlt => by omega)
        clear he
        go_wp2_with (at_builtin; go_must (refine wpList_append_own _ rfl _ _ 22 rfl (w.heap.size + 1) 9 i0 _ 1 16 Tryz.underlying22 hi hz0 hz1 hz2 rfl (by decide) _ _ _ rfl (I.out.own.alloc _) ⟨wr.heap.size, 0, none⟩ 1 1 [.string (s.extract f k)] rfl rfl (cell_one_new _ _ _) (by simp [Value.oneCell']) (by unfold maxLen; omega) (by omega) ?q1 ?_))
        case q1 => have := I.out.bel.size; have := (Array.getElem?_eq_some_iff.1 I.out.box).1; rw [World.size_alloc]; omega
        intro v2 w2 hown2 hgrow _
        have I2 : Hid (RI w s v2 (P ++ [s.extract f k]) (k + 1) (k + 1) w2) := hidIt (I.out.dot hf hle hB.out (by simpa using hown2) (grown_bel I.out hgrow) (grown_box I.out hgrow))
        clear hown2 hgrow I hB
        go_wp2_with fail
        go_roundg (s.size + 1 - (k + 1))
        case measure => omega
        case rel => exact ⟨k + 1, k + 1, _, _, by omega, Nat.le_refl _, Nat.le_refl _, rfl, by go_num, by go_num, I2⟩
      · have he1 : ((k : Int) == (s.size : Int)) = false := by simp; omega
        have hlt : k < s.size := by omega
        clear he
        by_cases hb : s[k]'hlt = 46
        · have hb1 : (((s[k]'hlt).toNat : Int) == 46) = true := by rw [hb]; rfl
          have hB : Hid (∀ hlt : k < s.size, s[k]'hlt = 46) := hidIt (fun _ => hb)
          clear hb
          go_wp2_with (at_builtin; go_must (refine wpList_append_own _ rfl _ _ 22 rfl (w.heap.size + 1) 9 i0 _ 1 16 Tryz.underlying22 hi hz0 hz1 hz2 rfl (by decide) _ _ _ rfl (I.out.own.alloc _) ⟨wr.heap.size, 0, none⟩ 1 1 [.string (s.extract f k)] rfl rfl (cell_one_new _ _ _) (by simp [Value.oneCell']) (by unfold maxLen; omega) (by omega) ?q1 ?_))
          case q1 => have := I.out.bel.size; have := (Array.getElem?_eq_some_iff.1 I.out.box).1; rw [World.size_alloc]; omega
          intro v2 w2 hown2 hgrow _
          have I2 : Hid (RI w s v2 (P ++ [s.extract f k]) (k + 1) (k + 1) w2) := hidIt (I.out.dot hf hle hB.out (by simpa using hown2) (grown_bel I.out hgrow) (grown_box I.out hgrow))
          clear hown2 hgrow I hB
          go_wp2_with fail
          go_roundg (s.size + 1 - (k + 1))
          case measure => omega
          case rel => exact ⟨k + 1, k + 1, _, _, by omega, Nat.le_refl _, Nat.le_refl _, rfl, by go_num, by go_num, I2⟩
        · have hb1 : (((s[k]'hlt).toNat : Int) == 46) = false := by
            simp only [beq_eq_false_iff_ne]
            intro e
            exact hb (UInt8.toNat.inj (by show (s[k]'hlt).toNat = 46; omega))
          have I2 := hidIt (I.out.skip hf hlt hb)
          clear hb I
          go_wp2_with fail
          go_roundg (s.size + 1 - (k + 1))
          case measure => omega
          case rel => exact ⟨k + 1, f, _, P, by omega, by omega, Nat.le_refl _, rfl, rfl, by go_num, I2⟩
    · have hle2 : ¬ (k : Int) ≤ (s.size : Int) := by omega
      clear hi hz0 hz1 hz2
      have eP := I.out.done (by omega)
      have hne := dots_ne s.data.toList
      obtain ⟨q0, ps, rfl⟩ : ∃ q0 ps, P = q0 :: ps := by
        cases P with
        | nil => exact absurd (List.map_eq_nil_iff.1 eP) hne
        | cons a l => exact ⟨a, l, rfl⟩
      have HRF : Hid (readF s = ⟨q0, ps⟩) := hidIt (by unfold readF; rw [eP]; rfl)
      have HR2 : Hid (placeR ⟨q0, ps⟩ = R) := hidIt (by rw [← HRF.out]; exact HR.out)
      have HF : Hid (PlaceD.Fit ⟨q0, ps⟩) := hidIt (by
        have h1 : ∀ x ∈ q0 :: ps, fitS x := fun x hx => by
          rw [← eP] at hx
          exact Nat.le_trans (partsF_fit s x hx) HS.out
        exact ⟨h1 q0 (by simp), fun x hx => h1 x (by simp [hx])⟩)
      have hlen := I.out.len
      obtain ⟨m, hm0⟩ : ∃ m, ps.length = m := ⟨_, rfl⟩
      have hm := hidIt hm0
      rw [List.length_cons, hm0] at hlen
      rcases I.out.own.2 with ⟨_, h0⟩ | ⟨g, cap, cur, rfl, hB, hh, hnc, hcm, hcs, htk⟩
      · simp at h0
      have HC : Hid (∀ (j : Nat) (x : ByteArray), (q0 :: ps)[j]? = some x → wr.cell? ⟨g, j, none⟩ = some (.string x)) := hidIt (fun j x hj => by
        have h1 : ((q0 :: ps).map Value.string)[j]? = some (.string x) := by rw [List.getElem?_map, hj]; rfl
        rw [← htk, List.getElem?_take] at h1
        split at h1
        · rw [cell_at hh, ← Array.getElem?_toList]; exact h1
        · cases h1)
      have p0 : wr.cell? ⟨g, 0, none⟩ = some (.string q0) := HC.out 0 q0 rfl
      have HG : Hid (g < wr.heap.size) := hidIt (Array.getElem?_eq_some_iff.1 hh).1
      have HAB : Hid (g ≠ w.heap.size) := hidIt (by omega)
      have hwb : w.heap.size < wr.heap.size := (Array.getElem?_eq_some_iff.1 I.out.box).1
      rw [List.length_cons, hm0] at hnc
      clear eP hne hh hcs htk hB
      simp only [List.length_cons, hm0]
      clear hm0
      unfold maxLen at hcm
      by_cases hc1 : cap = 1
      · subst hc1
        obtain rfl : m = 0 := by omega
        have hmc : Hid (0 ≤ 0) := hidIt (Nat.le_refl _)
        have hst : Hid (St wr (some ⟨g, 0, none⟩) ps) := hidIt (by
          have e : ps = [] := List.length_eq_zero_iff.1 hm.out
          rw [e]
          exact St.nil)
        clear HC
        have HBX := hidIt I.out.box
        have HBL := hidIt I.out.bel
        clear I
        have hgl := HG.out
        have hgn : g ≠ wr.heap.size := by omega
        have hm1 : (1 : Int) ≤ ((0 : Nat) : Int) + 1 := by omega
        go_wp2_with fail
        go_region
        clear hgl hgn hm1
        have hb2 := hidIt (below_next HBL.out (below_new wr (.cells #[.string q0, .slice (some ⟨g, 0, none⟩) 0 0] 24)).drew)
        have HA := hidIt (heap_alloc_new wr (.cells #[.string q0, .slice (some ⟨g, 0, none⟩) 0 0] 24))
        have HB := hidIt (heap_on HBX.out (below_new wr (.cells #[.string q0, .slice (some ⟨g, 0, none⟩) 0 0] 24)).drew)
        have hst := hidIt (St.on hst.out (below_new wr (.cells #[.string q0, .slice (some ⟨g, 0, none⟩) 0 0] 24)).drew)
        clear HBX HBL p0
        obtain ⟨b, hb0⟩ : ∃ b, b = wr.heap.size := ⟨_, rfl⟩
        have HA : Hid ((wr.alloc (.cells #[.string q0, .slice (some ⟨g, 0, none⟩) 0 0] 24)).drew.heap[b]? = some (.cells #[.string q0, .slice (some ⟨g, 0, none⟩) 0 0] 24 (0, 0))) := hidIt (by rw [hb0]; exact HA.out)
        rw [← hb0]
        have hlt : Hid (w.heap.size ≠ b) := hidIt (by rw [hb0]; omega)
        clear hb0
        generalize (wr.alloc (.cells #[.string q0, .slice (some ⟨g, 0, none⟩) 0 0] 24)).drew = W2 at hb2 HA HB hst ⊢
        have p0 : W2.cell? ⟨b, 0, none⟩ = some (.string q0) := cell_at HA.out 0
        have p1 : W2.cell? ⟨b, 1, none⟩ = some (.slice (some ⟨g, 0, none⟩) 0 0) := cell_at HA.out 1
        have c18 : Hid (Calls Tryz.prog 18 #[.agg #[.string q0, .slice (some ⟨g, 0, none⟩) 0 0]] W2 fun e w' => e = .returned (.bool R) ∧ Below W2.heap.size W2 w') := hidIt (by
          have := docplace_any ⟨q0, (some ⟨g, 0, none⟩), 0, ps⟩ W2 hst.out HF.out
          simp only [hm.out] at this
          rw [← HR2.out]
          exact this)
        cases R with
        | false =>
          obtain rfl : noPlace = D := HD.out
          go_wp2_with (go_at_call 18; refine c18.out.mono ?_)
          rintro e w3 ⟨he3, hq3⟩
          subst he3
          have H3 := hidIt (heap_on HB.out hq3)
          have hb3 := hidIt (below_next hb2.out hq3)
          clear p0 p1 hq3 c18 HA HB
          have r0 : w3.cell? ⟨w.heap.size, 0, none⟩ = some (.string ⟨#[]⟩) := cell_at H3.out 0
          have r1 : w3.cell? ⟨w.heap.size, 1, none⟩ = some (.slice none 0 0) := cell_at H3.out 1
          have u0 : w3.frozen? ⟨w.heap.size, 0, none⟩ = false := frozen_at H3.out 0
          have u1 : w3.frozen? ⟨w.heap.size, 1, none⟩ = false := frozen_at H3.out 1
          go_wp2
          (try simp only [Exit.inBlock, Exit.then])
          refine bodyPost_ret (show _ = Result.ok (.tuple #[.agg #[.string ⟨#[]⟩, .slice none 0 0], .bool false]) _ by simp [results, Tryz.results11, go_sem, r0, r1]) rfl ?_
          refine ⟨⟨⟨#[]⟩, none, 0, []⟩, rfl, rfl, Nat.le_refl _, St.nil, ?_⟩
          exact (hb3.out.setCell (p := ⟨w.heap.size, 0, none⟩) (Nat.le_refl _) _).setCell (p := ⟨w.heap.size, 1, none⟩) (Nat.le_refl _) _
        | true =>
          obtain rfl : readF s = D := HD.out
          go_wp2_with (go_at_call 18; refine c18.out.mono ?_; rintro e w3 ⟨rfl, hq3⟩; have H3 := hidIt (heap_on HB.out hq3); have H4 := hidIt (heap_on HA.out hq3); have hb3 := hidIt (below_next hb2.out hq3); have hst3 := hidIt (St.on hst.out hq3); clear p0 p1 hq3 c18 HA HB hst; have p0 : w3.cell? ⟨b, 0, none⟩ = some (.string q0) := cell_at H4.out 0; have p1 : w3.cell? ⟨b, 1, none⟩ = some (.slice (some ⟨g, 0, none⟩) 0 0) := cell_at H4.out 1; have r0 : w3.cell? ⟨w.heap.size, 0, none⟩ = some (.string ⟨#[]⟩) := cell_at H3.out 0; have r1 : w3.cell? ⟨w.heap.size, 1, none⟩ = some (.slice none 0 0) := cell_at H3.out 1; have u0 : w3.frozen? ⟨w.heap.size, 0, none⟩ = false := frozen_at H3.out 0; have u1 : w3.frozen? ⟨w.heap.size, 1, none⟩ = false := frozen_at H3.out 1; have hne := hlt.out)
          (try simp only [Exit.inBlock, Exit.then])
          refine bodyPost_ret (show _ = Result.ok (.tuple #[.agg #[.string q0, .slice (some ⟨g, 0, none⟩) 0 0], .bool true]) _ by simp [results, Tryz.results11, go_sem, r0, r1]) rfl ?_
          refine ⟨⟨q0, (some ⟨g, 0, none⟩), 0, ps⟩, by rw [hm.out], by rw [HRF.out]; rfl, by rw [hm.out]; exact hmc.out, ?_, ?_⟩
          · exact St.set2 hst3.out HAB.out
          · exact (hb3.out.setCell (p := ⟨w.heap.size, 0, none⟩) (Nat.le_refl _) _).setCell (p := ⟨w.heap.size, 1, none⟩) (Nat.le_refl _) _
      · have hN2 : ¬ ((cap : Int) = 1) := by omega
        have hN3 : ((1 : Int) ≤ (cap : Int)) := by omega
        have hN4 : ((m + 1 : Nat) : Int) ≤ (cap : Int) := by omega
        have hmc : Hid (m ≤ cap - 1) := hidIt (by omega)
        have hm2 : m ≤ 1048576 := by omega
        have hst : Hid (St wr (some ⟨g, 1, none⟩) ps) := hidIt (by
          refine ⟨fun r hr => by obtain ⟨z, _, rfl⟩ := List.mem_map.1 hr; rfl, by rw [strs_len, hm.out]; exact hm2, .inr ⟨g, 1, rfl, HG.out, fun j r i v hj hi => ?_⟩⟩
          unfold strs at hj
          rw [List.getElem?_map, Option.map_eq_some_iff] at hj
          obtain ⟨x, hx, rfl⟩ := hj
          cases i with
          | zero =>
            simp at hi
            subst hi
            rw [Nat.mul_one, Nat.add_zero]
            exact HC.out (1 + j) x (by rw [Nat.add_comm, List.getElem?_cons_succ]; exact hx)
          | succ i => simp at hi)
        clear HC
        have HBX := hidIt I.out.box
        have HBL := hidIt I.out.bel
        clear I
        have hgl := HG.out
        have hgn : g ≠ wr.heap.size := by omega
        have hm1 : (1 : Int) ≤ (m : Int) + 1 := by omega
        go_wp2_with fail
        go_region
        clear hgl hgn hm1
        have hb2 := hidIt (below_next HBL.out (below_new wr (.cells #[.string q0, .slice (some ⟨g, 1, none⟩) m (cap - 1)] 24)).drew)
        have HA := hidIt (heap_alloc_new wr (.cells #[.string q0, .slice (some ⟨g, 1, none⟩) m (cap - 1)] 24))
        have HB := hidIt (heap_on HBX.out (below_new wr (.cells #[.string q0, .slice (some ⟨g, 1, none⟩) m (cap - 1)] 24)).drew)
        have hst := hidIt (St.on hst.out (below_new wr (.cells #[.string q0, .slice (some ⟨g, 1, none⟩) m (cap - 1)] 24)).drew)
        clear HBX HBL p0
        obtain ⟨b, hb0⟩ : ∃ b, b = wr.heap.size := ⟨_, rfl⟩
        have HA : Hid ((wr.alloc (.cells #[.string q0, .slice (some ⟨g, 1, none⟩) m (cap - 1)] 24)).drew.heap[b]? = some (.cells #[.string q0, .slice (some ⟨g, 1, none⟩) m (cap - 1)] 24 (0, 0))) := hidIt (by rw [hb0]; exact HA.out)
        rw [← hb0]
        have hlt : Hid (w.heap.size ≠ b) := hidIt (by rw [hb0]; omega)
        clear hb0
        generalize (wr.alloc (.cells #[.string q0, .slice (some ⟨g, 1, none⟩) m (cap - 1)] 24)).drew = W2 at hb2 HA HB hst ⊢
        have p0 : W2.cell? ⟨b, 0, none⟩ = some (.string q0) := cell_at HA.out 0
        have p1 : W2.cell? ⟨b, 1, none⟩ = some (.slice (some ⟨g, 1, none⟩) m (cap - 1)) := cell_at HA.out 1
        have c18 : Hid (Calls Tryz.prog 18 #[.agg #[.string q0, .slice (some ⟨g, 1, none⟩) m (cap - 1)]] W2 fun e w' => e = .returned (.bool R) ∧ Below W2.heap.size W2 w') := hidIt (by
          have := docplace_any ⟨q0, (some ⟨g, 1, none⟩), (cap - 1), ps⟩ W2 hst.out HF.out
          simp only [hm.out] at this
          rw [← HR2.out]
          exact this)
        cases R with
        | false =>
          obtain rfl : noPlace = D := HD.out
          go_wp2_with (go_at_call 18; refine c18.out.mono ?_)
          rintro e w3 ⟨he3, hq3⟩
          subst he3
          have H3 := hidIt (heap_on HB.out hq3)
          have hb3 := hidIt (below_next hb2.out hq3)
          clear p0 p1 hq3 c18 HA HB
          have r0 : w3.cell? ⟨w.heap.size, 0, none⟩ = some (.string ⟨#[]⟩) := cell_at H3.out 0
          have r1 : w3.cell? ⟨w.heap.size, 1, none⟩ = some (.slice none 0 0) := cell_at H3.out 1
          have u0 : w3.frozen? ⟨w.heap.size, 0, none⟩ = false := frozen_at H3.out 0
          have u1 : w3.frozen? ⟨w.heap.size, 1, none⟩ = false := frozen_at H3.out 1
          go_wp2
          (try simp only [Exit.inBlock, Exit.then])
          refine bodyPost_ret (show _ = Result.ok (.tuple #[.agg #[.string ⟨#[]⟩, .slice none 0 0], .bool false]) _ by simp [results, Tryz.results11, go_sem, r0, r1]) rfl ?_
          refine ⟨⟨⟨#[]⟩, none, 0, []⟩, rfl, rfl, Nat.le_refl _, St.nil, ?_⟩
          exact (hb3.out.setCell (p := ⟨w.heap.size, 0, none⟩) (Nat.le_refl _) _).setCell (p := ⟨w.heap.size, 1, none⟩) (Nat.le_refl _) _
        | true =>
          obtain rfl : readF s = D := HD.out
          go_wp2_with (go_at_call 18; refine c18.out.mono ?_; rintro e w3 ⟨rfl, hq3⟩; have H3 := hidIt (heap_on HB.out hq3); have H4 := hidIt (heap_on HA.out hq3); have hb3 := hidIt (below_next hb2.out hq3); have hst3 := hidIt (St.on hst.out hq3); clear p0 p1 hq3 c18 HA HB hst; have p0 : w3.cell? ⟨b, 0, none⟩ = some (.string q0) := cell_at H4.out 0; have p1 : w3.cell? ⟨b, 1, none⟩ = some (.slice (some ⟨g, 1, none⟩) m (cap - 1)) := cell_at H4.out 1; have r0 : w3.cell? ⟨w.heap.size, 0, none⟩ = some (.string ⟨#[]⟩) := cell_at H3.out 0; have r1 : w3.cell? ⟨w.heap.size, 1, none⟩ = some (.slice none 0 0) := cell_at H3.out 1; have u0 : w3.frozen? ⟨w.heap.size, 0, none⟩ = false := frozen_at H3.out 0; have u1 : w3.frozen? ⟨w.heap.size, 1, none⟩ = false := frozen_at H3.out 1; have hne := hlt.out)
          (try simp only [Exit.inBlock, Exit.then])
          refine bodyPost_ret (show _ = Result.ok (.tuple #[.agg #[.string q0, .slice (some ⟨g, 1, none⟩) m (cap - 1)], .bool true]) _ by simp [results, Tryz.results11, go_sem, r0, r1]) rfl ?_
          refine ⟨⟨q0, (some ⟨g, 1, none⟩), (cap - 1), ps⟩, by rw [hm.out], by rw [HRF.out]; rfl, by rw [hm.out]; exact hmc.out, ?_, ?_⟩
          · exact St.set2 hst3.out HAB.out
          · exact (hb3.out.setCell (p := ⟨w.heap.size, 0, none⟩) (Nat.le_refl _) _).setCell (p := ⟨w.heap.size, 1, none⟩) (Nat.le_refl _) _
end Go.Proofs.YtlppbgmcoknliaaGreatDoor
