/-
  The walks of what the document's own Right calls: names, places, names with types.
  The walk of the document's own vars: are names with types ones?
-/
import Derived.Test.YtlppbgmcoknliaaGreatDoorRKind2
import Derived.Test.YtlppbgmcoknliaaGreatDoorRPl
import Derived.Test.YtlppbgmcoknliaaGreatDoorKyk
namespace Go.Proofs.YtlppbgmcoknliaaGreatDoor
set_option linter.unusedVariables false
open Go.RowKit

set_option maxHeartbeats 400000 in
theorem docopt_any (s : ByteArray) (h : Bool) (hs : fitS s) (w : World) :
 Calls Tryz.prog 141 #[.string s, .bool h] w fun e w' => e = .returned (.bool (rnameR s h)) ∧ Below w.heap.size w w' := by
 have c1 := rname_any s (fit_le hs)
 cases h with
 | true =>
  unfold rnameR nameS
  generalize nameB s.data.toList = R at c1 ⊢
  go_enter Tryz.func141, Tryz.ntmps141
  go_wp2_with (first | (go_at_call 44; refine (c1 _).mono ?_; rintro e w' ⟨rfl, hq⟩; have hq := hidIt hq))
  go_ret
  exact ⟨rfl, hq.out⟩
 | false =>
  unfold rnameR
  clear c1
  go_enter Tryz.func141, Tryz.ntmps141
  go_wp2
  go_ret
  exact ⟨by show _ = Ending.returned (Value.bool (s.toList == [])); cases s.toList <;> rfl, Below.refl _ _⟩

theorem all_hit {α : Type} {r : α → Bool} {xs : List α} {k : Nat} {x : α} (h : xs[k]? = some x) (hr : r x = false) : xs.all r = false := by
 rw [List.all_eq_false]
 exact ⟨x, List.mem_of_getElem? h, by rw [hr]; decide⟩
theorem all_none {α : Type} {r : α → Bool} {xs : List α} (A : ∀ (j : Nat) (x : α), xs[j]? = some x → r x = true) : xs.all r = true := by
 rw [List.all_eq_true]
 intro x hx
 obtain ⟨j, hj⟩ := List.mem_iff_getElem?.1 hx
 exact A j x hj

set_option maxHeartbeats 2000000 in
set_option maxRecDepth 100000 in
theorem docplaces_any (a : Option Addr) (xs : List PlaceX) (c : Nat) (lo hi : Nat) (w : World) (h : Pls w a xs) (hf : ∀ p ∈ xs, p.d.Fit) (hlo : lo ≤ 100) (hhi : hi ≤ 100) :
 Calls Tryz.prog 140 #[.slice a xs.length c, .int .i64 lo, .int .i64 hi] w fun e w' => e = .returned (.bool (everyL lo hi placeR (xs.map PlaceX.d))) ∧ Below w.heap.size w w' := by
 have hS : Hid (Sl w 2 a (xs.map PlaceX.row)) := hidIt h.1
 have HP := hidIt h.2
 have HF := hidIt hf
 have hbig : xs.length ≤ 1048576 := by have := hS.out.big; rwa [List.length_map] at this
 have ev : everyL (lo : Int) (hi : Int) placeR (xs.map PlaceX.d) = (decide ((lo : Int) ≤ (xs.length : Int)) && (decide ((xs.length : Int) ≤ (hi : Int)) && xs.all fun x => placeR x.d)) := by
  rw [everyL_map]; rfl
 rw [ev]
 clear ev h hf
 obtain ⟨n, hn⟩ : ∃ n, xs.length = n := ⟨_, rfl⟩
 rw [hn] at hbig ⊢
 have HN := hidIt hn
 clear hn
 obtain ⟨R, hR⟩ : ∃ R, (decide ((lo : Int) ≤ (n : Int)) && (decide ((n : Int) ≤ (hi : Int)) && xs.all fun x => placeR x.d)) = R := ⟨_, rfl⟩
 rw [hR]
 have HR := hidIt hR
 clear hR
 go_enter Tryz.func140, Tryz.ntmps140
 go_wp2
 go_loopg [6, 7] n (fun g _ s7 wr => ∃ k : Nat, k ≤ n ∧ n - k ≤ g ∧ s7 = .int .i64 k ∧ Hid (Below w.heap.size w wr) ∧ Hid (∀ (j : Nat) (x : PlaceX), j < k → xs[j]? = some x → placeR x.d = true))
 case atStart => exact ⟨0, Nat.zero_le _, by omega, rfl, hidIt (Below.refl _ _), hidIt fun j x hj => absurd hj (Nat.not_lt_zero _)⟩
 case round =>
  obtain ⟨k, hk, hg, rfl, hb, A⟩ := hrel
  by_cases hlt : k < n
  · obtain ⟨x, hx⟩ : ∃ x, xs[k]? = some x := ⟨_, List.getElem?_eq_getElem (by rw [HN.out]; exact hlt)⟩
    obtain ⟨b1, o1, rfl, g1⟩ := Sl.cell hS.out (j := k) (r := x.row) (by rw [List.getElem?_map, hx]; rfl)
    have hm := List.mem_of_getElem? hx
    have c1 := hidIt (fun W (hW : Below w.heap.size w W) => docplace_any x W ((HP.out x hm).on hW) (HF.out x hm))
    have Hx := hidIt hx
    have p0 := g1 wr hb.out 0 _ rfl
    have p1 := g1 wr hb.out 1 _ rfl
    rw [Nat.add_zero] at p0
    clear g1 hx hm
    cases hq : placeR x.d with
    | false =>
     have e0 := all_hit (r := fun x : PlaceX => placeR x.d) Hx.out hq
     obtain rfl : false = R := by rw [← HR.out, e0]; simp
     rw [hq] at c1
     clear e0
     go_wp2_with (go_at_call 18; refine (c1.out _ hb.out).mono ?_; rintro e w' ⟨rfl, hb'⟩)
     go_ret
     exact ⟨rfl, below_next hb.out hb'⟩
    | true =>
     rw [hq] at c1
     have HQ := hidIt hq
     clear hq
     go_wp2_with (go_at_call 18; refine (c1.out _ hb.out).mono ?_; rintro e w' ⟨rfl, hb'⟩)
     go_roundg (n - (k + 1))
     case measure => omega
     case rel =>
      refine ⟨k + 1, by omega, by omega, by go_num, hidIt (below_next hb.out hb'), hidIt fun j u hj hu => ?_⟩
      by_cases e : j = k
      · subst e
        obtain rfl : x = u := Option.some.inj (Hx.out.symm.trans hu)
        exact HQ.out
      · exact A.out j u (by omega) hu
  · have : k = n := by omega
    subst this
    have e0 := all_none (r := fun x : PlaceX => placeR x.d) (xs := xs) fun j x hj => A.out j x (by have := (List.getElem?_eq_some_iff.1 hj).1; rw [HN.out] at this; exact this) hj
    have HR2 : Hid ((decide ((lo : Int) ≤ (k : Int)) && decide ((k : Int) ≤ (hi : Int))) = R) := hidIt (by rw [← HR.out, e0, Bool.and_true])
    clear e0 HR
    by_cases d1 : lo ≤ k
    · by_cases d2 : k ≤ hi
      · obtain rfl : true = R := by rw [← HR2.out, decide_eq_true (show (lo : Int) ≤ (k : Int) by omega), decide_eq_true (show (k : Int) ≤ (hi : Int) by omega)]; rfl
        go_wp2
        go_ret
        exact ⟨rfl, hb.out⟩
      · obtain rfl : false = R := by rw [← HR2.out, decide_eq_false (show ¬ (k : Int) ≤ (hi : Int) by omega), Bool.and_false]
        go_wp2
        go_ret
        exact ⟨rfl, hb.out⟩
    · obtain rfl : false = R := by rw [← HR2.out, decide_eq_false (show ¬ (lo : Int) ≤ (k : Int) by omega), Bool.false_and]
      go_wp2
      go_ret
      exact ⟨rfl, hb.out⟩

theorem docnone_any (l : ByteArray) (a : Option Addr) (n c : Nat) (w : World) :
 Calls Tryz.prog 142 #[.agg #[.string l, .slice a n c]] w fun e w' => e = .returned (.bool ((l.toList == []) && decide (n = 0))) ∧ Below w.heap.size w w' := by
 have hb := hidIt (below_new w (.cells #[.string l, .slice a n c] 24))
 cases h1 : (l.toList == []) with
 | false =>
  go_enter Tryz.func142, Tryz.ntmps142
  go_wp2
  go_ret
  exact ⟨rfl, hb.out⟩
 | true =>
  by_cases h2 : n = 0
  · subst h2
    go_enter Tryz.func142, Tryz.ntmps142
    go_wp2
    go_ret
    exact ⟨rfl, hb.out⟩
  · rw [decide_eq_false h2]
    have h3 : ((n : Int) == 0) = false := by simp; omega
    go_enter Tryz.func142, Tryz.ntmps142
    go_wp2
    go_ret
    exact ⟨rfl, hb.out⟩
end Go.Proofs.YtlppbgmcoknliaaGreatDoor
namespace Go.Proofs.YtlppbgmcoknliaaGreatDoor
set_option linter.unusedVariables false
open Go.RowKit

/-- What a type must be: a plain one, a plain one or none, or any. -/
def rvT : Bool → Bool → ByteArray → Bool
 | true, false => plainS
 | true, true => payS
 | false, _ => typeS
theorem plain_split (l : List UInt8) : ∃ (k : Int) (b : Bool), plainV (plainL l) = .tuple #[.int .i64 k, .bool b] ∧ b = isPlain l := by
 rw [plain_kind]
 cases plainL l with
 | none => exact ⟨_, _, rfl, rfl⟩
 | some k => exact ⟨_, _, rfl, rfl⟩

set_option maxHeartbeats 4000000 in
set_option maxRecDepth 100000 in
theorem docvars_all (a : Option Addr) (xs : List VarD) (c : Nat) (pl ba : Bool) (hpb : pl = false → ba = false) (w : World) (h : Vrs w a xs) (hf : ∀ p ∈ xs, p.Fit) :
 Calls Tryz.prog 51 #[.slice a xs.length c, .bool pl, .bool ba] w fun e w' => e = .returned (.bool (xs.all (varR (rvT pl ba)))) ∧ Below w.heap.size w w' := by
 have hS := hidIt h
 have HF := hidIt hf
 have HPB := hidIt hpb
 have hbig : xs.length ≤ 1048576 := by have := Sl.big h; rwa [List.length_map] at this
 clear h hf hpb
 obtain ⟨n, hn⟩ : ∃ n, xs.length = n := ⟨_, rfl⟩
 rw [hn] at hbig ⊢
 have HN := hidIt hn
 clear hn
 obtain ⟨R, hR⟩ : ∃ R, xs.all (varR (rvT pl ba)) = R := ⟨_, rfl⟩
 rw [hR]
 have HR := hidIt hR
 clear hR
 go_enter Tryz.func51, Tryz.ntmps51
 go_wp2
 go_loopg [6, 7] n (fun g _ s7 wr => ∃ k : Nat, k ≤ n ∧ n - k ≤ g ∧ s7 = .int .i64 k ∧ Hid (Below w.heap.size w wr) ∧ Hid (∀ (j : Nat) (x : VarD), j < k → xs[j]? = some x → varR (rvT pl ba) x = true))
 case atStart => exact ⟨0, Nat.zero_le _, by omega, rfl, hidIt (Below.refl _ _), hidIt fun j x hj => absurd hj (Nat.not_lt_zero _)⟩
 case round =>
  obtain ⟨k, hk, hg, rfl, hb, A⟩ := hrel
  by_cases hlt : k < n
  · obtain ⟨x, hx⟩ : ∃ x, xs[k]? = some x := ⟨_, List.getElem?_eq_getElem (by rw [HN.out]; exact hlt)⟩
    obtain ⟨b1, o1, rfl, z1, g1⟩ := Sl.cells hS.out (j := k) (r := x.row) (by rw [List.getElem?_map, hx]; rfl)
    have hm := HF.out x (List.mem_of_getElem? hx)
    obtain ⟨pk, pb, hpv, hpe⟩ := plain_split x.type.data.toList
    have c103 := hidIt (fun W => rplain_any 1048576 x.type hm.2 (by decide) W)
    have c44 := hidIt (fun W => rname_any x.name (fit_le hm.1) W)
    have c104 := hidIt (fun W => rkind_any x.type hm.2 W)
    rw [hpv] at c103
    obtain ⟨nb, hnb⟩ : ∃ b, nameB x.name.data.toList = b := ⟨_, rfl⟩
    rw [hnb] at c44
    obtain ⟨kk, hkk⟩ : ∃ q, kindL x.type.data.toList = q := ⟨_, rfl⟩
    rw [hkk] at c104
    have Hx := hidIt hx
    have G1 : Hid (∀ W, Below w.heap.size w W → W.cell? ⟨b1, o1 + k * 2, none⟩ = some (.string x.name) ∧ W.cell? ⟨b1, o1 + k * 2 + 1, none⟩ = some (.string x.type)) := hidIt (fun W hW => by
     have h1 := g1 W hW
     exact ⟨by simpa using h1 0 _ rfl, by simpa using h1 1 _ rfl⟩)
    have VQ : Hid (varR (rvT pl ba) x = (nb && rvT pl ba x.type)) := hidIt (by unfold varR nameS; rw [hnb])
    have PB : Hid (plainS x.type = pb) := hidIt hpe.symm
    have TB : Hid (typeS x.type = !(kk == 0)) := hidIt (by unfold typeS; rw [hkk])
    obtain ⟨p0, p1⟩ := G1.out _ hb.out
    clear g1 hx hm z1 hpv hpe hnb hkk
    have fin : ∀ v, varR (rvT pl ba) x = v → (v = false → false = R) ∧ (v = true → ∀ (j : Nat) (u : VarD), j < k + 1 → xs[j]? = some u → varR (rvT pl ba) u = true) := fun v hv => ⟨fun e => by
     rw [← HR.out]; exact (all_hit Hx.out (hv.trans e)).symm, fun e j u hj hu => by
     by_cases e2 : j = k
     · subst e2
       obtain rfl : x = u := Option.some.inj (Hx.out.symm.trans hu)
       exact hv.trans e
     · exact A.out j u (by omega) hu⟩
    have FIN := hidIt fin
    clear fin
    cases pl with
    | true =>
     cases ba with
     | false =>
      cases nb with
      | true =>
       cases pb with
       | true =>
        as_aux_lemma =>
        have e0 : varR (rvT true false) x = true := by rw [VQ.out]; show (_ && plainS x.type) = true; rw [PB.out]; rfl
        have A2 := hidIt ((FIN.out _ e0).2 rfl)
        clear e0 FIN
        go_wp2_with (first
         | (go_at_call 103; refine (c103.out _).mono ?_; rintro e w1 ⟨rfl, hq⟩; have hb := hidIt (below_next hb.out hq); clear hq p0 p1; obtain ⟨p0, p1⟩ := G1.out _ hb.out)
         | (go_at_call 104; refine (c104.out _).mono ?_; rintro e w1 ⟨rfl, hq⟩; have hb := hidIt (below_next hb.out hq); clear hq p0 p1; obtain ⟨p0, p1⟩ := G1.out _ hb.out)
         | (go_at_call 44; refine (c44.out _).mono ?_; rintro e w1 ⟨rfl, hq⟩; have hb := hidIt (below_next hb.out hq); clear hq p0 p1; obtain ⟨p0, p1⟩ := G1.out _ hb.out))
        go_roundg (n - (k + 1))
        case measure => omega
        case rel => exact ⟨k + 1, by omega, by omega, by go_num, hb, A2⟩
       | false =>
        as_aux_lemma =>
        have e0 : varR (rvT true false) x = false := by rw [VQ.out]; show (_ && plainS x.type) = false; rw [PB.out]; rfl
        obtain rfl := (FIN.out _ e0).1 rfl
        clear e0 FIN
        go_wp2_with (first
         | (go_at_call 103; refine (c103.out _).mono ?_; rintro e w1 ⟨rfl, hq⟩; have hb := hidIt (below_next hb.out hq); clear hq p0 p1; obtain ⟨p0, p1⟩ := G1.out _ hb.out)
         | (go_at_call 104; refine (c104.out _).mono ?_; rintro e w1 ⟨rfl, hq⟩; have hb := hidIt (below_next hb.out hq); clear hq p0 p1; obtain ⟨p0, p1⟩ := G1.out _ hb.out)
         | (go_at_call 44; refine (c44.out _).mono ?_; rintro e w1 ⟨rfl, hq⟩; have hb := hidIt (below_next hb.out hq); clear hq p0 p1; obtain ⟨p0, p1⟩ := G1.out _ hb.out))
        go_ret
        exact ⟨rfl, hb.out⟩
      | false =>
       cases pb with
       | true =>
        as_aux_lemma =>
        have e0 : varR (rvT true false) x = false := by rw [VQ.out]; show (_ && plainS x.type) = false; rw [PB.out]; rfl
        obtain rfl := (FIN.out _ e0).1 rfl
        clear e0 FIN
        go_wp2_with (first
         | (go_at_call 103; refine (c103.out _).mono ?_; rintro e w1 ⟨rfl, hq⟩; have hb := hidIt (below_next hb.out hq); clear hq p0 p1; obtain ⟨p0, p1⟩ := G1.out _ hb.out)
         | (go_at_call 104; refine (c104.out _).mono ?_; rintro e w1 ⟨rfl, hq⟩; have hb := hidIt (below_next hb.out hq); clear hq p0 p1; obtain ⟨p0, p1⟩ := G1.out _ hb.out)
         | (go_at_call 44; refine (c44.out _).mono ?_; rintro e w1 ⟨rfl, hq⟩; have hb := hidIt (below_next hb.out hq); clear hq p0 p1; obtain ⟨p0, p1⟩ := G1.out _ hb.out))
        go_ret
        exact ⟨rfl, hb.out⟩
       | false =>
        as_aux_lemma =>
        have e0 : varR (rvT true false) x = false := by rw [VQ.out]; show (_ && plainS x.type) = false; rw [PB.out]; rfl
        obtain rfl := (FIN.out _ e0).1 rfl
        clear e0 FIN
        go_wp2_with (first
         | (go_at_call 103; refine (c103.out _).mono ?_; rintro e w1 ⟨rfl, hq⟩; have hb := hidIt (below_next hb.out hq); clear hq p0 p1; obtain ⟨p0, p1⟩ := G1.out _ hb.out)
         | (go_at_call 104; refine (c104.out _).mono ?_; rintro e w1 ⟨rfl, hq⟩; have hb := hidIt (below_next hb.out hq); clear hq p0 p1; obtain ⟨p0, p1⟩ := G1.out _ hb.out)
         | (go_at_call 44; refine (c44.out _).mono ?_; rintro e w1 ⟨rfl, hq⟩; have hb := hidIt (below_next hb.out hq); clear hq p0 p1; obtain ⟨p0, p1⟩ := G1.out _ hb.out))
        go_ret
        exact ⟨rfl, hb.out⟩
     | true =>
      obtain ⟨te, hte⟩ : ∃ b, (x.type.toList == []) = b := ⟨_, rfl⟩
      have TE := hidIt hte
      cases nb with
      | true =>
       cases pb with
       | true =>
        cases te with
        | true =>
         as_aux_lemma =>
         have e0 : varR (rvT true true) x = true := by rw [VQ.out]; show (_ && ((x.type.toList == []) || plainS x.type)) = true; rw [PB.out, TE.out]; rfl
         have A2 := hidIt ((FIN.out _ e0).2 rfl)
         clear e0 FIN
         go_wp2_with (first
          | (go_at_call 103; refine (c103.out _).mono ?_; rintro e w1 ⟨rfl, hq⟩; have hb := hidIt (below_next hb.out hq); clear hq p0 p1; obtain ⟨p0, p1⟩ := G1.out _ hb.out)
          | (go_at_call 104; refine (c104.out _).mono ?_; rintro e w1 ⟨rfl, hq⟩; have hb := hidIt (below_next hb.out hq); clear hq p0 p1; obtain ⟨p0, p1⟩ := G1.out _ hb.out)
          | (go_at_call 44; refine (c44.out _).mono ?_; rintro e w1 ⟨rfl, hq⟩; have hb := hidIt (below_next hb.out hq); clear hq p0 p1; obtain ⟨p0, p1⟩ := G1.out _ hb.out))
         go_roundg (n - (k + 1))
         case measure => omega
         case rel => exact ⟨k + 1, by omega, by omega, by go_num, hb, A2⟩
        | false =>
         as_aux_lemma =>
         have e0 : varR (rvT true true) x = true := by rw [VQ.out]; show (_ && ((x.type.toList == []) || plainS x.type)) = true; rw [PB.out, TE.out]; rfl
         have A2 := hidIt ((FIN.out _ e0).2 rfl)
         clear e0 FIN
         go_wp2_with (first
          | (go_at_call 103; refine (c103.out _).mono ?_; rintro e w1 ⟨rfl, hq⟩; have hb := hidIt (below_next hb.out hq); clear hq p0 p1; obtain ⟨p0, p1⟩ := G1.out _ hb.out)
          | (go_at_call 104; refine (c104.out _).mono ?_; rintro e w1 ⟨rfl, hq⟩; have hb := hidIt (below_next hb.out hq); clear hq p0 p1; obtain ⟨p0, p1⟩ := G1.out _ hb.out)
          | (go_at_call 44; refine (c44.out _).mono ?_; rintro e w1 ⟨rfl, hq⟩; have hb := hidIt (below_next hb.out hq); clear hq p0 p1; obtain ⟨p0, p1⟩ := G1.out _ hb.out))
         go_roundg (n - (k + 1))
         case measure => omega
         case rel => exact ⟨k + 1, by omega, by omega, by go_num, hb, A2⟩
       | false =>
        cases te with
        | true =>
         as_aux_lemma =>
         have e0 : varR (rvT true true) x = true := by rw [VQ.out]; show (_ && ((x.type.toList == []) || plainS x.type)) = true; rw [PB.out, TE.out]; rfl
         have A2 := hidIt ((FIN.out _ e0).2 rfl)
         clear e0 FIN
         go_wp2_with (first
          | (go_at_call 103; refine (c103.out _).mono ?_; rintro e w1 ⟨rfl, hq⟩; have hb := hidIt (below_next hb.out hq); clear hq p0 p1; obtain ⟨p0, p1⟩ := G1.out _ hb.out)
          | (go_at_call 104; refine (c104.out _).mono ?_; rintro e w1 ⟨rfl, hq⟩; have hb := hidIt (below_next hb.out hq); clear hq p0 p1; obtain ⟨p0, p1⟩ := G1.out _ hb.out)
          | (go_at_call 44; refine (c44.out _).mono ?_; rintro e w1 ⟨rfl, hq⟩; have hb := hidIt (below_next hb.out hq); clear hq p0 p1; obtain ⟨p0, p1⟩ := G1.out _ hb.out))
         go_roundg (n - (k + 1))
         case measure => omega
         case rel => exact ⟨k + 1, by omega, by omega, by go_num, hb, A2⟩
        | false =>
         as_aux_lemma =>
         have e0 : varR (rvT true true) x = false := by rw [VQ.out]; show (_ && ((x.type.toList == []) || plainS x.type)) = false; rw [PB.out, TE.out]; rfl
         obtain rfl := (FIN.out _ e0).1 rfl
         clear e0 FIN
         go_wp2_with (first
          | (go_at_call 103; refine (c103.out _).mono ?_; rintro e w1 ⟨rfl, hq⟩; have hb := hidIt (below_next hb.out hq); clear hq p0 p1; obtain ⟨p0, p1⟩ := G1.out _ hb.out)
          | (go_at_call 104; refine (c104.out _).mono ?_; rintro e w1 ⟨rfl, hq⟩; have hb := hidIt (below_next hb.out hq); clear hq p0 p1; obtain ⟨p0, p1⟩ := G1.out _ hb.out)
          | (go_at_call 44; refine (c44.out _).mono ?_; rintro e w1 ⟨rfl, hq⟩; have hb := hidIt (below_next hb.out hq); clear hq p0 p1; obtain ⟨p0, p1⟩ := G1.out _ hb.out))
         go_ret
         exact ⟨rfl, hb.out⟩
      | false =>
       cases pb with
       | true =>
        cases te with
        | true =>
         as_aux_lemma =>
         have e0 : varR (rvT true true) x = false := by rw [VQ.out]; show (_ && ((x.type.toList == []) || plainS x.type)) = false; rw [PB.out, TE.out]; rfl
         obtain rfl := (FIN.out _ e0).1 rfl
         clear e0 FIN
         go_wp2_with (first
          | (go_at_call 103; refine (c103.out _).mono ?_; rintro e w1 ⟨rfl, hq⟩; have hb := hidIt (below_next hb.out hq); clear hq p0 p1; obtain ⟨p0, p1⟩ := G1.out _ hb.out)
          | (go_at_call 104; refine (c104.out _).mono ?_; rintro e w1 ⟨rfl, hq⟩; have hb := hidIt (below_next hb.out hq); clear hq p0 p1; obtain ⟨p0, p1⟩ := G1.out _ hb.out)
          | (go_at_call 44; refine (c44.out _).mono ?_; rintro e w1 ⟨rfl, hq⟩; have hb := hidIt (below_next hb.out hq); clear hq p0 p1; obtain ⟨p0, p1⟩ := G1.out _ hb.out))
         go_ret
         exact ⟨rfl, hb.out⟩
        | false =>
         as_aux_lemma =>
         have e0 : varR (rvT true true) x = false := by rw [VQ.out]; show (_ && ((x.type.toList == []) || plainS x.type)) = false; rw [PB.out, TE.out]; rfl
         obtain rfl := (FIN.out _ e0).1 rfl
         clear e0 FIN
         go_wp2_with (first
          | (go_at_call 103; refine (c103.out _).mono ?_; rintro e w1 ⟨rfl, hq⟩; have hb := hidIt (below_next hb.out hq); clear hq p0 p1; obtain ⟨p0, p1⟩ := G1.out _ hb.out)
          | (go_at_call 104; refine (c104.out _).mono ?_; rintro e w1 ⟨rfl, hq⟩; have hb := hidIt (below_next hb.out hq); clear hq p0 p1; obtain ⟨p0, p1⟩ := G1.out _ hb.out)
          | (go_at_call 44; refine (c44.out _).mono ?_; rintro e w1 ⟨rfl, hq⟩; have hb := hidIt (below_next hb.out hq); clear hq p0 p1; obtain ⟨p0, p1⟩ := G1.out _ hb.out))
         go_ret
         exact ⟨rfl, hb.out⟩
       | false =>
        cases te with
        | true =>
         as_aux_lemma =>
         have e0 : varR (rvT true true) x = false := by rw [VQ.out]; show (_ && ((x.type.toList == []) || plainS x.type)) = false; rw [PB.out, TE.out]; rfl
         obtain rfl := (FIN.out _ e0).1 rfl
         clear e0 FIN
         go_wp2_with (first
          | (go_at_call 103; refine (c103.out _).mono ?_; rintro e w1 ⟨rfl, hq⟩; have hb := hidIt (below_next hb.out hq); clear hq p0 p1; obtain ⟨p0, p1⟩ := G1.out _ hb.out)
          | (go_at_call 104; refine (c104.out _).mono ?_; rintro e w1 ⟨rfl, hq⟩; have hb := hidIt (below_next hb.out hq); clear hq p0 p1; obtain ⟨p0, p1⟩ := G1.out _ hb.out)
          | (go_at_call 44; refine (c44.out _).mono ?_; rintro e w1 ⟨rfl, hq⟩; have hb := hidIt (below_next hb.out hq); clear hq p0 p1; obtain ⟨p0, p1⟩ := G1.out _ hb.out))
         go_ret
         exact ⟨rfl, hb.out⟩
        | false =>
         as_aux_lemma =>
         have e0 : varR (rvT true true) x = false := by rw [VQ.out]; show (_ && ((x.type.toList == []) || plainS x.type)) = false; rw [PB.out, TE.out]; rfl
         obtain rfl := (FIN.out _ e0).1 rfl
         clear e0 FIN
         go_wp2_with (first
          | (go_at_call 103; refine (c103.out _).mono ?_; rintro e w1 ⟨rfl, hq⟩; have hb := hidIt (below_next hb.out hq); clear hq p0 p1; obtain ⟨p0, p1⟩ := G1.out _ hb.out)
          | (go_at_call 104; refine (c104.out _).mono ?_; rintro e w1 ⟨rfl, hq⟩; have hb := hidIt (below_next hb.out hq); clear hq p0 p1; obtain ⟨p0, p1⟩ := G1.out _ hb.out)
          | (go_at_call 44; refine (c44.out _).mono ?_; rintro e w1 ⟨rfl, hq⟩; have hb := hidIt (below_next hb.out hq); clear hq p0 p1; obtain ⟨p0, p1⟩ := G1.out _ hb.out))
         go_ret
         exact ⟨rfl, hb.out⟩
    | false =>
     obtain rfl := HPB.out rfl
     by_cases hk0 : kk = 0
     · subst hk0
       cases nb with
       | true =>
        as_aux_lemma =>
        have e0 : varR (rvT false false) x = false := by rw [VQ.out]; show (_ && typeS x.type) = false; rw [TB.out]; rfl
        obtain rfl := (FIN.out _ e0).1 rfl
        clear e0 FIN
        go_wp2_with (first
         | (go_at_call 103; refine (c103.out _).mono ?_; rintro e w1 ⟨rfl, hq⟩; have hb := hidIt (below_next hb.out hq); clear hq p0 p1; obtain ⟨p0, p1⟩ := G1.out _ hb.out)
         | (go_at_call 104; refine (c104.out _).mono ?_; rintro e w1 ⟨rfl, hq⟩; have hb := hidIt (below_next hb.out hq); clear hq p0 p1; obtain ⟨p0, p1⟩ := G1.out _ hb.out)
         | (go_at_call 44; refine (c44.out _).mono ?_; rintro e w1 ⟨rfl, hq⟩; have hb := hidIt (below_next hb.out hq); clear hq p0 p1; obtain ⟨p0, p1⟩ := G1.out _ hb.out))
        go_ret
        exact ⟨rfl, hb.out⟩
       | false =>
        as_aux_lemma =>
        have e0 : varR (rvT false false) x = false := by rw [VQ.out]; show (_ && typeS x.type) = false; rw [TB.out]; rfl
        obtain rfl := (FIN.out _ e0).1 rfl
        clear e0 FIN
        go_wp2_with (first
         | (go_at_call 103; refine (c103.out _).mono ?_; rintro e w1 ⟨rfl, hq⟩; have hb := hidIt (below_next hb.out hq); clear hq p0 p1; obtain ⟨p0, p1⟩ := G1.out _ hb.out)
         | (go_at_call 104; refine (c104.out _).mono ?_; rintro e w1 ⟨rfl, hq⟩; have hb := hidIt (below_next hb.out hq); clear hq p0 p1; obtain ⟨p0, p1⟩ := G1.out _ hb.out)
         | (go_at_call 44; refine (c44.out _).mono ?_; rintro e w1 ⟨rfl, hq⟩; have hb := hidIt (below_next hb.out hq); clear hq p0 p1; obtain ⟨p0, p1⟩ := G1.out _ hb.out))
        go_ret
        exact ⟨rfl, hb.out⟩
     · have hkz : (kk == 0) = false := by simpa using hk0
       have hkz2 : ((kk : Int) != 0) = true := by simp; omega
       rw [hkz] at TB
       clear hkz hk0
       cases nb with
       | true =>
        as_aux_lemma =>
        have e0 : varR (rvT false false) x = true := by rw [VQ.out]; show (_ && typeS x.type) = true; rw [TB.out]; rfl
        have A2 := hidIt ((FIN.out _ e0).2 rfl)
        clear e0 FIN
        go_wp2_with (first
         | (go_at_call 103; refine (c103.out _).mono ?_; rintro e w1 ⟨rfl, hq⟩; have hb := hidIt (below_next hb.out hq); clear hq p0 p1; obtain ⟨p0, p1⟩ := G1.out _ hb.out)
         | (go_at_call 104; refine (c104.out _).mono ?_; rintro e w1 ⟨rfl, hq⟩; have hb := hidIt (below_next hb.out hq); clear hq p0 p1; obtain ⟨p0, p1⟩ := G1.out _ hb.out)
         | (go_at_call 44; refine (c44.out _).mono ?_; rintro e w1 ⟨rfl, hq⟩; have hb := hidIt (below_next hb.out hq); clear hq p0 p1; obtain ⟨p0, p1⟩ := G1.out _ hb.out))
        go_roundg (n - (k + 1))
        case measure => omega
        case rel => exact ⟨k + 1, by omega, by omega, by go_num, hb, A2⟩
       | false =>
        as_aux_lemma =>
        have e0 : varR (rvT false false) x = false := by rw [VQ.out]; show (_ && typeS x.type) = false; rw [TB.out]; rfl
        obtain rfl := (FIN.out _ e0).1 rfl
        clear e0 FIN
        go_wp2_with (first
         | (go_at_call 103; refine (c103.out _).mono ?_; rintro e w1 ⟨rfl, hq⟩; have hb := hidIt (below_next hb.out hq); clear hq p0 p1; obtain ⟨p0, p1⟩ := G1.out _ hb.out)
         | (go_at_call 104; refine (c104.out _).mono ?_; rintro e w1 ⟨rfl, hq⟩; have hb := hidIt (below_next hb.out hq); clear hq p0 p1; obtain ⟨p0, p1⟩ := G1.out _ hb.out)
         | (go_at_call 44; refine (c44.out _).mono ?_; rintro e w1 ⟨rfl, hq⟩; have hb := hidIt (below_next hb.out hq); clear hq p0 p1; obtain ⟨p0, p1⟩ := G1.out _ hb.out))
        go_ret
        exact ⟨rfl, hb.out⟩
  · have : k = n := by omega
    subst this
    have e0 := all_none (r := varR (rvT pl ba)) (xs := xs) fun j x hj => A.out j x (by have := (List.getElem?_eq_some_iff.1 hj).1; rw [HN.out] at this; exact this) hj
    obtain rfl : true = R := by rw [← HR.out, e0]
    clear e0 HR
    go_wp2
    go_ret
    exact ⟨rfl, hb.out⟩
end Go.Proofs.YtlppbgmcoknliaaGreatDoor
