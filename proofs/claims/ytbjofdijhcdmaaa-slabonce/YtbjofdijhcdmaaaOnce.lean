/-
  SlabOnce: the data that it goes through: which addresses are good, and which were got.
-/
import Derived.Test.YtbjofdijhcdmaaaOffs
import Derived.Maps.OwnSet
namespace Go.Proofs.Ytbjofdijhcdmaaa
set_option linter.unusedVariables false
open Go.RowKit Go.Maps

/-- The first slot of a piece that there is, and it holds a number. -/
def GoodAt (S : Sl) (a : Int) : Prop := ∃ i e v, S.ents[i]? = some e ∧ a = mkAddr (e.sizes.length - 1) i ∧ e.slots[0]? = some (v, true)
/-- An address that was got. -/
def Known (S : Sl) (a : Int) : Prop := ∃ i e g, S.ents[i]? = some e ∧ g < e.sizes.length ∧ a = mkAddr g i

theorem mk_inj {g i g' i' : Nat} (hi : i < 1048576) (hi' : i' < 1048576) (h : mkAddr g i = mkAddr g' i') : g = g' ∧ i = i' := by
  unfold mkAddr at h
  omega

structure OnceInv (N : Nat) (S : Sl) (live seen : List Int) : Prop where
  inv : Inv S
  small : Small S N
  good : ∀ a ∈ live, GoodAt S a
  nodup : live.Nodup
  count : live.length = S.live
  known : ∀ a ∈ seen, Known S a
  sub : ∀ a ∈ live, a ∈ seen

theorem OnceInv.idx_lt {N : Nat} {S : Sl} {live seen : List Int} (h : OnceInv N S live seen) (hN : N ≤ 500000) {i : Nat} {e : Ent} (he : S.ents[i]? = some e) : i < 1048576 := by
  have := (List.getElem?_eq_some_iff.1 he).1
  have := h.small.ents
  omega

/-- What find says of a good address. -/
theorem good_find {S : Sl} {i : Nat} {e : Ent} (hi : i < 1048576) (he : S.ents[i]? = some e) (hv : Inv S) (hs : 0 < e.slots.length) :
    mfind S (mkAddr (e.sizes.length - 1) i) = 0 ∧ idx (mkAddr (e.sizes.length - 1) i) = i ∧ plc (mkAddr (e.sizes.length - 1) i) = 0 := by
  have hmem : e ∈ S.ents := List.mem_of_getElem? he
  have hne := (hv.sizes e hmem).1
  have hlen : 1 ≤ e.sizes.length := List.length_pos_iff.2 hne
  obtain ⟨e1, e2, e3, e4⟩ := mk_parts (e.sizes.length - 1) i 0 hi (by omega)
  simp only [Int.natCast_zero, Int.add_zero] at e1 e2 e3 e4
  refine ⟨?_, e1, e3⟩
  unfold mfind
  rw [if_neg (by omega), e1, e2, e3]
  simp only [he]
  have hl : e.sizes[e.sizes.length - 1]? = some e.slots.length := by
    rcases hv.last e hmem with h | h
    · omega
    · rw [← List.getLast?_eq_getElem?]
      exact h
  simp only [hl]
  rw [if_neg (by omega), if_neg (by omega)]

theorem OnceInv.load {N : Nat} {S : Sl} {live seen : List Int} (h : OnceInv N S live seen) (hN : N ≤ 500000) {a : Int} (ha : a ∈ live) : ∃ v, mload S a = (v, 0) := by
  obtain ⟨i, e, v, he, rfl, hs⟩ := h.good a ha
  have hpos : 0 < e.slots.length := (List.getElem?_eq_some_iff.1 hs).1
  obtain ⟨f1, f2, f3⟩ := good_find (h.idx_lt hN he) he h.inv hpos
  refine ⟨v, ?_⟩
  unfold mload
  rw [if_neg (by simp [f1]), f2, f3]
  simp only [he, hs]
  simp

theorem OnceInv.bd {N : Nat} {S : Sl} {live seen : List Int} (h : OnceInv N S live seen) (hN : N ≤ 500000) {a : Int} (ha : a ∈ seen) : 0 ≤ a ∧ a < 18446744073709551616 := by
  obtain ⟨i, e, g, he, hg, rfl⟩ := h.known a ha
  have := h.idx_lt hN he
  have := h.small.sizes e (List.mem_of_getElem? he)
  unfold mkAddr
  omega

/-- Behind Free. -/
theorem OnceInv.free {N : Nat} {S : Sl} {live seen : List Int} (h : OnceInv N S live seen) (hN : N ≤ 500000) {k : Nat} {b : Int} (hk : live[k]? = some b) :
    ∃ S', mfree S b = (S', 0) ∧ mfree S' b = (S', 14) ∧ mput S' b (1, true) = (S', 14) ∧ OnceInv (N + 1) S' (live.eraseIdx k) seen := by
  have hkl : k < live.length := (List.getElem?_eq_some_iff.1 hk).1
  have hmemb : b ∈ live := List.mem_of_getElem? hk
  obtain ⟨i, e, v, he, hb, hs⟩ := h.good b hmemb
  have hil := h.idx_lt hN he
  have hpos : 0 < e.slots.length := (List.getElem?_eq_some_iff.1 hs).1
  obtain ⟨f1, f2, f3⟩ := good_find hil he h.inv hpos
  rw [← hb] at f1 f2 f3
  have hi : i < S.ents.length := (List.getElem?_eq_some_iff.1 he).1
  have em : mfree S b = ({ S with live := S.live - 1, used := S.used - e.slots.length, ents := S.ents.set i { e with slots := [] }, free := S.free ++ [i] }, 0) := by
    unfold mfree
    rw [if_neg (by simp [f1]), if_neg (by simp [f3]), f2]
    simp only [he]
  have hkeep := mfree_keep h.inv h.small b
  rw [em] at hkeep
  have he' : (S.ents.set i { e with slots := [] })[i]? = some { e with slots := [] } := by simp [hi]
  have hmem : e ∈ S.ents := List.mem_of_getElem? he
  have hlen : 1 ≤ e.sizes.length := List.length_pos_iff.2 (h.inv.sizes e hmem).1
  obtain ⟨e1, e2, e3, e4⟩ := mk_parts (e.sizes.length - 1) i 0 hil (by omega)
  simp only [Int.natCast_zero, Int.add_zero] at e1 e2 e3 e4
  rw [← hb] at e1 e2 e3 e4
  have hl : e.sizes[e.sizes.length - 1]? = some e.slots.length := by
    rcases h.inv.last e hmem with h | h
    · omega
    · rw [← List.getLast?_eq_getElem?]
      exact h
  have hf' : mfind { S with live := S.live - 1, used := S.used - e.slots.length, ents := S.ents.set i { e with slots := [] }, free := S.free ++ [i] } b = 14 := by
    unfold mfind
    rw [if_neg (by omega), e1, e2, e3]
    simp only [he', hl]
    rw [if_neg (by omega), if_pos (.inr rfl)]
  refine ⟨_, em, by unfold mfree; rw [if_pos (by simp [hf']), hf']; rfl, by unfold mput; rw [if_pos (by simp [hf']), hf']; rfl, ?_⟩
  have hother : ∀ a ∈ live.eraseIdx k, a ∈ live ∧ a ≠ b := by
    intro a ha
    refine ⟨List.mem_of_mem_eraseIdx ha, fun e => ?_⟩
    subst e
    obtain ⟨j, hj⟩ := List.getElem?_of_mem ha
    rw [List.getElem?_eraseIdx] at hj
    split at hj
    · have := (List.getElem?_inj (by omega) h.nodup).1 (hj.trans hk.symm)
      omega
    · have hjl := (List.getElem?_eq_some_iff.1 hj).1
      have := (List.getElem?_inj hjl h.nodup).1 (hj.trans hk.symm)
      omega
  exact
  { inv := hkeep.1
    small := hkeep.2
    good := fun a ha => by
      obtain ⟨hal, hne⟩ := hother a ha
      obtain ⟨j, e2, v2, hj, haj, hs2⟩ := h.good a hal
      have hij : i ≠ j := fun x => by
        subst x
        rw [he] at hj
        simp only [Option.some.injEq] at hj
        subst hj
        exact hne (haj.trans hb.symm)
      exact ⟨j, e2, v2, by simp only; rw [List.getElem?_set, if_neg hij]; exact hj, haj, hs2⟩
    nodup := h.nodup.eraseIdx k
    count := by
      have := h.count
      simp only [List.length_eraseIdx]
      rw [if_pos hkl]
      omega
    known := fun a ha => by
      obtain ⟨j, e2, g, hj, hg, haj⟩ := h.known a ha
      by_cases hij : i = j
      · subst hij
        rw [he] at hj
        simp only [Option.some.injEq] at hj
        subst hj
        exact ⟨i, _, g, he', hg, haj⟩
      · exact ⟨j, e2, g, by simp only; rw [List.getElem?_set, if_neg hij]; exact hj, hg, haj⟩
    sub := fun a ha => h.sub a (hother a ha).1 }

/-- Behind Get and the Store into what was got. -/
theorem OnceInv.get {N : Nat} {S : Sl} {live seen : List Int} (h : OnceInv N S live seen) (hN : N ≤ 500000) (n v : Int) :
    (∃ c, mget S n = (S, 0, c) ∧ (c != 0) = true) ∨
    ∃ S1 S2 a, mget S n = (S1, a, 0) ∧ Inv S1 ∧ Small S1 (N + 1) ∧ a ∉ seen ∧ (0 ≤ a ∧ a < 18446744073709551616) ∧ mput S1 a (v, true) = (S2, 0) ∧ OnceInv (N + 1) S2 (live ++ [a]) (a :: seen) := by
  by_cases hr : n < 1 ∨ 4095 < n
  · exact .inl ⟨11, by unfold mget; rw [if_pos hr], rfl⟩
  · by_cases hf : (S.room : Int) < S.used + n
    · exact .inl ⟨13, by unfold mget; rw [if_neg hr, if_pos hf], rfl⟩
    · right
      have hkeep := mget_keep h.inv h.small n
      have em : mget S n = (mnew (mtake S).1 (mtake S).2 n.toNat, mkAddr (ageAt (mtake S).1 (mtake S).2) (mtake S).2, 0) := by
        unfold mget
        rw [if_neg hr, if_neg hf]
      obtain ⟨⟨e1, he1, hl1, hsl1, hsz1⟩, f1, f2, f3, f4, f5, f6, f7, f8, f9, f10, f11⟩ := mtake_facts h.inv h.small
      have hback : ∀ (j : Nat) (e : Ent), S.ents[j]? = some e → (mtake S).1.ents[j]? = some e := by
        intro j e hj
        unfold mtake
        cases hfr : S.free.getLast? with
        | none =>
          simp only
          rw [List.getElem?_append_left (List.getElem?_eq_some_iff.1 hj).1]
          exact hj
        | some x => exact hj
      generalize hT : (mtake S).1 = T at *
      generalize hX : (mtake S).2 = i at *
      have hiT : i < T.ents.length := (List.getElem?_eq_some_iff.1 he1).1
      have hil : i < 1048576 := by omega
      have hage : ageAt T i = e1.sizes.length := by simp [ageAt, he1]
      have emn : mnew T i n.toNat = { T with live := T.live + 1, used := T.used + n.toNat, ents := T.ents.set i ⟨e1.sizes ++ [n.toNat], List.replicate n.toNat (0, false)⟩ } := by simp [mnew, he1]
      rw [hage] at em
      rw [em] at hkeep
      have hEnt : (mnew T i n.toNat).ents[i]? = some ⟨e1.sizes ++ [n.toNat], List.replicate n.toNat (0, false)⟩ := by rw [emn]; simp [hiT]
      have hOth : ∀ (j : Nat) (e : Ent), j ≠ i → S.ents[j]? = some e → (mnew T i n.toNat).ents[j]? = some e := fun j e hne hj => by
        rw [emn]
        simp only
        rw [List.getElem?_set, if_neg (fun x => hne x.symm)]
        exact hback j e hj
      have hfind := good_find hil hEnt hkeep.1 (by simp; omega)
      simp only [List.length_append, List.length_singleton, Nat.add_sub_cancel] at hfind
      obtain ⟨g1, g2, g3⟩ := hfind
      have emp : mput (mnew T i n.toNat) (mkAddr e1.sizes.length i) (v, true) = ({ mnew T i n.toNat with ents := (mnew T i n.toNat).ents.set i ⟨e1.sizes ++ [n.toNat], (List.replicate n.toNat (0, false)).set 0 (v, true)⟩ }, 0) := by
        unfold mput setEnt
        rw [if_neg (by simp [g1]), g2, g3]
        simp only [hEnt]
      have hkeep2 := mput_keep hkeep.1 hkeep.2 (mkAddr e1.sizes.length i) (v, true)
      rw [emp] at hkeep2
      have hiN : i < (mnew T i n.toNat).ents.length := (List.getElem?_eq_some_iff.1 hEnt).1
      have hEnt2 : ((mnew T i n.toNat).ents.set i ⟨e1.sizes ++ [n.toNat], (List.replicate n.toNat (0, false)).set 0 (v, true)⟩)[i]? = some ⟨e1.sizes ++ [n.toNat], (List.replicate n.toNat (0, false)).set 0 (v, true)⟩ := by simp [hiN]
      have hOth2 : ∀ (j : Nat) (e : Ent), j ≠ i → S.ents[j]? = some e → ((mnew T i n.toNat).ents.set i ⟨e1.sizes ++ [n.toNat], (List.replicate n.toNat (0, false)).set 0 (v, true)⟩)[j]? = some e := fun j e hne hj => by
        rw [List.getElem?_set, if_neg (fun x => hne x.symm)]
        exact hOth j e hne hj
      have hcase : ∀ e, S.ents[i]? = some e → e = e1 := fun e hj => by
        have := hback i e hj
        rw [he1] at this
        simpa using this.symm
      have hnew : mkAddr e1.sizes.length i ∉ seen := fun hin => by
        obtain ⟨j, e2, g, hj, hg, hj2⟩ := h.known _ hin
        have hjl := h.idx_lt hN hj
        obtain ⟨q1, q2⟩ := mk_inj hil hjl hj2
        subst q2
        have := hcase e2 hj
        subst this
        omega
      refine ⟨mnew T i n.toNat, _, mkAddr e1.sizes.length i, em, hkeep.1, hkeep.2, hnew, by unfold mkAddr; omega, emp, ?_⟩
      exact
      { inv := hkeep2.1
        small := hkeep2.2
        good := fun a ha => by
          simp only [List.mem_append, List.mem_singleton] at ha
          rcases ha with ha | rfl
          · obtain ⟨j, e2, v2, hj, haj, hs2⟩ := h.good a ha
            have hne : j ≠ i := fun x => by
              subst x
              have := hcase e2 hj
              subst this
              have := (List.getElem?_eq_some_iff.1 hs2).1
              omega
            exact ⟨j, e2, v2, hOth2 j e2 hne hj, haj, hs2⟩
          · exact ⟨i, _, v, hEnt2, by simp, by
              simp only
              rw [List.getElem?_set, if_pos rfl, if_pos (by simp; omega)]⟩
        nodup := by
          rw [List.nodup_append]
          exact ⟨h.nodup, by simp, fun x hx y hy e => by simp at hy; subst hy; subst e; exact hnew (h.sub _ hx)⟩
        count := by
          have := h.count
          simp only [List.length_append, List.length_singleton]
          rw [emn]
          simp only
          omega
        known := fun a ha => by
          simp only [List.mem_cons] at ha
          rcases ha with rfl | ha
          · exact ⟨i, _, e1.sizes.length, hEnt2, by simp, rfl⟩
          · obtain ⟨j, e2, g, hj, hg, haj⟩ := h.known a ha
            by_cases hij : j = i
            · subst hij
              have := hcase e2 hj
              subst this
              exact ⟨j, _, g, hEnt2, by simp; omega, haj⟩
            · exact ⟨j, e2, g, hOth2 j e2 hij hj, hg, haj⟩
        sub := fun a ha => by
          simp only [List.mem_append, List.mem_singleton] at ha
          rcases ha with ha | rfl
          · exact List.mem_cons_of_mem _ (h.sub a ha)
          · simp }

theorem OnceInv.start {R : Nat} (h : R ≤ 16384) : OnceInv 0 (newSl R) [] [] :=
  ⟨newSl_inv R h, newSl_small R, by simp, by simp, rfl, by simp, by simp⟩
theorem OnceInv.more {N M : Nat} {S : Sl} {live seen : List Int} (h : OnceInv N S live seen) (hm : N ≤ M) : OnceInv M S live seen := ⟨h.inv, h.small.mono hm, h.good, h.nodup, h.count, h.known, h.sub⟩

/-- What was not seen is not in the map. -/
def SeenIn (D : DataW Unit) (seen : List Int) : Prop := ∀ a, a ∉ seen → D.atKey (.int .u64 a) (.lit (.bool false)) = .lit (.bool false)
theorem SeenIn.put {D : DataW Unit} {seen : List Int} (h : SeenIn D seen) (a : Int) : SeenIn (D.put (.int .u64 a) (.lit (.bool true))) (a :: seen) := by
  intro x hx
  simp only [List.mem_cons, not_or] at hx
  rw [atKey_put_other (by simpa using hx.1)]
  exact h x hx.2
theorem SeenIn.start : SeenIn (.map []) [] := fun _ _ => rfl

/-- 'm[k]' at elements that are bools. -/
theorem wpList_lookup_own_bool {H : Type} {P : Program} (w : World) {ops : Array Oper} {rest : List Oper} {o : Oper} {a : Act} {Q : Exit → Act → World → Prop}
    (hg : o.guard = none) (m x : Operand) (t : TypeId) (hop : o.op = Op.lookup t m x false)
    (k e : TypeId) (K : Keyed P k) (ht : P.underlying t = some (.map k e)) (he : P.underlying e = some .bool) (hz : (zeroValue e).run P w = .ok (.bool false) w) (b n : Nat) (D : DataW H)
    (hm : a.eval m = .map (some b)) (hown : w.ownsMap P k (plainElem P e) b n D) (key : Value) (kl : Lit) (hx : a.eval x = key) (hkey : keyOf P k key = some kl)
    (c0 : Bool) (hc0 : D.atKey kl (.lit (.bool false)) = .lit (.bool c0)) (hK : wpList P ops Q rest (a.put o.dst (.bool c0)) w) :
    wpList P ops Q (o :: rest) a w := by
  refine wpList_plain hg fun K' hK' => ?_
  obtain ⟨v, ps, hrun, hv⟩ := hown.lookup K ht hz (plainElem_bool he false) hkey
  obtain ⟨c, rfl, hc⟩ : ∃ c, v = .bool c ∧ D.atKey kl (.lit (.bool false)) = .lit (.bool c) := by
    unfold plainElem at hv
    rw [he] at hv
    cases v <;> simp at hv
    exact ⟨_, rfl, hv.1.symm⟩
  have hcc : c0 = c := by
    have := hc0.symm.trans hc
    simpa using this
  subst hcc
  unfold Oper.wp
  simp [execOp, hop, hm, hx, hrun, Result.andThen]
  exact hK' _ _ hK
end Go.Proofs.Ytbjofdijhcdmaaa
