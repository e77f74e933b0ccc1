/-
  The document's slab as data, and that it is like the slab's data behind each call. No walk, no memory here.
-/
import Derived.Test.YtbjofdijhcdmaaaKeep
import Derived.Test.YtbjofdijhcdmaaaPieces
namespace Go.Proofs.Ytbjofdijhcdmaaa
set_option linter.unusedVariables false

structure RP where
  ix : Nat
  age : Nat
  vals : List Int
  has : List Bool
  freed : Bool
deriving DecidableEq

structure RS where
  room : Nat
  ps : List RP
  free : List Nat
  next : Nat
deriving DecidableEq

def rlen (p : RP) : Nat := if p.freed then 0 else p.vals.length
def rused (l : List RP) : Nat := (l.map rlen).sum
def ron (p : RP) : Bool := !p.freed
def rlive (l : List RP) : Nat := l.countP ron
def rfirst (p : RP) : Int := mkAddr p.age p.ix
def isIx (i : Nat) (p : RP) : Bool := decide (p.ix = i)
def rage (l : List RP) (i : Nat) : Nat := l.countP (isIx i)
def hit (a : Int) (p : RP) : Bool := decide (rfirst p ≤ a) && decide (a < rfirst p + p.vals.length)
def rcode (p : RP) : Nat := if p.freed then 14 else 0

structure Sim (N : Nat) (st : Sl) (rs : RS) : Prop where
  few : rs.ps.length ≤ N
  room : rs.room = st.room
  free : rs.free = st.free
  next : rs.next = st.ents.length
  used : rused rs.ps = st.used
  live : rlive rs.ps = st.live
  len : ∀ (k : Nat) (p : RP), rs.ps[k]? = some p → p.has.length = p.vals.length
  at_ : ∀ (k : Nat) (p : RP), rs.ps[k]? = some p → ∃ e, st.ents[p.ix]? = some e ∧ e.sizes[p.age]? = some p.vals.length ∧ (p.freed = true → (p.age + 1 < e.sizes.length ∨ e.slots = [])) ∧ (p.freed = false → p.age + 1 = e.sizes.length ∧ e.slots = p.vals.zip p.has)
  uniq : ∀ (k l : Nat) (p q : RP), rs.ps[k]? = some p → rs.ps[l]? = some q → p.ix = q.ix → p.age = q.age → k = l
  ex : ∀ (i : Nat) (e : Ent) (a n : Nat), st.ents[i]? = some e → e.sizes[a]? = some n → ∃ (k : Nat) (p : RP), rs.ps[k]? = some p ∧ p.ix = i ∧ p.age = a
  count : ∀ (i : Nat) (e : Ent), st.ents[i]? = some e → rage rs.ps i = e.sizes.length

theorem Sim.bounds {N : Nat} {st : Sl} {rs : RS} (h : Sim N st rs) (hv : Inv st) (hs : Small st N) {k : Nat} {p : RP} (hp : rs.ps[k]? = some p) :
    p.ix < st.ents.length ∧ p.ix < N ∧ p.age < N ∧ 1 ≤ p.vals.length ∧ p.vals.length ≤ 4095 ∧ p.has.length = p.vals.length := by
  obtain ⟨e, he, hz, _⟩ := h.at_ k p hp
  have h1 : p.ix < st.ents.length := (List.getElem?_eq_some_iff.1 he).1
  have h2 : p.age < e.sizes.length := (List.getElem?_eq_some_iff.1 hz).1
  have h3 := hs.ents
  have h4 := hs.sizes e (List.mem_of_getElem? he)
  have h5 := (hv.sizes e (List.mem_of_getElem? he)).2 _ (List.mem_of_getElem? hz)
  exact ⟨h1, by omega, by omega, h5.1, h5.2, h.len k p hp⟩

theorem addr_parts (age ix : Nat) (k : Nat) (h1 : ix < 1000000) (h2 : age < 1000000) (hk : k < 4096) (a : Int) (ha : a = mkAddr age ix + k) :
    idx a = ix ∧ ageN a = age ∧ plc a = k ∧ 4611686018427387904 ≤ a := by
  unfold mkAddr at ha
  unfold idx ageN plc
  refine ⟨?_, ?_, ?_, by omega⟩
  · have : a % 4294967296 = (ix : Int) * 4096 + k := by omega
    rw [this]
    omega
  · have : (a - 4611686018427387904) / 4294967296 = age := by omega
    omega
  · have : a % 4096 = k := by omega
    omega

theorem addr_whole (a : Int) (h : 4611686018427387904 ≤ a) : a = mkAddr (ageN a) (idx a) + plc a := by
  unfold mkAddr idx ageN plc
  have h1 : 0 ≤ (a - 4611686018427387904) / 4294967296 := by omega
  have h2 : 0 ≤ a % 4294967296 / 4096 := by omega
  have h3 : 0 ≤ a % 4096 := by omega
  rw [Int.toNat_of_nonneg h1, Int.toNat_of_nonneg h2, Int.toNat_of_nonneg h3]
  omega

/-- An address that hits a piece: its parts. -/
theorem Sim.hit_parts {N : Nat} {st : Sl} {rs : RS} (h : Sim N st rs) (hv : Inv st) (hs : Small st N) (hN : N ≤ 900000) {k : Nat} {p : RP} (hp : rs.ps[k]? = some p) {a : Int} (ha : hit a p = true) :
    idx a = p.ix ∧ ageN a = p.age ∧ (plc a : Int) = a - rfirst p ∧ plc a < p.vals.length ∧ mfind st a = rcode p := by
  obtain ⟨b0, b1, b2, b3, b4, b5⟩ := h.bounds hv hs hp
  unfold hit at ha
  simp only [Bool.and_eq_true, decide_eq_true_eq] at ha
  obtain ⟨g1, g2⟩ := ha
  obtain ⟨m, hm⟩ : ∃ m : Nat, a = rfirst p + m := ⟨(a - rfirst p).toNat, by omega⟩
  obtain ⟨e1, e2, e3, e4⟩ := addr_parts p.age p.ix m (by omega) (by omega) (by omega) a hm
  refine ⟨e1, e2, by omega, by omega, ?_⟩
  obtain ⟨e, he, hz, hf1, hf2⟩ := h.at_ k p hp
  have hlt : p.age < e.sizes.length := (List.getElem?_eq_some_iff.1 hz).1
  unfold mfind
  rw [if_neg (by omega), e1, he]
  simp only [e2, hz]
  rw [if_neg (by omega)]
  unfold rcode
  cases hfr : p.freed with
  | true =>
    have := hf1 hfr
    rw [if_pos]
    · rfl
    · rcases this with h | h
      · exact .inl h
      · right; rw [h]; rfl
  | false =>
    have := hf2 hfr
    rw [if_neg]
    · rfl
    · rw [this.2]
      simp only [List.length_zip, b5, Nat.min_self]
      omega

theorem Sim.find_none {N : Nat} {st : Sl} {rs : RS} (h : Sim N st rs) {a : Int} (hn : ∀ (k : Nat) (p : RP), rs.ps[k]? = some p → hit a p = false) : mfind st a = 12 := by
  unfold mfind
  by_cases hb : a < 4611686018427387904
  · rw [if_pos hb]
  · rw [if_neg hb]
    cases he : st.ents[idx a]? with
    | none => rfl
    | some e =>
      simp only
      cases hz : e.sizes[ageN a]? with
      | none => rfl
      | some n =>
        simp only
        by_cases hp : n ≤ plc a
        · rw [if_pos hp]
        · exfalso
          obtain ⟨k, p, hk, h1, h2⟩ := h.ex _ e _ n he hz
          have hh := hn k p hk
          obtain ⟨e', he', hz', _⟩ := h.at_ k p hk
          rw [h1, he] at he'
          simp only [Option.some.injEq] at he'
          subst he'
          rw [h2, hz] at hz'
          simp only [Option.some.injEq] at hz'
          have hw := addr_whole a (by omega)
          rw [← h1, ← h2] at hw
          have hy : hit a p = true := by
            unfold hit rfirst
            rw [Bool.and_eq_true, decide_eq_true_eq, decide_eq_true_eq]
            omega
          rw [hy] at hh
          cases hh

/-- Two pieces that one address hits are one. -/
theorem Sim.hit_one {N : Nat} {st : Sl} {rs : RS} (h : Sim N st rs) (hv : Inv st) (hs : Small st N) (hN : N ≤ 900000) {k l : Nat} {p q : RP} (hp : rs.ps[k]? = some p) (hq : rs.ps[l]? = some q) {a : Int} (ha : hit a p = true) (hb : hit a q = true) : k = l := by
  obtain ⟨a1, a2, _⟩ := h.hit_parts hv hs hN hp ha
  obtain ⟨b1, b2, _⟩ := h.hit_parts hv hs hN hq hb
  exact h.uniq k l p q hp hq (by omega) (by omega)

def newRs (n : Nat) : RS := ⟨n, [], [], 0⟩
theorem newSim (n : Nat) : Sim 0 (newSl n) (newRs n) where
  few := by simp [newRs]
  room := rfl
  free := rfl
  next := rfl
  used := rfl
  live := rfl
  len := by simp [newRs]
  at_ := by simp [newRs]
  uniq := by simp [newRs]
  ex := by simp [newSl]
  count := by simp [newSl]

def rtake (rs : RS) : Nat := match rs.free.getLast? with
  | none => rs.next
  | some i => i
def rpiece (rs : RS) (n : Nat) : RP := ⟨rtake rs, rage rs.ps (rtake rs), List.replicate n 0, List.replicate n false, false⟩
def rnew (rs : RS) (n : Nat) : RS := { rs with ps := rs.ps ++ [rpiece rs n], free := rs.free.dropLast, next := if rs.free = [] then rs.next + 1 else rs.next }
def rget (rs : RS) (n : Int) : RS × Int × Int :=
  if n < 1 ∨ 4095 < n then (rs, 0, 11)
  else if (rs.room : Int) < rused rs.ps + n then (rs, 0, 13)
  else (rnew rs n.toNat, rfirst (rpiece rs n.toNat), 0)

theorem getElem?_snoc {α : Type} {l : List α} {x y : α} {k : Nat} (h : (l ++ [x])[k]? = some y) : l[k]? = some y ∨ (k = l.length ∧ y = x) := by
  rcases Nat.lt_trichotomy k l.length with h1 | h1 | h1
  · rw [List.getElem?_append_left h1] at h
    exact .inl h
  · subst h1
    simp at h
    exact .inr ⟨rfl, h.symm⟩
  · rw [List.getElem?_eq_none (by simp; omega)] at h
    cases h

theorem rage_none {N : Nat} {st : Sl} {rs : RS} (h : Sim N st rs) : rage rs.ps st.ents.length = 0 := by
  unfold rage
  rw [List.countP_eq_zero]
  intro p hp
  obtain ⟨k, hk⟩ := List.getElem?_of_mem hp
  obtain ⟨e, he, _⟩ := h.at_ k p hk
  have := (List.getElem?_eq_some_iff.1 he).1
  simp [isIx]
  omega

theorem sim_get {N : Nat} {st : Sl} {rs : RS} (h : Sim N st rs) (hv : Inv st) (hs : Small st N) (n : Int) :
    (rget rs n).2 = (mget st n).2 ∧ Sim (N + 1) (mget st n).1 (rget rs n).1 := by
  have hup : Sim (N + 1) st rs := { h with few := by have := h.few; omega }
  unfold rget mget
  by_cases hr : n < 1 ∨ 4095 < n
  · rw [if_pos hr, if_pos hr]
    exact ⟨rfl, hup⟩
  · rw [if_neg hr, if_neg hr, h.used, h.room]
    by_cases hf : (st.room : Int) < st.used + n
    · rw [if_pos hf, if_pos hf]
      exact ⟨rfl, hup⟩
    · rw [if_neg hf, if_neg hf]
      obtain ⟨m, rfl⟩ : ∃ m : Nat, n = m := ⟨n.toNat, by omega⟩
      rw [Int.toNat_natCast]
      have hm : 1 ≤ m ∧ m ≤ 4095 := by omega
      clear hr hf hup
      -- the entry that is taken
      have key : ∃ e1 : Ent, (mtake st).2 = rtake rs ∧ (mtake st).1.ents[rtake rs]? = some e1 ∧ e1.slots = [] ∧ rage rs.ps (rtake rs) = e1.sizes.length ∧
          (mtake st).1.room = st.room ∧ (mtake st).1.live = st.live ∧ (mtake st).1.used = st.used ∧ (mtake st).1.free = st.free.dropLast ∧
          ((if rs.free = [] then rs.next + 1 else rs.next) = (mtake st).1.ents.length) ∧
          (∀ (i : Nat) (e : Ent), st.ents[i]? = some e → (mtake st).1.ents[i]? = some e) ∧
          (∀ (i : Nat) (e : Ent), (mtake st).1.ents[i]? = some e → st.ents[i]? = some e ∨ (i = rtake rs ∧ e.sizes = [])) := by
        cases hg : st.free.getLast? with
        | none =>
          have hn : st.free = [] := List.getLast?_eq_none_iff.1 hg
          have em : mtake st = ({ st with ents := st.ents ++ [⟨[], []⟩] }, st.ents.length) := by simp [mtake, hg]
          have er : rtake rs = st.ents.length := by simp [rtake, h.free, hg, h.next]
          rw [em, er]
          refine ⟨⟨[], []⟩, rfl, by simp, rfl, rage_none h, rfl, rfl, rfl, by simp [hn], by simp [h.free, hn, h.next], ?_, ?_⟩
          · intro i e he
            have := (List.getElem?_eq_some_iff.1 he).1
            simp only
            rw [List.getElem?_append_left this]
            exact he
          · intro i e he
            rcases getElem?_snoc he with h1 | ⟨h1, h2⟩
            · exact .inl h1
            · exact .inr ⟨h1, by rw [h2]⟩
        | some x =>
          have em : mtake st = ({ st with free := st.free.dropLast }, x) := by simp [mtake, hg]
          have er : rtake rs = x := by simp [rtake, h.free, hg]
          have hx : x ∈ st.free := List.mem_of_getLast? hg
          obtain ⟨e, he, hes⟩ := hv.free x hx
          have hne : rs.free ≠ [] := by rw [h.free]; intro e0; rw [e0] at hx; cases hx
          rw [em, er]
          refine ⟨e, rfl, he, List.length_eq_zero_iff.1 hes, h.count x e he, rfl, rfl, rfl, rfl, by rw [if_neg hne, h.next], fun i e h => h, fun i e h => .inl h⟩
      obtain ⟨e1, k1, k2, k3, k4, k5, k6, k7, k8, k9, k10, k11⟩ := key
      rw [k1]
      have hlt : rtake rs < (mtake st).1.ents.length := (List.getElem?_eq_some_iff.1 k2).1
      have em : mnew (mtake st).1 (rtake rs) m = { (mtake st).1 with live := st.live + 1, used := st.used + m, ents := (mtake st).1.ents.set (rtake rs) ⟨e1.sizes ++ [m], List.replicate m (0, false)⟩ } := by
        simp [mnew, k2, k6, k7]
      simp only
      rw [em]
      refine ⟨by simp [rfirst, rpiece, ageAt, k2, k4], ?_⟩
      generalize (mtake st).1 = s1 at *
      have hold : ∀ (k : Nat) (p : RP), rs.ps[k]? = some p → p.ix = rtake rs → p.freed = true ∧ p.age < e1.sizes.length ∧ e1.sizes[p.age]? = some p.vals.length := by
        intro k p hp hx
        obtain ⟨e, he, hz, hf1, hf2⟩ := h.at_ k p hp
        have he2 := k10 _ _ he
        rw [hx, k2] at he2
        simp only [Option.some.injEq] at he2
        subst he2
        refine ⟨?_, (List.getElem?_eq_some_iff.1 hz).1, hz⟩
        cases hfr : p.freed with
        | true => rfl
        | false =>
          have := hf2 hfr
          have hl := h.len k p hp
          have hsz := ((hv.sizes e1 (List.mem_of_getElem? he)).2 _ (List.mem_of_getElem? hz)).1
          rw [k3] at this
          have h0 := congrArg List.length this.2
          simp only [List.length_nil, List.length_zip, hl, Nat.min_self] at h0
          omega
      refine { few := by simp [rnew]; have := h.few; omega, room := by simp [rnew, k5, h.room], free := by simp [rnew, k8, h.free], next := by simp only [rnew, List.length_set]; exact k9, used := ?_, live := ?_, len := ?_, at_ := ?_, uniq := ?_, ex := ?_, count := ?_ }
      · simp only [rnew, rused, List.map_append, List.sum_append, List.map_cons, List.map_nil, List.sum_cons, List.sum_nil, rpiece, rlen, Bool.false_eq_true, if_false, List.length_replicate]
        have := h.used
        unfold rused at this
        omega
      · simp only [rnew, rlive, List.countP_append]
        have := h.live
        unfold rlive at this
        rw [this]
        simp [rpiece, ron]
      · intro k p hp
        rcases getElem?_snoc hp with hp | ⟨_, rfl⟩
        · exact h.len k p hp
        · simp [rpiece]
      · intro k p hp
        rcases getElem?_snoc hp with hp | ⟨_, rfl⟩
        · by_cases hx : p.ix = rtake rs
          · obtain ⟨o1, o2, o3⟩ := hold k p hp hx
            refine ⟨⟨e1.sizes ++ [m], List.replicate m (0, false)⟩, by simp only [hx, List.getElem?_set, if_true]; rw [if_pos hlt], ?_, fun _ => .inl (by simp; omega), fun hc => by rw [o1] at hc; cases hc⟩
            simp only
            rw [List.getElem?_append_left o2]
            exact o3
          · obtain ⟨e, he, rest⟩ := h.at_ k p hp
            exact ⟨e, by simp only; rw [List.getElem?_set, if_neg (fun x => hx x.symm)]; exact k10 _ _ he, rest⟩
        · refine ⟨⟨e1.sizes ++ [m], List.replicate m (0, false)⟩, by simp only [rpiece, List.getElem?_set, if_true]; rw [if_pos hlt], ?_, fun hc => by simp [rpiece] at hc, fun _ => ⟨by simp [rpiece, k4], ?_⟩⟩
          · simp [rpiece, k4]
          · simp [rpiece, List.zip_replicate']
      · intro k l p q hp hq hx ha
        rcases getElem?_snoc hp with hp | ⟨hk, rfl⟩
        · rcases getElem?_snoc hq with hq | ⟨hl, rfl⟩
          · exact h.uniq k l p q hp hq hx ha
          · obtain ⟨_, o2, _⟩ := hold k p hp hx
            simp only [rpiece, k4] at ha
            omega
        · rcases getElem?_snoc hq with hq | ⟨hl, rfl⟩
          · obtain ⟨_, o2, _⟩ := hold l q hq hx.symm
            simp only [rpiece, k4] at ha
            omega
          · omega
      · intro i e a n he hz
        simp only at he
        have hmain : ∀ (i : Nat) (e : Ent) (a n : Nat), s1.ents[i]? = some e → e.sizes[a]? = some n → ∃ (k : Nat) (p : RP), (rnew rs m).ps[k]? = some p ∧ p.ix = i ∧ p.age = a := by
          intro i e a n he hz
          rcases k11 i e he with h1 | ⟨_, h1⟩
          · obtain ⟨k, p, hp, x1, x2⟩ := h.ex i e a n h1 hz
            have hk : k < rs.ps.length := (List.getElem?_eq_some_iff.1 hp).1
            exact ⟨k, p, by simp only [rnew]; rw [List.getElem?_append_left hk]; exact hp, x1, x2⟩
          · rw [h1] at hz
            simp at hz
        by_cases hx : i = rtake rs
        · subst hx
          simp only [List.getElem?_set, if_true] at he
          rw [if_pos hlt] at he
          simp only [Option.some.injEq] at he
          subst he
          rcases getElem?_snoc hz with hz | ⟨hz, _⟩
          · exact hmain _ e1 a n k2 hz
          · exact ⟨rs.ps.length, rpiece rs m, by simp [rnew], rfl, by simp [rpiece, k4, hz]⟩
        · rw [List.getElem?_set, if_neg (fun x => hx x.symm)] at he
          exact hmain i e a n he hz
      · intro i e he
        simp only at he
        simp only [rnew, rage, List.countP_append, List.countP_cons, List.countP_nil]
        by_cases hx : i = rtake rs
        · subst hx
          simp only [List.getElem?_set, if_true] at he
          rw [if_pos hlt] at he
          simp only [Option.some.injEq] at he
          subst he
          have := k4
          unfold rage at this
          simp [isIx, rpiece, this]
        · rw [List.getElem?_set, if_neg (fun x => hx x.symm)] at he
          have hi : isIx i (rpiece rs m) = false := decide_eq_false (fun x => hx x.symm)
          rw [hi]
          rcases k11 i e he with h1 | ⟨h1, _⟩
          · have := h.count i e h1
            unfold rage at this
            simp [this]
          · exact absurd h1 hx

theorem sum_set' (f : RP → Nat) (l : List RP) (i : Nat) (e x : RP) (h : l[i]? = some e) : ((l.set i x).map f).sum + f e = (l.map f).sum + f x := by
  induction l generalizing i with
  | nil => simp at h
  | cons a t ih =>
    cases i with
    | zero => simp at h; subst h; simp; omega
    | succ i =>
      simp at h
      have := ih i h
      simp only [List.set_cons_succ, List.map_cons, List.sum_cons]
      omega
theorem count_set' (f : RP → Bool) (l : List RP) (i : Nat) (e x : RP) (h : l[i]? = some e) : (l.set i x).countP f + (if f e then 1 else 0) = l.countP f + (if f x then 1 else 0) := by
  induction l generalizing i with
  | nil => simp at h
  | cons a t ih =>
    cases i with
    | zero => simp at h; subst h; simp [List.countP_cons]; omega
    | succ i => simp at h; have := ih i h; simp [List.countP_cons]; omega
theorem zip_set (l : List Int) (m : List Bool) (k : Nat) (x : Int) (y : Bool) : (l.zip m).set k (x, y) = (l.set k x).zip (m.set k y) := by
  induction l generalizing m k with
  | nil => simp
  | cons a t ih =>
    cases m with
    | nil => simp
    | cons b u =>
      cases k with
      | zero => simp
      | succ k => simp [ih]

def rset (rs : RS) (k : Nat) (p : RP) : RS := { rs with ps := rs.ps.set k p }
def rput (p : RP) (j : Nat) (v : Int × Bool) : RP := { p with vals := p.vals.set j v.1, has := p.has.set j v.2 }

theorem set_get {l : List RP} {k j : Nat} {p q y : RP} (hp : l[k]? = some p) (h : (l.set k y)[j]? = some q) : (j = k ∧ q = y) ∨ (j ≠ k ∧ l[j]? = some q) := by
  have hk : k < l.length := (List.getElem?_eq_some_iff.1 hp).1
  rw [List.getElem?_set] at h
  by_cases hj : k = j
  · subst hj
    rw [if_pos rfl, if_pos hk] at h
    simp only [Option.some.injEq] at h
    exact .inl ⟨rfl, h.symm⟩
  · rw [if_neg hj] at h
    exact .inr ⟨fun e => hj e.symm, h⟩

theorem sim_put {N : Nat} {st : Sl} {rs : RS} (h : Sim N st rs) (hv : Inv st) (hs : Small st N) (hN : N ≤ 900000) {k : Nat} {p : RP} (hp : rs.ps[k]? = some p) {a : Int} (ha : hit a p = true) (hfr : p.freed = false) (v : Int × Bool) :
    (mput st a v).2 = 0 ∧ Sim N (mput st a v).1 (rset rs k (rput p (plc a) v)) := by
  obtain ⟨x1, x2, x3, x4, x5⟩ := h.hit_parts hv hs hN hp ha
  have hc : mfind st a = 0 := by rw [x5]; simp [rcode, hfr]
  obtain ⟨e, he, hz, hf1, hf2⟩ := h.at_ k p hp
  have hi : p.ix < st.ents.length := (List.getElem?_eq_some_iff.1 he).1
  have em : mput st a v = ({ st with ents := st.ents.set p.ix { e with slots := e.slots.set (plc a) v } }, 0) := by simp [mput, setEnt, hc, x1, he]
  rw [em]
  refine ⟨rfl, ?_⟩
  obtain ⟨g1, g2⟩ := hf2 hfr
  have hget : ∀ (i : Nat) (e' : Ent), (st.ents.set p.ix { e with slots := e.slots.set (plc a) v })[i]? = some e' → ∃ e0, st.ents[i]? = some e0 ∧ e0.sizes = e'.sizes := by
    intro i e' hh
    rw [List.getElem?_set] at hh
    by_cases hx : p.ix = i
    · subst hx
      rw [if_pos rfl, if_pos hi] at hh
      simp only [Option.some.injEq] at hh
      subst hh
      exact ⟨e, he, rfl⟩
    · rw [if_neg hx] at hh
      exact ⟨e', hh, rfl⟩
  have hsame : (rput p (plc a) v).ix = p.ix ∧ (rput p (plc a) v).age = p.age ∧ (rput p (plc a) v).freed = false ∧ (rput p (plc a) v).vals.length = p.vals.length := ⟨rfl, rfl, hfr, by simp [rput]⟩
  refine { few := by simp [rset, h.few], room := h.room, free := h.free, next := by simp [rset, h.next], used := ?_, live := ?_, len := ?_, at_ := ?_, uniq := ?_, ex := ?_, count := ?_ }
  · have := sum_set' rlen rs.ps k p (rput p (plc a) v) hp
    have e1 : rlen (rput p (plc a) v) = rlen p := by simp [rlen, hsame.2.2.1, hfr, hsame.2.2.2]
    have hu := h.used
    unfold rused at hu ⊢
    simp only [rset]
    omega
  · have := count_set' ron rs.ps k p (rput p (plc a) v) hp
    have e1 : ron (rput p (plc a) v) = ron p := rfl
    rw [e1] at this
    have hu := h.live
    unfold rlive at hu ⊢
    simp only [rset]
    omega
  · intro j q hq
    rcases set_get hp hq with ⟨_, rfl⟩ | ⟨_, hq⟩
    · simp [rput, h.len k p hp]
    · exact h.len j q hq
  · intro j q hq
    rcases set_get hp hq with ⟨_, rfl⟩ | ⟨hne, hq⟩
    · refine ⟨{ e with slots := e.slots.set (plc a) v }, by simp only [hsame.1, List.getElem?_set, if_true]; rw [if_pos hi], by rw [hsame.2.1, hsame.2.2.2]; exact hz, fun hc => (by rw [hsame.2.2.1] at hc; cases hc), fun _ => ⟨g1, ?_⟩⟩
      simp only [rput, g2]
      exact zip_set _ _ _ _ _
    · obtain ⟨e', he', hz', hf1', hf2'⟩ := h.at_ j q hq
      by_cases hx : q.ix = p.ix
      · rw [hx, he] at he'
        simp only [Option.some.injEq] at he'
        subst he'
        have hlt : q.age < e.sizes.length := (List.getElem?_eq_some_iff.1 hz').1
        have hage : q.age ≠ p.age := fun hc => hne (h.uniq j k q p hq hp hx hc)
        refine ⟨{ e with slots := e.slots.set (plc a) v }, by simp only [hx, List.getElem?_set, if_true]; rw [if_pos hi], hz', fun _ => .inl (by simp only; omega), fun hc => ?_⟩
        have := (hf2' hc).1
        omega
      · exact ⟨e', by simp only; rw [List.getElem?_set, if_neg (fun x => hx x.symm)]; exact he', hz', hf1', hf2'⟩
  · intro j l q r hq hr hx hag
    have h1 : ∀ (j : Nat) (q : RP), (rset rs k (rput p (plc a) v)).ps[j]? = some q → ∃ q0 : RP, rs.ps[j]? = some q0 ∧ q0.ix = q.ix ∧ q0.age = q.age := by
      intro j q hq
      rcases set_get hp hq with ⟨rfl, rfl⟩ | ⟨_, hq⟩
      · exact ⟨p, hp, rfl, rfl⟩
      · exact ⟨q, hq, rfl, rfl⟩
    obtain ⟨q0, a1, a2, a3⟩ := h1 j q hq
    obtain ⟨r0, b1, b2, b3⟩ := h1 l r hr
    exact h.uniq j l q0 r0 a1 b1 (by omega) (by omega)
  · intro i e' ag n he' hz'
    obtain ⟨e0, h0, hs0⟩ := hget i e' he'
    obtain ⟨j, q, hq, y1, y2⟩ := h.ex i e0 ag n h0 (by rw [hs0]; exact hz')
    by_cases hj : j = k
    · subst hj
      rw [hp] at hq
      simp only [Option.some.injEq] at hq
      subst hq
      exact ⟨j, rput p (plc a) v, by simp only [rset, List.getElem?_set, if_true]; rw [if_pos (List.getElem?_eq_some_iff.1 hp).1], y1, y2⟩
    · exact ⟨j, q, by simp only [rset]; rw [List.getElem?_set, if_neg (fun x => hj x.symm)]; exact hq, y1, y2⟩
  · intro i e' he'
    obtain ⟨e0, h0, hs0⟩ := hget i e' he'
    have := h.count i e0 h0
    have h2 := count_set' (isIx i) rs.ps k p (rput p (plc a) v) hp
    have e1 : isIx i (rput p (plc a) v) = isIx i p := rfl
    rw [e1] at h2
    unfold rage at this ⊢
    simp only [rset]
    rw [← hs0]
    omega

def rfreed (p : RP) : RP := { p with freed := true }
def rfree (rs : RS) (k : Nat) (p : RP) : RS := { rs with ps := rs.ps.set k (rfreed p), free := rs.free ++ [p.ix] }

theorem sim_free {N : Nat} {st : Sl} {rs : RS} (h : Sim N st rs) (hv : Inv st) (hs : Small st N) (hN : N ≤ 900000) {k : Nat} {p : RP} (hp : rs.ps[k]? = some p) {a : Int} (ha : hit a p = true) (hfr : p.freed = false) (ha0 : a = rfirst p) :
    (mfree st a).2 = 0 ∧ Sim N (mfree st a).1 (rfree rs k p) := by
  obtain ⟨x1, x2, x3, x4, x5⟩ := h.hit_parts hv hs hN hp ha
  have hc : mfind st a = 0 := by rw [x5]; simp [rcode, hfr]
  have hpl : plc a = 0 := by omega
  obtain ⟨e, he, hz, hf1, hf2⟩ := h.at_ k p hp
  have hi : p.ix < st.ents.length := (List.getElem?_eq_some_iff.1 he).1
  obtain ⟨g1, g2⟩ := hf2 hfr
  have hel : e.slots.length = p.vals.length := by rw [g2, List.length_zip, h.len k p hp, Nat.min_self]
  have em : mfree st a = ({ st with live := st.live - 1, used := st.used - e.slots.length, ents := st.ents.set p.ix { e with slots := [] }, free := st.free ++ [p.ix] }, 0) := by simp [mfree, hc, hpl, x1, he]
  rw [em]
  refine ⟨rfl, ?_⟩
  have hget : ∀ (i : Nat) (e' : Ent), (st.ents.set p.ix { e with slots := [] })[i]? = some e' → ∃ e0, st.ents[i]? = some e0 ∧ e0.sizes = e'.sizes := by
    intro i e' hh
    rw [List.getElem?_set] at hh
    by_cases hx : p.ix = i
    · subst hx
      rw [if_pos rfl, if_pos hi] at hh
      simp only [Option.some.injEq] at hh
      subst hh
      exact ⟨e, he, rfl⟩
    · rw [if_neg hx] at hh
      exact ⟨e', hh, rfl⟩
  refine { few := by simp [rfree, h.few], room := h.room, free := by simp [rfree, h.free], next := by simp [rfree, h.next], used := ?_, live := ?_, len := ?_, at_ := ?_, uniq := ?_, ex := ?_, count := ?_ }
  · have := sum_set' rlen rs.ps k p (rfreed p) hp
    have e1 : rlen (rfreed p) = 0 := by simp [rlen, rfreed]
    have e2 : rlen p = p.vals.length := by simp [rlen, hfr]
    have hu := h.used
    unfold rused at hu ⊢
    simp only [rfree]
    omega
  · have := count_set' ron rs.ps k p (rfreed p) hp
    have e1 : ron (rfreed p) = false := rfl
    have e2 : ron p = true := by simp [ron, hfr]
    rw [e1, e2] at this
    have hu := h.live
    unfold rlive at hu ⊢
    simp only [rfree]
    simp at this
    omega
  · intro j q hq
    rcases set_get hp hq with ⟨_, rfl⟩ | ⟨_, hq⟩
    · exact h.len k p hp
    · exact h.len j q hq
  · intro j q hq
    rcases set_get hp hq with ⟨_, rfl⟩ | ⟨hne, hq⟩
    · exact ⟨{ e with slots := [] }, by simp only [rfreed, List.getElem?_set, if_true]; rw [if_pos hi], hz, fun _ => .inr rfl, fun hc => by simp [rfreed] at hc⟩
    · obtain ⟨e', he', hz', hf1', hf2'⟩ := h.at_ j q hq
      by_cases hx : q.ix = p.ix
      · rw [hx, he] at he'
        simp only [Option.some.injEq] at he'
        subst he'
        have hlt : q.age < e.sizes.length := (List.getElem?_eq_some_iff.1 hz').1
        have hage : q.age ≠ p.age := fun hc => hne (h.uniq j k q p hq hp hx hc)
        refine ⟨{ e with slots := [] }, by simp only [hx, List.getElem?_set, if_true]; rw [if_pos hi], hz', fun _ => .inr rfl, fun hc => ?_⟩
        have := (hf2' hc).1
        omega
      · exact ⟨e', by simp only; rw [List.getElem?_set, if_neg (fun x => hx x.symm)]; exact he', hz', hf1', hf2'⟩
  · intro j l q r hq hr hx hag
    have h1 : ∀ (j : Nat) (q : RP), (rfree rs k p).ps[j]? = some q → ∃ q0 : RP, rs.ps[j]? = some q0 ∧ q0.ix = q.ix ∧ q0.age = q.age := by
      intro j q hq
      rcases set_get hp hq with ⟨rfl, rfl⟩ | ⟨_, hq⟩
      · exact ⟨p, hp, rfl, rfl⟩
      · exact ⟨q, hq, rfl, rfl⟩
    obtain ⟨q0, a1, a2, a3⟩ := h1 j q hq
    obtain ⟨r0, b1, b2, b3⟩ := h1 l r hr
    exact h.uniq j l q0 r0 a1 b1 (by omega) (by omega)
  · intro i e' ag n he' hz'
    obtain ⟨e0, h0, hs0⟩ := hget i e' he'
    obtain ⟨j, q, hq, y1, y2⟩ := h.ex i e0 ag n h0 (by rw [hs0]; exact hz')
    by_cases hj : j = k
    · subst hj
      rw [hp] at hq
      simp only [Option.some.injEq] at hq
      subst hq
      exact ⟨j, rfreed p, by simp only [rfree, List.getElem?_set, if_true]; rw [if_pos (List.getElem?_eq_some_iff.1 hp).1], y1, y2⟩
    · exact ⟨j, q, by simp only [rfree]; rw [List.getElem?_set, if_neg (fun x => hj x.symm)]; exact hq, y1, y2⟩
  · intro i e' he'
    obtain ⟨e0, h0, hs0⟩ := hget i e' he'
    have := h.count i e0 h0
    have h2 := count_set' (isIx i) rs.ps k p (rfreed p) hp
    have e1 : isIx i (rfreed p) = isIx i p := rfl
    rw [e1] at h2
    unfold rage at this ⊢
    simp only [rfree]
    rw [← hs0]
    omega

/-- The pieces at an index that are there. -/
def rat (l : List RP) (i : Nat) : List (Int × Int) := (l.filter fun p => isIx i p && ron p).map fun p => (rfirst p, (p.vals.length : Int))
def rall (l : List RP) (n : Nat) : List (Int × Int) := (List.range n).flatMap (rat l)

theorem filter_one {α : Type} (f : α → Bool) (l : List α) (k : Nat) (x : α) (hk : l[k]? = some x) (hx : f x = true) (hu : ∀ (j : Nat) (y : α), l[j]? = some y → f y = true → j = k) : l.filter f = [x] := by
  induction l generalizing k with
  | nil => simp at hk
  | cons a t ih =>
    cases k with
    | zero =>
      simp at hk
      subst hk
      have : t.filter f = [] := by
        rw [List.filter_eq_nil_iff]
        intro y hy hf
        obtain ⟨j, hj⟩ := List.getElem?_of_mem hy
        have := hu (j + 1) y (by simpa using hj) hf
        omega
      simp [hx, this]
    | succ k =>
      have ha : f a = false := by
        cases hf : f a with
        | false => rfl
        | true => have := hu 0 a rfl hf; omega
      simp only [List.filter_cons, ha]
      exact ih k (by simpa using hk) fun j y hj hf => by have := hu (j + 1) y (by simpa using hj) hf; omega

theorem sim_at {N : Nat} {st : Sl} {rs : RS} (h : Sim N st rs) (hv : Inv st) {i : Nat} {e : Ent} (he : st.ents[i]? = some e) :
    rat rs.ps i = if taken e then [(mkAddr (e.sizes.length - 1) i, (e.slots.length : Int))] else [] := by
  have hpc : ∀ (j : Nat) (q : RP), rs.ps[j]? = some q → (isIx i q && ron q) = true → q.ix = i ∧ q.age + 1 = e.sizes.length ∧ e.slots.length = q.vals.length := by
    intro j q hq hf
    simp only [isIx, ron, Bool.and_eq_true, decide_eq_true_eq, Bool.not_eq_true'] at hf
    obtain ⟨e', he', _, _, h2⟩ := h.at_ j q hq
    rw [hf.1, he] at he'
    simp only [Option.some.injEq] at he'
    subst he'
    obtain ⟨g1, g2⟩ := h2 hf.2
    refine ⟨hf.1, g1, ?_⟩
    rw [g2, List.length_zip, h.len j q hq, Nat.min_self]
  have hmem := List.mem_of_getElem? he
  have hsl : 1 ≤ e.sizes.length := List.length_pos_iff.2 (hv.sizes e hmem).1
  unfold rat
  cases ht : taken e with
  | true =>
    have h0 : e.slots.length ≠ 0 := by
      unfold taken at ht
      rwa [bne_iff_ne] at ht
    obtain ⟨n, hn⟩ : ∃ n, e.sizes[e.sizes.length - 1]? = some n := ⟨_, List.getElem?_eq_getElem (by omega)⟩
    obtain ⟨k, p, hp, y1, y2⟩ := h.ex i e _ n he hn
    have hfr : p.freed = false := by
      cases hf : p.freed with
      | false => rfl
      | true =>
        obtain ⟨e', he', _, h1, _⟩ := h.at_ k p hp
        rw [y1, he] at he'
        simp only [Option.some.injEq] at he'
        subst he'
        rcases h1 hf with h1 | h1
        · omega
        · rw [h1] at h0
          simp at h0
    have hpf : (isIx i p && ron p) = true := by simp [isIx, ron, y1, hfr]
    rw [filter_one _ rs.ps k p hp hpf (fun j q hq hf => h.uniq j k q p hq hp (by rw [(hpc j q hq hf).1, y1]) (by have := (hpc j q hq hf).2.1; omega))]
    obtain ⟨_, z2, z3⟩ := hpc k p hp hpf
    simp [rfirst, y1, y2, z3]
  | false =>
    have h0 : e.slots.length = 0 := by
      unfold taken at ht
      rwa [bne_eq_false_iff_eq] at ht
    have : (rs.ps.filter fun p => isIx i p && ron p) = [] := by
      rw [List.filter_eq_nil_iff]
      intro q hq hf
      obtain ⟨j, hj⟩ := List.getElem?_of_mem hq
      obtain ⟨z1, z2, z3⟩ := hpc j q hj hf
      obtain ⟨e', he', hz, _⟩ := h.at_ j q hj
      rw [z1, he] at he'
      simp only [Option.some.injEq] at he'
      subst he'
      have := ((hv.sizes e hmem).2 _ (List.mem_of_getElem? hz)).1
      omega
    rw [this]
    rfl

theorem sim_all {N : Nat} {st : Sl} {rs : RS} (h : Sim N st rs) (hv : Inv st) : rall rs.ps rs.next = pcs st.ents 0 := by
  have hk : ∀ k, k ≤ st.ents.length → rall rs.ps k = pcs (st.ents.take k) 0 := by
    intro k
    induction k with
    | zero => intro _; simp [rall, pcs]
    | succ k ih =>
      intro hk
      obtain ⟨e, he⟩ : ∃ e, st.ents[k]? = some e := ⟨_, List.getElem?_eq_getElem (by omega)⟩
      rw [pcs_snoc st.ents k e he, ← ih (by omega), ← sim_at h hv he]
      simp [rall, List.range_succ]
  rw [h.next, hk _ (Nat.le_refl _), List.take_length]
end Go.Proofs.Ytbjofdijhcdmaaa
