/-
  What stays true of a slab's data behind each call. No walk, no memory here.
-/
import Derived.Test.YtbjofdijhcdmaaaMod
namespace Go.Proofs.Ytbjofdijhcdmaaa
set_option linter.unusedVariables false

theorem sum_set (f : Ent → Nat) (l : List Ent) (i : Nat) (e x : Ent) (h : l[i]? = some e) : ((l.set i x).map f).sum + f e = (l.map f).sum + f x := by
  induction l generalizing i with
  | nil => simp at h
  | cons a t ih =>
    cases i with
    | zero => simp at h; subst h; simp; omega
    | succ i =>
      simp at h
      have := ih i h
      simp only [List.set_cons_succ, List.map_cons, List.sum_cons]
      omega
theorem count_set (l : List Ent) (i : Nat) (e x : Ent) (h : l[i]? = some e) : (l.set i x).countP taken + (if taken e then 1 else 0) = l.countP taken + (if taken x then 1 else 0) := by
  induction l generalizing i with
  | nil => simp at h
  | cons a t ih =>
    cases i with
    | zero => simp at h; subst h; simp [List.countP_cons]; omega
    | succ i => simp at h; have := ih i h; simp [List.countP_cons]; omega
theorem count_le_sum (l : List Ent) : l.countP taken ≤ (l.map fun e => e.slots.length).sum := by
  induction l with
  | nil => simp
  | cons a t ih =>
    simp only [List.countP_cons, List.map_cons, List.sum_cons, taken, bne_iff_ne, ne_eq]
    split <;> omega
theorem le_sum (l : List Ent) (i : Nat) (e : Ent) (h : l[i]? = some e) : e.slots.length ≤ (l.map fun e => e.slots.length).sum := by
  have := sum_set (fun e => e.slots.length) l i e ⟨[], []⟩ h
  simp at this
  omega
theorem pos_count (l : List Ent) (i : Nat) (e : Ent) (h : l[i]? = some e) (ht : e.slots.length ≠ 0) : 1 ≤ l.countP taken := by
  have := count_set l i e ⟨[], []⟩ h
  simp [taken, ht] at this
  omega

theorem Inv.live_le {st : Sl} (h : Inv st) : st.live ≤ 16384 := by
  have := count_le_sum st.ents
  have h1 := h.live
  have h2 := h.used
  have h3 := h.fits
  have h4 := h.room
  omega

/-- takeIndex: what it leaves. -/
theorem mtake_facts {st : Sl} (h : Inv st) {N : Nat} (hs : Small st N) :
    (∃ e1, (mtake st).1.ents[(mtake st).2]? = some e1 ∧ e1.sizes.length ≤ N ∧ e1.slots.length = 0 ∧ (∀ n ∈ e1.sizes, 1 ≤ n ∧ n ≤ 4095)) ∧ (mtake st).1.live = st.live ∧ (mtake st).1.used = st.used ∧ (mtake st).1.room = st.room ∧ (mtake st).2 ≤ N ∧
    ((mtake st).1.ents.map fun e => e.slots.length).sum = st.used ∧ (mtake st).1.ents.countP taken = st.live ∧ (∀ i ∈ (mtake st).1.free, i ≠ (mtake st).2 ∧ ∃ e, (mtake st).1.ents[i]? = some e ∧ e.slots.length = 0) ∧ (mtake st).1.free.Nodup ∧
    (mtake st).1.ents.length ≤ N + 1 ∧ (mtake st).1.free.length ≤ N ∧
    (∀ i e, i ≠ (mtake st).2 → (mtake st).1.ents[i]? = some e → st.ents[i]? = some e) := by
  cases hf : st.free.getLast? with
  | none =>
    have hn : st.free = [] := List.getLast?_eq_none_iff.1 hf
    have em : mtake st = ({ st with ents := st.ents ++ [⟨[], []⟩] }, st.ents.length) := by simp [mtake, hf]
    rw [em]
    refine ⟨⟨⟨[], []⟩, by simp, by simp, by simp, by simp⟩, rfl, rfl, rfl, hs.ents, ?_, ?_, ?_, ?_, ?_, hs.free, ?_⟩
    · simp [h.used]
    · simp [h.live, taken]
    · simp [hn]
    · simp [hn]
    · simpa using hs.ents
    · intro i e hi he
      simp only at hi he
      by_cases hl : i < st.ents.length
      · rw [List.getElem?_append_left hl] at he
        exact he
      · have : i < st.ents.length + 1 := by have := (List.getElem?_eq_some_iff.1 he).1; simpa using this
        omega
  | some x =>
    have em : mtake st = ({ st with free := st.free.dropLast }, x) := by simp [mtake, hf]
    rw [em]
    have hx : x ∈ st.free := List.mem_of_getLast? hf
    obtain ⟨e, he, hes⟩ := h.free x hx
    have hl : x < st.ents.length := (List.getElem?_eq_some_iff.1 he).1
    have hnd : st.free.dropLast ++ [x] = st.free := by
      obtain ⟨l, hl⟩ := List.getLast?_eq_some_iff.1 hf
      rw [hl]
      simp
    have hN := h.nodup
    rw [← hnd, List.nodup_append] at hN
    refine ⟨⟨e, he, hs.sizes e (List.mem_of_getElem? he), hes, (h.sizes e (List.mem_of_getElem? he)).2⟩, rfl, rfl, rfl, by have := hs.ents; simp only; omega, h.used.symm, h.live.symm, ?_, hN.1, by have := hs.ents; simp only; omega, by have := hs.free; simp; omega, fun i e _ he => he⟩
    intro i hi
    have hi' : i ∈ st.free := List.dropLast_subset _ hi
    exact ⟨fun e => hN.2.2 i hi x (by simp) e, h.free i hi'⟩

theorem mget_keep {st : Sl} (h : Inv st) {N : Nat} (hs : Small st N) (n : Int) : Inv (mget st n).1 ∧ Small (mget st n).1 (N + 1) := by
  have hs1 : Small st (N + 1) := ⟨by have := hs.ents; omega, by have := hs.free; omega, fun e he => by have := hs.sizes e he; omega⟩
  unfold mget
  by_cases hr : n < 1 ∨ 4095 < n
  · rw [if_pos hr]
    exact ⟨h, hs1⟩
  · rw [if_neg hr]
    by_cases hf : (st.room : Int) < st.used + n
    · rw [if_pos hf]
      exact ⟨h, hs1⟩
    · rw [if_neg hf]
      obtain ⟨⟨e1, he1, hl1, hsl1, hsz1⟩, f1, f2, f3, f4, f5, f6, f7, f8, f9, f10, f11⟩ := mtake_facts h hs
      generalize (mtake st).1 = s1 at *
      generalize (mtake st).2 = i at *
      have hi : i < s1.ents.length := (List.getElem?_eq_some_iff.1 he1).1
      have em : mnew s1 i n.toNat = { s1 with live := s1.live + 1, used := s1.used + n.toNat, ents := s1.ents.set i ⟨e1.sizes ++ [n.toNat], List.replicate n.toNat (0, false)⟩ } := by simp [mnew, he1]
      simp only
      rw [em]
      have hall : ∀ e ∈ s1.ents.set i ⟨e1.sizes ++ [n.toNat], List.replicate n.toNat (0, false)⟩, e = ⟨e1.sizes ++ [n.toNat], List.replicate n.toNat (0, false)⟩ ∨ e ∈ st.ents := by
        intro e he
        obtain ⟨j, hj⟩ := List.getElem?_of_mem he
        rw [List.getElem?_set] at hj
        by_cases hij : i = j
        · subst hij
          rw [if_pos rfl, if_pos hi] at hj
          simp only [Option.some.injEq] at hj
          exact .inl hj.symm
        · rw [if_neg hij] at hj
          exact .inr (List.mem_of_getElem? (f11 j e (fun e => hij e.symm) hj))
      refine ⟨⟨?_, ?_, ?_, ?_, ?_, ?_, ?_, f8⟩, ⟨?_, ?_, ?_⟩⟩
      · simp only [f3]; exact h.room
      · simp only [f2, f3]; omega
      · have := sum_set (fun e => e.slots.length) s1.ents i e1 ⟨e1.sizes ++ [n.toNat], List.replicate n.toNat (0, false)⟩ he1
        simp only [List.length_replicate] at this
        simp only [f2]
        omega
      · have := count_set s1.ents i e1 ⟨e1.sizes ++ [n.toNat], List.replicate n.toNat (0, false)⟩ he1
        have t1 : taken e1 = false := by simp [taken, hsl1]
        have t2 : taken ⟨e1.sizes ++ [n.toNat], List.replicate n.toNat (0, false)⟩ = true := by simp [taken]; omega
        rw [t1, t2] at this
        simp at this
        simp only [f1]
        omega
      · intro e he
        rcases hall e he with rfl | he
        · refine ⟨by simp, fun m hm => ?_⟩
          simp only [List.mem_append, List.mem_singleton] at hm
          rcases hm with hm | rfl
          · exact hsz1 m hm
          · omega
        · exact h.sizes e he
      · intro e he
        rcases hall e he with rfl | he
        · right; simp
        · exact h.last e he
      · intro j hj
        obtain ⟨hne, e, he, hes⟩ := f7 j hj
        exact ⟨e, by simp only; rw [List.getElem?_set, if_neg (fun e => hne e.symm)]; exact he, hes⟩
      · simpa using f9
      · simp only; omega
      · intro e he
        rcases hall e he with rfl | he
        · simp; omega
        · have := hs.sizes e he; omega

theorem mput_keep {st : Sl} (h : Inv st) {N : Nat} (hs : Small st N) (a : Int) (v : Int × Bool) : Inv (mput st a v).1 ∧ Small (mput st a v).1 N := by
  by_cases hc : mfind st a = 0
  · obtain ⟨hb, e, he, hlen, hz, hp⟩ := mfind_zero h hc
    have hi : idx a < st.ents.length := (List.getElem?_eq_some_iff.1 he).1
    have em : mput st a v = ({ st with ents := st.ents.set (idx a) { e with slots := e.slots.set (plc a) v } }, 0) := by simp [mput, setEnt, hc, he]
    rw [em]
    have hall : ∀ e' ∈ st.ents.set (idx a) { e with slots := e.slots.set (plc a) v }, e' = { e with slots := e.slots.set (plc a) v } ∨ e' ∈ st.ents := fun e' he' => by
      rcases List.mem_or_eq_of_mem_set he' with h | h
      · exact .inr h
      · exact .inl h
    have hmem : e ∈ st.ents := List.mem_of_getElem? he
    refine ⟨⟨h.room, h.fits, ?_, ?_, ?_, ?_, ?_, h.nodup⟩, ⟨by simpa using hs.ents, hs.free, ?_⟩⟩
    · have := sum_set (fun e => e.slots.length) st.ents (idx a) e { e with slots := e.slots.set (plc a) v } he
      simp only [List.length_set] at this
      have hu := h.used
      simp only
      omega
    · have := count_set st.ents (idx a) e { e with slots := e.slots.set (plc a) v } he
      have t : taken { e with slots := e.slots.set (plc a) v } = taken e := by simp [taken]
      rw [t] at this
      have hu := h.live
      simp only
      omega
    · intro e' he'
      rcases hall e' he' with rfl | he'
      · exact h.sizes e hmem
      · exact h.sizes e' he'
    · intro e' he'
      rcases hall e' he' with rfl | he'
      · simpa using h.last e hmem
      · exact h.last e' he'
    · intro j hj
      obtain ⟨e', he', hes⟩ := h.free j hj
      have hne : idx a ≠ j := fun x => by
        subst x
        rw [he] at he'
        simp only [Option.some.injEq] at he'
        subst he'
        omega
      exact ⟨e', by simp only; rw [List.getElem?_set, if_neg hne]; exact he', hes⟩
    · intro e' he'
      rcases hall e' he' with rfl | he'
      · exact hs.sizes e hmem
      · exact hs.sizes e' he'
  · have em : mput st a v = (st, (mfind st a : Int)) := by simp [mput, hc]
    rw [em]
    exact ⟨h, hs⟩

theorem mfree_keep {st : Sl} (h : Inv st) {N : Nat} (hs : Small st N) (a : Int) : Inv (mfree st a).1 ∧ Small (mfree st a).1 (N + 1) := by
  have hs1 : Small st (N + 1) := ⟨by have := hs.ents; omega, by have := hs.free; omega, fun e he => by have := hs.sizes e he; omega⟩
  by_cases hc : mfind st a = 0
  · obtain ⟨hb, e, he, hlen, hz, hp⟩ := mfind_zero h hc
    by_cases hpl : plc a = 0
    · have hi : idx a < st.ents.length := (List.getElem?_eq_some_iff.1 he).1
      have em : mfree st a = ({ st with live := st.live - 1, used := st.used - e.slots.length, ents := st.ents.set (idx a) { e with slots := [] }, free := st.free ++ [idx a] }, 0) := by simp [mfree, hc, hpl, he]
      rw [em]
      have hall : ∀ e' ∈ st.ents.set (idx a) { e with slots := [] }, e' = { e with slots := [] } ∨ e' ∈ st.ents := fun e' he' => by
        rcases List.mem_or_eq_of_mem_set he' with h | h
        · exact .inr h
        · exact .inl h
      have hmem : e ∈ st.ents := List.mem_of_getElem? he
      have hnf : idx a ∉ st.free := fun hin => by
        obtain ⟨e', he', hes⟩ := h.free _ hin
        rw [he] at he'
        simp only [Option.some.injEq] at he'
        subst he'
        omega
      refine ⟨⟨h.room, ?_, ?_, ?_, ?_, ?_, ?_, ?_⟩, ⟨by simpa using hs1.ents, by have := hs.free; simp; omega, ?_⟩⟩
      · have := h.fits; simp only; omega
      · have := sum_set (fun e => e.slots.length) st.ents (idx a) e { e with slots := [] } he
        simp only [List.length_nil] at this
        have hu := h.used
        simp only
        omega
      · have := count_set st.ents (idx a) e { e with slots := [] } he
        have t1 : taken { e with slots := [] } = false := by simp [taken]
        have t2 : taken e = true := by
          unfold taken
          rw [bne_iff_ne]
          omega
        rw [t1, t2] at this
        simp at this
        have hu := h.live
        simp only
        omega
      · intro e' he'
        rcases hall e' he' with rfl | he'
        · exact h.sizes e hmem
        · exact h.sizes e' he'
      · intro e' he'
        rcases hall e' he' with rfl | he'
        · left; rfl
        · exact h.last e' he'
      · intro j hj
        simp only [List.mem_append, List.mem_singleton] at hj
        by_cases hij : idx a = j
        · subst hij
          exact ⟨{ e with slots := [] }, by simp [hi], rfl⟩
        · rcases hj with hj | rfl
          · obtain ⟨e', he', hes⟩ := h.free j hj
            exact ⟨e', by simp only; rw [List.getElem?_set, if_neg hij]; exact he', hes⟩
          · exact absurd rfl hij
      · simp only [List.nodup_append]
        exact ⟨h.nodup, by simp, fun x hx y hy e => by simp at hy; subst hy; subst e; exact hnf hx⟩
      · intro e' he'
        rcases hall e' he' with rfl | he'
        · exact hs1.sizes e hmem
        · exact hs1.sizes e' he'
    · have em : mfree st a = (st, 11) := by simp [mfree, hc, hpl]
      rw [em]
      exact ⟨h, hs1⟩
  · have em : mfree st a = (st, (mfind st a : Int)) := by simp [mfree, hc]
    rw [em]
    exact ⟨h, hs1⟩
end Go.Proofs.Ytbjofdijhcdmaaa
