/-
  What each step on memory makes of a slab: a field, an entry, the free indexes, a slot. And 'append' on a slice that is owned, with the word that the new row is the old one, or new.
-/
import Derived.Test.YtbjofdijhcdmaaaMod
namespace Go.Proofs.Ytbjofdijhcdmaaa
set_option linter.unusedVariables false
open Go.RowKit

def freshOr (w : World) (v v' : Value) : Prop := v'.ownBlock = v.ownBlock ∨ ∀ k, v'.ownBlock = some k → w.heap.size ≤ k

theorem own_weak {w : World} {base : Nat} {e : TypeId} {size : Nat} {v : Value} {n : Nat} {xs : List Value} (h : w.ownsRow base e size v n xs) : w.ownsRow 0 e size v n xs := by
  refine ⟨h.1, ?_⟩
  rcases h.2 with h | ⟨g, cap, cur, hv, _, r⟩
  · exact .inl h
  · exact .inr ⟨g, cap, cur, hv, Nat.zero_le _, r⟩

theorem wpList_append_fr {P : Program} (w : World) {ops : Array Oper} {rest : List Oper} {o : Oper} {a : Act} {Q : Exit → Act → World → Prop}
    (hg : o.guard = none) (s x : Operand) (t : TypeId) (hop : o.op = Op.call { callee := Callee.builtin Builtin.append, args := #[s, x], argTypes := #[t, t] })
    (e : TypeId) (i : TypeInfo) (z : Value) (size bytes : Nat) (h1 : P.underlying t = some (.slice e)) (h2 : P.info? e = some i) (h3 : i.zero = some z) (h4 : i.size = size) (h5 : i.bytes = bytes) (h6 : z.cells.size = size) (h7 : 0 < size)
    (v : Value) (n : Nat) (xs : List Value) (hs : a.eval s = v) (hown : w.ownsRow 0 e size v n xs)
    (ad : Addr) (m c : Nat) (news : List Value) (hx : a.eval x = .slice (some ad) m c) (hn : news.length = m * size) (hc : ∀ j u, news[j]? = some u → w.cell? (ad.add j) = some u) (h1c : ∀ u ∈ news, u.oneCell' = true)
    (b0 : 0 < m) (b1 : n + m ≤ maxLen) (b2 : (n + m) * bytes ≤ 140737488355328)
    (hK : ∀ v' w', w'.ownsRow 0 e size v' (n + m) (xs ++ news) → w.grownBy w' v.ownBlock → freshOr w v v' → wpList P ops Q rest (a.put o.dst v') w') :
    wpList P ops Q (o :: rest) a w := by
  rcases hown.2 with ⟨rfl, rfl⟩ | ⟨g, cap, cur, rfl, hb, hgg, hnc, hcm, hcs, ht⟩
  · have hx0 : xs = [] := List.eq_nil_of_length_eq_zero (by simpa using hown.1)
    subst hx0
    refine wpList_append_grows w hg s x t hop e i z size bytes h1 h2 h3 h4 h5 h6 h7 none 0 0 [] hs (fun _ => ⟨rfl, rfl⟩) (by simp) (fun _ h => by cases h) ad m c news hx hn hc h1c (by omega) b1 b2 ?_
    intro v' w' ho hg'
    exact hK v' w' (own_weak ho) hg' (.inr fun k hk => (ho.lt k hk).1)
  · by_cases hroom : n + m ≤ cap
    · refine wpList_append_fits w hg s x t hop 0 e i size h1 h2 h4 g n cap xs hs hown ad m c news hx hn hc h1c hroom ?_
      intro w' ho hg'
      exact hK _ w' ho hg' (.inl rfl)
    · refine wpList_append_grows w hg s x t hop e i z size bytes h1 h2 h3 h4 h5 h6 h7 (some ⟨g, 0, none⟩) n cap xs hs (fun h => by cases h) hown.1 ?_ ad m c news hx hn hc h1c (by omega) b1 b2 ?_
      · intro b hb'
        cases hb'
        exact hown.cells rfl
      · intro v' w' ho hg'
        refine hK v' w' (own_weak ho) ⟨hg'.os, hg'.tape, hg'.output, hg'.size, fun k hk _ => hg'.block k hk (by simp)⟩ (.inr fun k hk => (ho.lt k hk).1)

section
variable {w w2 : World} {A : Nat} {st : Sl} {fp : Nat → Prop} {ve vf : Value} {es : List (Value × Value)}

/-- The numbers of a slab. -/
theorem RepAt.setNum (h : RepAt w A st fp ve vf es) (st' : Sl) (j : Nat) (x : Int) (he : st'.ents = st.ents) (hf : st'.free = st.free)
    (hj : (#[.int .i64 st.room, .int .i64 st.live, .int .i64 st.used, ve, vf] : Array Value).setIfInBounds j (.int .i64 x) = #[.int .i64 st'.room, .int .i64 st'.live, .int .i64 st'.used, ve, vf]) :
    RepAt (w.setCell ⟨A, j, none⟩ (.int .i64 x)) A st' fp ve vf es := by
  have hk : ∀ k, k ≠ A → (w.setCell ⟨A, j, none⟩ (.int .i64 x)).heap[k]? = w.heap[k]? := fun k hk => heap_setCell_other w ⟨A, j, none⟩ k _ hk
  have hsz : (w.setCell ⟨A, j, none⟩ (.int .i64 x)).heap.size = w.heap.size := by simp [World.setCell]
  exact
  { head := by rw [heap_setCell_same w A j _ 69 _ h.head, hj]
    fpA := h.fpA
    fplt := fun k hf => by rw [hsz]; exact h.fplt k hf
    ents := ownsRow_of_block h.ents fun k hb => hk k fun e => own_ne h.ents h.head (by decide) (e ▸ hb)
    fpE := h.fpE
    free := by rw [hf]; exact ownsRow_of_block h.free fun k hb => hk k fun e => own_ne h.free h.head (by decide) (e ▸ hb)
    fpF := h.fpF
    len := by rw [he]; exact h.len
    sizes := fun i e v h1 h2 => by
      rw [he] at h1
      exact ⟨ownsRow_of_block (h.sizes i e v h1 h2).1 fun k hb => hk k fun e' => own_ne (h.sizes i e v h1 h2).1 h.head (by decide) (e' ▸ hb), (h.sizes i e v h1 h2).2⟩
    slots := fun i e v h1 h2 => by
      rw [he] at h1
      exact ⟨ownsRow_of_block (h.slots i e v h1 h2).1 fun k hb => hk k fun e' => own_ne (h.slots i e v h1 h2).1 h.head (by decide) (e' ▸ hb), (h.slots i e v h1 h2).2⟩
    apart1 := h.apart1
    apart2 := h.apart2 }

/-- What an entry's slots hold. -/
theorem RepAt.slotsIn (h : RepAt w A st fp ve vf es) {i : Nat} {e : Ent} {u v : Value} (he : st.ents[i]? = some e) (hu : es[i]? = some (u, v)) (hs : w.heap.size ≤ w2.heap.size)
    (hb : ∀ k, fp k → v.ownBlock ≠ some k → w2.heap[k]? = w.heap[k]?) (l : List (Int × Bool)) (ho : w2.ownsRow 0 91 2 v l.length (slotCells l)) :
    RepAt w2 A { st with ents := st.ents.set i { e with slots := l } } fp ve vf es := by
  have hv := h.slots i e _ he hu
  have hi : i < st.ents.length := (List.getElem?_eq_some_iff.1 he).1
  exact
  { head := by rw [hb A h.fpA (own_ne hv.1 h.head (by decide))]; exact h.head
    fpA := h.fpA
    fplt := fun k hf => Nat.lt_of_lt_of_le (h.fplt k hf) hs
    ents := ownsRow_of_block h.ents fun k hk => hb k (h.fpE k hk) (own_apart h.ents hv.1 (by decide) k hk)
    fpE := h.fpE
    free := ownsRow_of_block h.free fun k hk => hb k (h.fpF k hk) (own_apart h.free hv.1 (by decide) k hk)
    fpF := h.fpF
    len := by simpa using h.len
    sizes := fun j e' v' h1 h2 => by
      simp only [List.getElem?_set] at h1
      by_cases hij : i = j
      · subst hij
        rw [if_pos rfl, if_pos hi] at h1
        simp only [Option.some.injEq] at h1
        subst h1
        have hs1 := h.sizes i e v' he h2
        exact ⟨ownsRow_of_block hs1.1 fun k hk => hb k (hs1.2 k hk) (own_apart hs1.1 hv.1 (by decide) k hk), hs1.2⟩
      · rw [if_neg hij] at h1
        have hs1 := h.sizes j e' v' h1 h2
        exact ⟨ownsRow_of_block hs1.1 fun k hk => hb k (hs1.2 k hk) (own_apart hs1.1 hv.1 (by decide) k hk), hs1.2⟩
    slots := fun j e' v' h1 h2 => by
      simp only [List.getElem?_set] at h1
      by_cases hij : i = j
      · subst hij
        rw [if_pos rfl, if_pos hi] at h1
        simp only [Option.some.injEq] at h1
        subst h1
        rw [hu] at h2
        simp only [Option.some.injEq] at h2
        subst h2
        exact ⟨ho, hv.2⟩
      · rw [if_neg hij] at h1
        have hs1 := h.slots j e' v' h1 h2
        exact ⟨ownsRow_of_block hs1.1 fun k hk => hb k (hs1.2 k hk) (h.apart2 j i v' (u, v) (fun e => hij e.symm) h2 hu k hk), hs1.2⟩
    apart1 := h.apart1
    apart2 := h.apart2 }

theorem get_set_some {α : Type} {l : List α} {i j : Nat} {x y : α} (h : (l.set i x)[j]? = some y) : (i = j ∧ y = x ∧ i < l.length) ∨ (i ≠ j ∧ l[j]? = some y) := by
  rw [List.getElem?_set] at h
  by_cases hij : i = j
  · subst hij
    rw [if_pos rfl] at h
    by_cases hl : i < l.length
    · rw [if_pos hl] at h
      simp only [Option.some.injEq] at h
      exact .inl ⟨rfl, h.symm, hl⟩
    · rw [if_neg hl] at h
      cases h
  · rw [if_neg hij] at h
    exact .inr ⟨hij, h⟩

theorem OB.ext {v : Value} (h : OB fp v) : OB (ext fp w w2) v := fun k hk => .inl (h k hk)
theorem freshOr.ob {v v' : Value} (h : OB fp v) (hf : freshOr w v v') (hl : ∀ k, v'.ownBlock = some k → k < w2.heap.size) : OB (ext fp w w2) v' := by
  intro k hk
  rcases hf with hf | hf
  · exact .inl (h k (hf ▸ hk))
  · exact .inr ⟨hf k hk, hl k hk⟩
theorem own_lt {base : Nat} {e : TypeId} {size : Nat} {v : Value} {n : Nat} {xs : List Value} (h : w.ownsRow base e size v n xs) : ∀ k, v.ownBlock = some k → k < w.heap.size := fun k hk => (h.lt k hk).2

/-- An entry's sizes: another row, or the old one longer; stored into the entry. -/
theorem RepAt.setSizes {g n cap : Nat} (h : RepAt w A st fp (.slice (some ⟨g, 0, none⟩) n cap) vf es) {i : Nat} {e : Ent} {u v u' : Value} (he : st.ents[i]? = some e) (hu : es[i]? = some (u, v))
    (hg : w.grownBy w2 u.ownBlock) (l : List Nat) (ho : w2.ownsRow 0 56 1 u' l.length (sizeCells l)) (hf : freshOr w u u') :
    RepAt (w2.setCell ⟨g, i * 2, none⟩ u') A { st with ents := st.ents.set i { e with sizes := l } } (ext fp w w2) (.slice (some ⟨g, 0, none⟩) n cap) vf (es.set i (u', v)) := by
  have hv := h.sizes i e _ he hu
  have hi : i < st.ents.length := (List.getElem?_eq_some_iff.1 he).1
  have hie : i < es.length := by rw [h.len]; exact hi
  have hsz : (w2.setCell ⟨g, i * 2, none⟩ u').heap.size = w2.heap.size := by simp [World.setCell]
  have hgE : Value.ownBlock (.slice (some ⟨g, 0, none⟩) n cap) = some g := rfl
  have hother : ∀ k, fp k → k ≠ g → u.ownBlock ≠ some k → (w2.setCell ⟨g, i * 2, none⟩ u').heap[k]? = w.heap[k]? := fun k hk h1 h2 => by
    rw [heap_setCell_other w2 ⟨g, i * 2, none⟩ k _ h1]
    exact hg.block k (h.fplt k hk) fun e => h2 e.symm
  have hE2 : w2.ownsRow 0 86 2 (.slice (some ⟨g, 0, none⟩) n cap) es.length (entCells es) :=
    ownsRow_of_block h.ents fun k hk => hg.block k (h.fplt k (h.fpE k hk)) fun e => own_apart h.ents hv.1 (by decide) k hk e.symm
  have hgh : ∀ (e' : TypeId) (s : Nat) (x : Value) (m : Nat) (xs : List Value), w2.ownsRow 0 e' s x m xs → e' ≠ 86 → x.ownBlock ≠ some g := fun e' s x m xs hx hne hk => own_apart hx hE2 hne g hk rfl
  obtain ⟨ao, c, hve, _⟩ := own_shape hE2
  simp only [Value.slice.injEq] at hve
  obtain ⟨rfl, rfl, rfl⟩ := hve
  exact
  { head := by
      rw [hother A h.fpA (fun e => own_ne h.ents h.head (by decide) (e ▸ rfl)) (own_ne hv.1 h.head (by decide))]
      exact h.head
    fpA := .inl h.fpA
    fplt := fun k hf => by
      rw [hsz]
      rcases hf with hf | hf
      · exact Nat.lt_of_lt_of_le (h.fplt k hf) hg.size
      · exact hf.2
    ents := by
      have := (hE2.stored (i * 2) u').1
      rw [entCells_set1 es i u v u' hu] at this
      simpa using this
    fpE := h.fpE.ext
    free := ownsRow_of_block h.free fun k hk => hother k (h.fpF k hk) (fun e => own_apart h.free h.ents (by decide) k hk (e ▸ rfl)) (own_apart h.free hv.1 (by decide) k hk)
    fpF := h.fpF.ext
    len := by simpa using h.len
    sizes := fun j e' v' h1 h2 => by
      rcases get_set_some h1 with ⟨rfl, rfl, _⟩ | ⟨hij, h1⟩
      · rcases get_set_some h2 with ⟨_, rfl, _⟩ | ⟨hij, _⟩
        · refine ⟨ownsRow_of_block ho fun k hk => heap_setCell_other w2 ⟨g, i * 2, none⟩ k _ fun (e : k = g) => ?_, hf.ob hv.2 (own_lt ho)⟩
          exact hgh _ _ _ _ _ ho (by decide) (e ▸ hk)
        · exact absurd rfl hij
      · rcases get_set_some h2 with ⟨e, _⟩ | ⟨_, h2⟩
        · exact absurd e hij
        · have hs1 := h.sizes j e' v' h1 h2
          exact ⟨ownsRow_of_block hs1.1 fun k hk => hother k (hs1.2 k hk) (fun e => own_apart hs1.1 h.ents (by decide) k hk (e ▸ rfl)) (h.apart1 j i v' (u, v) (fun e => hij e.symm) h2 hu k hk), hs1.2.ext⟩
    slots := fun j e' v' h1 h2 => by
      obtain ⟨e0, v0, hj1, hj2, hj3, hj4⟩ : ∃ e0 v0, st.ents[j]? = some e0 ∧ es[j]? = some v0 ∧ e'.slots = e0.slots ∧ v'.2 = v0.2 := by
        rcases get_set_some h1 with ⟨rfl, rfl, _⟩ | ⟨hij, h1⟩
        · rcases get_set_some h2 with ⟨_, rfl, _⟩ | ⟨hij, _⟩
          · exact ⟨e, _, he, hu, rfl, rfl⟩
          · exact absurd rfl hij
        · rcases get_set_some h2 with ⟨e, _⟩ | ⟨_, h2⟩
          · exact absurd e hij
          · exact ⟨_, _, h1, h2, rfl, rfl⟩
      have hs1 := h.slots j e0 v0 hj1 hj2
      rw [hj3, hj4]
      exact ⟨ownsRow_of_block hs1.1 fun k hk => hother k (hs1.2 k hk) (fun e => own_apart hs1.1 h.ents (by decide) k hk (e ▸ rfl)) (own_apart hs1.1 hv.1 (by decide) k hk), hs1.2.ext⟩
    apart1 := fun j k x y hjk h1 h2 => by
      rcases get_set_some h1 with ⟨rfl, rfl, _⟩ | ⟨hij, h1⟩
      · rcases get_set_some h2 with ⟨e, _⟩ | ⟨_, h2⟩
        · exact absurd e hjk
        · intro b hb hb'
          rcases hf with hf | hf
          · exact h.apart1 i k (u, v) y hjk hu h2 b (hf ▸ hb) hb'
          · obtain ⟨e2, hee⟩ : ∃ e2, st.ents[k]? = some e2 := ⟨_, List.getElem?_eq_getElem (by rw [← h.len]; exact (List.getElem?_eq_some_iff.1 h2).1)⟩
            have := own_lt (h.sizes k e2 y hee h2).1 b hb'
            have := hf b hb
            omega
      · rcases get_set_some h2 with ⟨rfl, rfl, _⟩ | ⟨_, h2⟩
        · intro b hb hb'
          rcases hf with hf | hf
          · exact h.apart1 j i x (u, v) hjk h1 hu b hb (hf ▸ hb')
          · obtain ⟨e2, hee⟩ : ∃ e2, st.ents[j]? = some e2 := ⟨_, List.getElem?_eq_getElem (by rw [← h.len]; exact (List.getElem?_eq_some_iff.1 h1).1)⟩
            have := own_lt (h.sizes j e2 x hee h1).1 b hb
            have := hf b hb'
            omega
        · exact h.apart1 j k x y hjk h1 h2
    apart2 := fun j k x y hjk h1 h2 => by
      have hx : ∃ x0, es[j]? = some x0 ∧ x.2 = x0.2 := by
        rcases get_set_some h1 with ⟨rfl, rfl, _⟩ | ⟨hij, h1⟩
        · exact ⟨_, hu, rfl⟩
        · exact ⟨_, h1, rfl⟩
      have hy : ∃ y0, es[k]? = some y0 ∧ y.2 = y0.2 := by
        rcases get_set_some h2 with ⟨rfl, rfl, _⟩ | ⟨hij, h2⟩
        · exact ⟨_, hu, rfl⟩
        · exact ⟨_, h2, rfl⟩
      obtain ⟨x0, hx0, ex⟩ := hx
      obtain ⟨y0, hy0, ey⟩ := hy
      rw [ex, ey]
      exact h.apart2 j k x0 y0 hjk hx0 hy0 }

/-- An entry's slots: none, or a new row; stored into the entry. -/
theorem RepAt.setSlots {g n cap : Nat} (h : RepAt w A st fp (.slice (some ⟨g, 0, none⟩) n cap) vf es) {i : Nat} {e : Ent} {u v v' : Value} (he : st.ents[i]? = some e) (hu : es[i]? = some (u, v))
    (hg : w.grownBy w2 none) (l : List (Int × Bool)) (ho : w2.ownsRow 0 91 2 v' l.length (slotCells l)) (hf : ∀ k, v'.ownBlock = some k → w.heap.size ≤ k) :
    RepAt (w2.setCell ⟨g, i * 2 + 1, none⟩ v') A { st with ents := st.ents.set i { e with slots := l } } (ext fp w w2) (.slice (some ⟨g, 0, none⟩) n cap) vf (es.set i (u, v')) := by
  have hi : i < st.ents.length := (List.getElem?_eq_some_iff.1 he).1
  have hie : i < es.length := by rw [h.len]; exact hi
  have hsz : (w2.setCell ⟨g, i * 2 + 1, none⟩ v').heap.size = w2.heap.size := by simp [World.setCell]
  have hother : ∀ k, fp k → k ≠ g → (w2.setCell ⟨g, i * 2 + 1, none⟩ v').heap[k]? = w.heap[k]? := fun k hk h1 => by
    rw [heap_setCell_other w2 ⟨g, i * 2 + 1, none⟩ k _ h1]
    exact hg.block k (h.fplt k hk) (by simp)
  have hE2 : w2.ownsRow 0 86 2 (.slice (some ⟨g, 0, none⟩) n cap) es.length (entCells es) :=
    ownsRow_of_block h.ents fun k hk => hg.block k (h.fplt k (h.fpE k hk)) (by simp)
  obtain ⟨ao, c, hve, _⟩ := own_shape hE2
  simp only [Value.slice.injEq] at hve
  obtain ⟨rfl, rfl, rfl⟩ := hve
  exact
  { head := by
      rw [hother A h.fpA (fun e => own_ne h.ents h.head (by decide) (e ▸ rfl))]
      exact h.head
    fpA := .inl h.fpA
    fplt := fun k hf => by
      rw [hsz]
      rcases hf with hf | hf
      · exact Nat.lt_of_lt_of_le (h.fplt k hf) hg.size
      · exact hf.2
    ents := by
      have := (hE2.stored (i * 2 + 1) v').1
      rw [entCells_set2 es i u v v' hu] at this
      simpa using this
    fpE := h.fpE.ext
    free := ownsRow_of_block h.free fun k hk => hother k (h.fpF k hk) (fun e => own_apart h.free h.ents (by decide) k hk (e ▸ rfl))
    fpF := h.fpF.ext
    len := by simpa using h.len
    sizes := fun j e' v' h1 h2 => by
      obtain ⟨e0, v0, hj1, hj2, hj3, hj4⟩ : ∃ e0 v0, st.ents[j]? = some e0 ∧ es[j]? = some v0 ∧ e'.sizes = e0.sizes ∧ v'.1 = v0.1 := by
        rcases get_set_some h1 with ⟨rfl, rfl, _⟩ | ⟨hij, h1⟩
        · rcases get_set_some h2 with ⟨_, rfl, _⟩ | ⟨hij, _⟩
          · exact ⟨e, _, he, hu, rfl, rfl⟩
          · exact absurd rfl hij
        · rcases get_set_some h2 with ⟨e, _⟩ | ⟨_, h2⟩
          · exact absurd e hij
          · exact ⟨_, _, h1, h2, rfl, rfl⟩
      have hs1 := h.sizes j e0 v0 hj1 hj2
      rw [hj3, hj4]
      exact ⟨ownsRow_of_block hs1.1 fun k hk => hother k (hs1.2 k hk) (fun e => own_apart hs1.1 h.ents (by decide) k hk (e ▸ rfl)), hs1.2.ext⟩
    slots := fun j e' x' h1 h2 => by
      rcases get_set_some h1 with ⟨rfl, rfl, _⟩ | ⟨hij, h1⟩
      · rcases get_set_some h2 with ⟨_, rfl, _⟩ | ⟨hij, _⟩
        · refine ⟨ownsRow_of_block ho fun k hk => heap_setCell_other w2 ⟨g, i * 2 + 1, none⟩ k _ fun e => ?_, fun k hk => .inr ⟨hf k hk, own_lt ho k hk⟩⟩
          exact own_apart ho hE2 (by decide) k hk (e ▸ rfl)
        · exact absurd rfl hij
      · rcases get_set_some h2 with ⟨e, _⟩ | ⟨_, h2⟩
        · exact absurd e hij
        · have hs1 := h.slots j e' x' h1 h2
          exact ⟨ownsRow_of_block hs1.1 fun k hk => hother k (hs1.2 k hk) (fun e => own_apart hs1.1 h.ents (by decide) k hk (e ▸ rfl)), hs1.2.ext⟩
    apart1 := fun j k x y hjk h1 h2 => by
      have hx : ∃ x0, es[j]? = some x0 ∧ x.1 = x0.1 := by
        rcases get_set_some h1 with ⟨rfl, rfl, _⟩ | ⟨hij, h1⟩
        · exact ⟨_, hu, rfl⟩
        · exact ⟨_, h1, rfl⟩
      have hy : ∃ y0, es[k]? = some y0 ∧ y.1 = y0.1 := by
        rcases get_set_some h2 with ⟨rfl, rfl, _⟩ | ⟨hij, h2⟩
        · exact ⟨_, hu, rfl⟩
        · exact ⟨_, h2, rfl⟩
      obtain ⟨x0, hx0, ex⟩ := hx
      obtain ⟨y0, hy0, ey⟩ := hy
      rw [ex, ey]
      exact h.apart1 j k x0 y0 hjk hx0 hy0
    apart2 := fun j k x y hjk h1 h2 => by
      rcases get_set_some h1 with ⟨rfl, rfl, _⟩ | ⟨hij, h1⟩
      · rcases get_set_some h2 with ⟨e, _⟩ | ⟨_, h2⟩
        · exact absurd e hjk
        · intro b hb hb'
          obtain ⟨e2, hee⟩ : ∃ e2, st.ents[k]? = some e2 := ⟨_, List.getElem?_eq_getElem (by rw [← h.len]; exact (List.getElem?_eq_some_iff.1 h2).1)⟩
          have := own_lt (h.slots k e2 y hee h2).1 b hb'
          have := hf b hb
          omega
      · rcases get_set_some h2 with ⟨rfl, rfl, _⟩ | ⟨_, h2⟩
        · intro b hb hb'
          obtain ⟨e2, hee⟩ : ∃ e2, st.ents[j]? = some e2 := ⟨_, List.getElem?_eq_getElem (by rw [← h.len]; exact (List.getElem?_eq_some_iff.1 h1).1)⟩
          have := own_lt (h.slots j e2 x hee h1).1 b hb
          have := hf b hb'
          omega
        · exact h.apart2 j k x y hjk h1 h2 }

/-- The free indexes: another row, or the old one longer or shorter; stored into the slab. -/
theorem RepAt.setFree (h : RepAt w A st fp ve vf es) {vf' : Value} (hg : w.grownBy w2 vf.ownBlock) (l : List Nat) (ho : w2.ownsRow 0 3 1 vf' l.length (freeCells l)) (hf : freshOr w vf vf') :
    RepAt (w2.setCell ⟨A, 4, none⟩ vf') A { st with free := l } (ext fp w w2) ve vf' es := by
  have hsz : (w2.setCell ⟨A, 4, none⟩ vf').heap.size = w2.heap.size := by simp [World.setCell]
  have hother : ∀ k, fp k → k ≠ A → vf.ownBlock ≠ some k → (w2.setCell ⟨A, 4, none⟩ vf').heap[k]? = w.heap[k]? := fun k hk h1 h2 => by
    rw [heap_setCell_other w2 ⟨A, 4, none⟩ k _ h1]
    exact hg.block k (h.fplt k hk) fun e => h2 e.symm
  have hA2 : w2.heap[A]? = some (.cells #[.int .i64 st.room, .int .i64 st.live, .int .i64 st.used, ve, vf] 69 (0, 0)) := by
    rw [hg.block A (h.fplt A h.fpA) fun e => own_ne h.free h.head (by decide) e.symm]
    exact h.head
  exact
  { head := by
      rw [heap_setCell_same w2 A 4 _ 69 _ hA2]
      simp
    fpA := .inl h.fpA
    fplt := fun k hf => by
      rw [hsz]
      rcases hf with hf | hf
      · exact Nat.lt_of_lt_of_le (h.fplt k hf) hg.size
      · exact hf.2
    ents := ownsRow_of_block h.ents fun k hk => hother k (h.fpE k hk) (fun e => own_ne h.ents h.head (by decide) (e ▸ hk)) (own_apart h.ents h.free (by decide) k hk)
    fpE := h.fpE.ext
    free := ownsRow_of_block ho fun k hk => heap_setCell_other w2 ⟨A, 4, none⟩ k _ fun (e : k = A) => own_ne ho hA2 (by decide) (e ▸ hk)
    fpF := hf.ob h.fpF (own_lt ho)
    len := h.len
    sizes := fun j e' v' h1 h2 => by
      have hs1 := h.sizes j e' v' h1 h2
      exact ⟨ownsRow_of_block hs1.1 fun k hk => hother k (hs1.2 k hk) (fun e => own_ne hs1.1 h.head (by decide) (e ▸ hk)) (own_apart hs1.1 h.free (by decide) k hk), hs1.2.ext⟩
    slots := fun j e' v' h1 h2 => by
      have hs1 := h.slots j e' v' h1 h2
      exact ⟨ownsRow_of_block hs1.1 fun k hk => hother k (hs1.2 k hk) (fun e => own_ne hs1.1 h.head (by decide) (e ▸ hk)) (own_apart hs1.1 h.free (by decide) k hk), hs1.2.ext⟩
    apart1 := h.apart1
    apart2 := h.apart2 }

/-- One entry more. -/
theorem RepAt.pushEnt (h : RepAt w A st fp ve vf es) {ve' : Value} (hg : w.grownBy w2 ve.ownBlock) (ho : w2.ownsRow 0 86 2 ve' (es.length + 1) (entCells es ++ [.slice none 0 0, .slice none 0 0])) (hf : freshOr w ve ve') :
    RepAt (w2.setCell ⟨A, 3, none⟩ ve') A { st with ents := st.ents ++ [⟨[], []⟩] } (ext fp w w2) ve' vf (es ++ [(.slice none 0 0, .slice none 0 0)]) := by
  have hsz : (w2.setCell ⟨A, 3, none⟩ ve').heap.size = w2.heap.size := by simp [World.setCell]
  have hother : ∀ k, fp k → k ≠ A → ve.ownBlock ≠ some k → (w2.setCell ⟨A, 3, none⟩ ve').heap[k]? = w.heap[k]? := fun k hk h1 h2 => by
    rw [heap_setCell_other w2 ⟨A, 3, none⟩ k _ h1]
    exact hg.block k (h.fplt k hk) fun e => h2 e.symm
  have hA2 : w2.heap[A]? = some (.cells #[.int .i64 st.room, .int .i64 st.live, .int .i64 st.used, ve, vf] 69 (0, 0)) := by
    rw [hg.block A (h.fplt A h.fpA) fun e => own_ne h.ents h.head (by decide) e.symm]
    exact h.head
  have hcase : ∀ (j : Nat) (e' : Ent) (v' : Value × Value), (st.ents ++ [⟨[], []⟩])[j]? = some e' → (es ++ [(Value.slice none 0 0, Value.slice none 0 0)])[j]? = some v' →
      (st.ents[j]? = some e' ∧ es[j]? = some v') ∨ (e' = ⟨[], []⟩ ∧ v' = (Value.slice none 0 0, Value.slice none 0 0)) := by
    intro j e' v' h1 h2
    by_cases hj : j < st.ents.length
    · rw [List.getElem?_append_left hj] at h1
      rw [List.getElem?_append_left (by rw [h.len]; exact hj)] at h2
      exact .inl ⟨h1, h2⟩
    · rw [List.getElem?_append_right (by omega)] at h1
      rw [List.getElem?_append_right (by rw [h.len]; omega)] at h2
      rw [h.len] at h2
      cases hz : j - st.ents.length with
      | zero => rw [hz] at h1 h2; simp at h1 h2; exact .inr ⟨h1.symm, h2.symm⟩
      | succ m => rw [hz] at h1; simp at h1
  have hcase2 : ∀ (j : Nat) (v' : Value × Value), (es ++ [(Value.slice none 0 0, Value.slice none 0 0)])[j]? = some v' → es[j]? = some v' ∨ v' = (Value.slice none 0 0, Value.slice none 0 0) := by
    intro j v' h2
    by_cases hj : j < es.length
    · rw [List.getElem?_append_left hj] at h2
      exact .inl h2
    · rw [List.getElem?_append_right (by omega)] at h2
      cases hz : j - es.length with
      | zero => rw [hz] at h2; simp at h2; exact .inr h2.symm
      | succ m => rw [hz] at h2; simp at h2
  exact
  { head := by
      rw [heap_setCell_same w2 A 3 _ 69 _ hA2]
      simp
    fpA := .inl h.fpA
    fplt := fun k hf => by
      rw [hsz]
      rcases hf with hf | hf
      · exact Nat.lt_of_lt_of_le (h.fplt k hf) hg.size
      · exact hf.2
    ents := by
      have := ownsRow_of_block (w' := w2.setCell ⟨A, 3, none⟩ ve') ho fun k hk => heap_setCell_other w2 ⟨A, 3, none⟩ k _ fun (e : k = A) => own_ne ho hA2 (by decide) (e ▸ hk)
      simpa [entCells] using this
    fpE := hf.ob h.fpE (own_lt ho)
    free := ownsRow_of_block h.free fun k hk => hother k (h.fpF k hk) (fun e => own_ne h.free h.head (by decide) (e ▸ hk)) (own_apart h.free h.ents (by decide) k hk)
    fpF := h.fpF.ext
    len := by simp [h.len]
    sizes := fun j e' v' h1 h2 => by
      rcases hcase j e' v' h1 h2 with ⟨h1, h2⟩ | ⟨rfl, rfl⟩
      · have hs1 := h.sizes j e' v' h1 h2
        exact ⟨ownsRow_of_block hs1.1 fun k hk => hother k (hs1.2 k hk) (fun e => own_ne hs1.1 h.head (by decide) (e ▸ hk)) (own_apart hs1.1 h.ents (by decide) k hk), hs1.2.ext⟩
      · exact ⟨World.ownsRow_nil _ _ _ _, fun k hk => by simp [Value.ownBlock] at hk⟩
    slots := fun j e' v' h1 h2 => by
      rcases hcase j e' v' h1 h2 with ⟨h1, h2⟩ | ⟨rfl, rfl⟩
      · have hs1 := h.slots j e' v' h1 h2
        exact ⟨ownsRow_of_block hs1.1 fun k hk => hother k (hs1.2 k hk) (fun e => own_ne hs1.1 h.head (by decide) (e ▸ hk)) (own_apart hs1.1 h.ents (by decide) k hk), hs1.2.ext⟩
      · exact ⟨World.ownsRow_nil _ _ _ _, fun k hk => by simp [Value.ownBlock] at hk⟩
    apart1 := fun j k x y hjk h1 h2 => by
      rcases hcase2 j x h1 with h1 | rfl
      · rcases hcase2 k y h2 with h2 | rfl
        · exact h.apart1 j k x y hjk h1 h2
        · intro b _ hb; simp [Value.ownBlock] at hb
      · intro b hb; simp [Value.ownBlock] at hb
    apart2 := fun j k x y hjk h1 h2 => by
      rcases hcase2 j x h1 with h1 | rfl
      · rcases hcase2 k y h2 with h2 | rfl
        · exact h.apart2 j k x y hjk h1 h2
        · intro b _ hb; simp [Value.ownBlock] at hb
      · intro b hb; simp [Value.ownBlock] at hb }
end
end Go.Proofs.Ytbjofdijhcdmaaa
