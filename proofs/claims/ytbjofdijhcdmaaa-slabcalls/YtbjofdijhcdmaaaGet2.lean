/-
  Get.
-/
import Derived.Test.YtbjofdijhcdmaaaGet
namespace Go.Proofs.Ytbjofdijhcdmaaa
set_option linter.unusedVariables false
open Go.RowKit

set_option maxHeartbeats 400000 in
theorem get_range (A : Nat) (n : Int) (w : World) (h : n < 1 ∨ 4095 < n) :
    Calls Try.prog 15 #[.pointer (some ⟨A, 0, none⟩), .int .i64 n] w fun e w' => e = .returned (.tuple #[.int .u64 0, .int .i64 11]) ∧ w = w' := by
  by_cases h1 : n < 1
  · clear h
    go_enter Try.func15, Try.ntmps15
    go_wp2
    go_ret2
    exact ⟨rfl, rfl⟩
  · have h2 : 4095 < n := by omega
    clear h
    go_enter Try.func15, Try.ntmps15
    go_wp2
    go_ret2
    exact ⟨rfl, rfl⟩

set_option maxHeartbeats 400000 in
theorem get_full (A : Nat) (n r u : Int) (w : World) (h1 : 1 ≤ n) (h2 : n ≤ 4095) (hr0 : 0 ≤ r) (hr : r ≤ 16384) (hu0 : 0 ≤ u) (hu : u ≤ 16384) (c0 : w.cell? ⟨A, 0, none⟩ = some (.int .i64 r)) (c2 : w.cell? ⟨A, 2, none⟩ = some (.int .i64 u)) (hf : r < u + n) :
    Calls Try.prog 15 #[.pointer (some ⟨A, 0, none⟩), .int .i64 n] w fun e w' => e = .returned (.tuple #[.int .u64 0, .int .i64 13]) ∧ w.drew = w' := by
  go_enter Try.func15, Try.ntmps15
  go_wp2
  go_region
  all_goals go_wp2
  all_goals go_ret2
  all_goals exact ⟨rfl, rfl⟩

def GotPost (A : Nat) (n : Int) (st : Sl) (w : World) (fp : Nat → Prop) (e : Ending) (w' : World) : Prop :=
  e = .returned (.tuple #[.int .u64 (mget st n).2.1, .int .i64 (mget st n).2.2]) ∧ Did w A (mget st n).1 fp w'

theorem size_setCell' (w : World) (a : Addr) (v : Value) : (w.setCell a v).heap.size = w.heap.size := by simp [World.setCell]
theorem Did.undrew {w : World} {A : Nat} {st : Sl} {fp : Nat → Prop} {w' : World} (h : Did w.drew A st fp w') : Did w A st fp w' := ⟨h.1, h.2.os, h.2.tape, h.2.output, h.2.size, h.2.block⟩

theorem madeSlots (n : Nat) : (madeCells #[.int .i64 0, .bool false] (n * 2)).toList = slotCells (List.replicate n (0, false)) := by
  refine List.ext_getElem? fun k => ?_
  have hlen : (slotCells (List.replicate n ((0 : Int), false))).length = n * 2 := by rw [slotCells_length]; simp
  by_cases hk : k < n * 2
  · have h2 := flat2_get (fun s : Int × Bool => Value.int .i64 s.1) (fun s => Value.bool s.2) (List.replicate n ((0 : Int), false)) (k / 2)
    have hk2 : k / 2 < n := by omega
    rw [List.getElem?_replicate, if_pos hk2] at h2
    have e : (madeCells #[.int .i64 0, .bool false] (n * 2)).toList[k]? = some ((#[.int .i64 0, .bool false] : Array Value)[k % 2]!) := by
      simp [madeCells, hk]
    rw [e]
    rcases (show k % 2 = 0 ∨ k % 2 = 1 by omega) with h | h
    · rw [h]
      have : k = k / 2 * 2 := by omega
      rw [this]
      exact h2.1.symm
    · rw [h]
      have : k = k / 2 * 2 + 1 := by omega
      rw [this]
      exact h2.2.symm
  · rw [List.getElem?_eq_none (by rw [Array.length_toList, size_madeCells]; omega), List.getElem?_eq_none (by rw [hlen]; omega)]

set_option maxRecDepth 100000 in
set_option maxHeartbeats 1000000 in
theorem get_ok {w : World} {A : Nat} {st : Sl} {fp : Nat → Prop} (h : Rep w A st fp) (hv : Inv st) (hs : Small st 900000) (n : Nat) (h1 : 1 ≤ n) (h2 : n ≤ 4095) (hf : st.used + n ≤ st.room) (e1 : Ent) (he1 : (mtake st).1.ents[(mtake st).2]? = some e1) (hse : e1.sizes.length ≤ 900000)
    (hli : (mtake st).1.live = st.live) (hus : (mtake st).1.used = st.used) (hlv : st.live ≤ 16384) (hix : (mtake st).2 ≤ 900000) :
    Calls Try.prog 15 #[.pointer (some ⟨A, 0, none⟩), .int .i64 n] w fun e w' => GotPost A n st w fp e w' := by
  obtain ⟨ve, vf, es, h0⟩ := id h
  have c0 := h0.cells.1
  have c2 := h0.cells.2.2.1
  have hr := hv.room
  have hu := hv.fits
  have htk := (takeIndex_any (w := w.drew) (fp := fp) (A := A) (st := st) (h.frame (Nat.le_refl _) fun _ _ => rfl) ⟨by have := hs.ents; omega, by have := hs.free; omega, fun e he => by have := hs.sizes e he; omega⟩)
  have hfin : ∀ w', Did w.drew A (mnew (mtake st).1 (mtake st).2 n) fp w' → GotPost A n st w fp (.returned (.tuple #[.int .u64 (4611686018427387904 + (e1.sizes.length : Int) * 4294967296 + ((mtake st).2 : Int) * 4096), .int .i64 0])) w' := by
    intro w' hd
    have em : mget st n = (mnew (mtake st).1 (mtake st).2 n, mkAddr (ageAt (mtake st).1 (mtake st).2) (mtake st).2, 0) := by
      unfold mget
      rw [if_neg (by omega), if_neg (by omega)]
      simp
    unfold GotPost
    rw [em]
    refine ⟨?_, hd.undrew⟩
    simp [mkAddr, ageAt, he1]
  have Hfin := hidIt hfin
  clear hfin
  generalize hst1 : (mtake st).1 = st1 at *
  generalize hidx : (mtake st).2 = i at *
  clear hst1 hidx
  have Htk := hidIt htk
  have Hli := hidIt hli
  have Hus := hidIt hus
  have Hv := hidIt hv
  have Hs := hidIt hs
  have He1 := hidIt he1
  clear h0 h hs hv htk hli hus he1
  go_enter Try.func15, Try.ntmps15
  go_wp2
  go_region
  go_wp2_with fail
  refine Htk.out.mono ?_
  rintro e w1 ⟨rfl, hd⟩
  obtain ⟨⟨ve1, vf1, es1, hR⟩, hK⟩ := hd
  have he1 := He1.out
  have hiN : i < st1.ents.length := (List.getElem?_eq_some_iff.1 he1).1
  obtain ⟨g, cap, rfl⟩ := hR.posE he1
  obtain ⟨u, v, hu1⟩ := hR.get he1
  obtain ⟨cu, cv⟩ := hR.entCell hu1
  have zu := hR.entFrz (i * 2)
  have zv := hR.entFrz (i * 2 + 1)
  have c3 := hR.cells.2.2.2.1
  have hgA : g ≠ A := fun e => own_ne hR.ents hR.head (by decide) (by rw [← e]; rfl)
  have hgl : g < w1.heap.size := hR.fplt g (hR.fpE g rfl)
  have hAl : A < w1.heap.size := hR.fplt A hR.fpA
  have ho1 := (hR.sizes i e1 _ he1 hu1).1
  have hon := own_apart ho1 hR.ents (by decide)
  have hoA := own_ne ho1 hR.head (by decide)
  obtain ⟨au, cpu, hus, _⟩ := own_shape ho1
  simp only at hus
  subst hus
  have HR := hidIt hR
  have HK := hidIt hK
  have Hu1 := hidIt hu1
  have Hon := hidIt hon
  have HoA := hidIt hoA
  have Ho1 := hidIt ho1
  clear hR hK he1 hu1 hon hoA ho1
  obtain ⟨i6, hi6, hz60, hz61, hz62⟩ := info_parts Try.info56
  go_wp2_with (at_builtin; go_must (refine wpList_append_fr _ rfl _ _ 54 rfl 56 i6 _ 1 2 Try.underlying54 hi6 hz60 hz61 hz62 rfl (by decide) _ _ _ rfl (Ho1.out.alloc _) ⟨w1.heap.size, 0, none⟩ 1 1 [.int .u16 n] rfl rfl ?c1 ?c2 (by decide) ?c3 ?c4 ?_))
  case c1 => exact cell_one_new _ _ _
  case c2 => intro u hu; simp at hu; subst hu; rfl
  case c3 => unfold maxLen; omega
  case c4 => omega
  intro u' w2 ho2 hg2 hf2
  have hgb : w2.heap[g]? = w1.heap[g]? := (hg2.block g (by simp; omega) (fun e => Hon.out g e.symm rfl)).trans (Below.heap_alloc w1 _ g hgl)
  have cu2 : w2.cell? ⟨g, i * 2, none⟩ = some (.slice au e1.sizes.length cpu) := (World.cell?_of_block (w := w1) hgb).trans cu
  have zu2 : w2.frozen? ⟨g, i * 2, none⟩ = false := (World.frozen?_of_block (w := w1) hgb).trans zu
  have hR1 := HR.out.grow (Kp.alloc (fun _ => False) w1 (.cells #[.int .u16 n] 56))
  have hR2 := hR1.setSizes He1.out Hu1.out hg2 (e1.sizes ++ [n]) (by simpa [sizeCells] using ho2) hf2
  have hk2 : Kp (ext fp w.drew w1) w1 (w2.setCell ⟨g, i * 2, none⟩ u') :=
    ((Kp.alloc _ w1 _).trans (Kp.grown hg2 fun k hk => .inl ((HR.out.sizes i e1 _ He1.out Hu1.out).2 k hk))).trans' (Kp.setCell _ (p := ⟨g, i * 2, none⟩) (HR.out.fpE g rfl) _)
  have hsz2 : w1.heap.size + 1 ≤ w2.heap.size := by have := hg2.size; simpa using this
  have hsz1 : w.heap.size ≤ w1.heap.size := HK.out.size
  obtain ⟨gu, cpu', rfl, _, _⟩ := own_pos ho2 (by omega)
  have HR2 := hidIt hR2
  have HK2 := hidIt hk2
  clear hi6 hz60 hz61 hz62 ho2 hg2 hf2 hR1 hR2 hk2 hgb cu zu c3 Ho1 HoA Hon
  obtain ⟨i9, hi9, hz90, hz91, hz92⟩ := info_parts Try.info91
  go_wp2_with (at_make; go_must (refine wpList_make_full _ rfl _ _ 84 rfl 0 91 i9 _ 2 Try.underlying84 hi9 hz90 hz91 .i64 .i64 n n n rfl rfl rfl rfl ?d1 ?d2 ?d3 ?_))
  case d1 => rw [hz92]; omega
  case d2 => unfold maxLen; omega
  case d3 => omega
  clear hi9 hz90 hz91 hz92
  intro w3 ho3 hg3
  rw [madeSlots] at ho3
  have hsz3 : w2.heap.size ≤ w3.heap.size := by have := hg3.size; simp only [size_setCell'] at this; exact this
  have hszd : w.drew.heap.size = w.heap.size := rfl
  have hR2 := HR2.out
  have hR3' := hR2.grow (Kp.grown (fp := fun _ => False) hg3 (fun k hk => by cases hk))
  have hi2 : i < es1.length := (List.getElem?_eq_some_iff.1 Hu1.out).1
  have hu2 : (es1.set i (Value.slice (some ⟨gu, 0, none⟩) (e1.sizes.length + 1) cpu', v))[i]? = some (Value.slice (some ⟨gu, 0, none⟩) (e1.sizes.length + 1) cpu', v) := by simp [hi2]
  obtain ⟨c3u, c3v⟩ := hR3'.entCell hu2
  have z3u := hR3'.entFrz (i * 2)
  have z3v := hR3'.entFrz (i * 2 + 1)
  have c31 := hR3'.cells.2.1
  have c32 := hR3'.cells.2.2.1
  have z31 := hR3'.frz 1
  have z32 := hR3'.frz 2
  have hAg : A ≠ g := fun e => hgA e.symm
  simp only [Hli.out, Hus.out] at c31 c32
  have hgl3 : g < w3.heap.size := hR3'.fplt g (hR3'.fpE g rfl)
  have hAl3 : A < w3.heap.size := hR3'.fplt A hR3'.fpA
  have he2 : (st1.ents.set i { e1 with sizes := e1.sizes ++ [n] })[i]? = some { e1 with sizes := e1.sizes ++ [n] } := by simp [hiN]
  have hR3 := hR2.setSlots he2 hu2 hg3 (List.replicate n (0, false)) (v' := .slice (some ⟨w2.heap.size, 0, none⟩) n n) (by simpa using ho3) (fun k hk => by simp [Value.ownBlock] at hk; simp [World.setCell]; omega)
  have hR4 := hR3.setNum { room := st1.room, live := st.live + 1, used := st.used, ents := (st1.ents.set i { e1 with sizes := e1.sizes ++ [n] }).set i { sizes := e1.sizes ++ [n], slots := List.replicate n (0, false) }, free := st1.free } 1 ((st.live : Int) + 1) rfl rfl (by simp [Hus.out])
  have hR5 := hR4.setNum (mnew st1 i n) 2 ((st.used : Int) + n) (by simp [mnew, He1.out]) (by simp [mnew, He1.out]) (by simp [mnew, He1.out, Hus.out, Hli.out])
  have hk3 := (Kp.grown (fp := fun _ => False) hg3 (fun k hk => by cases hk)).of_false (fp := ext fp w.drew w1)
  have hk5 : Kp (ext fp w.drew w1) w3 (((w3.setCell ⟨g, i * 2 + 1, none⟩ (.slice (some ⟨w2.heap.size, 0, none⟩) n n)).setCell ⟨A, 1, none⟩ (.int .i64 ((st.live : Int) + 1))).setCell ⟨A, 2, none⟩ (.int .i64 ((st.used : Int) + n))) :=
    ((Kp.setCell w3 (p := ⟨g, i * 2 + 1, none⟩) (HR.out.fpE g rfl) _).trans' (Kp.setCell _ (p := ⟨A, 1, none⟩) HR.out.fpA _)).trans' (Kp.setCell _ (p := ⟨A, 2, none⟩) HR.out.fpA _)
  have hkk := (HK2.out.trans' hk3).trans' hk5
  obtain ⟨cF, _⟩ := hR5.entCell (show ((es1.set i (Value.slice (some ⟨gu, 0, none⟩) (e1.sizes.length + 1) cpu', v)).set i (Value.slice (some ⟨gu, 0, none⟩) (e1.sizes.length + 1) cpu', Value.slice (some ⟨w2.heap.size, 0, none⟩) n n))[i]? = some (Value.slice (some ⟨gu, 0, none⟩) (e1.sizes.length + 1) cpu', Value.slice (some ⟨w2.heap.size, 0, none⟩) n n) by simp [hi2])
  have hDid : Did w.drew A (mnew st1 i n) fp (((w3.setCell ⟨g, i * 2 + 1, none⟩ (.slice (some ⟨w2.heap.size, 0, none⟩) n n)).setCell ⟨A, 1, none⟩ (.int .i64 ((st.live : Int) + 1))).setCell ⟨A, 2, none⟩ (.int .i64 ((st.used : Int) + n))) := by
    refine ⟨⟨_, _, _, hR5.mono ?_ ?_⟩, HK.out.trans hkk⟩
    · intro k hk
      by_cases hfp : fp k
      · exact .inl hfp
      · refine .inr ?_
        simp only [ext, hfp, false_or, World.size_alloc, size_setCell'] at hk
        simp only [size_setCell']
        omega
    · intro k hk
      simp only [size_setCell']
      rcases hk with hk | hk
      · have := HR.out.fplt k (.inl hk)
        omega
      · simp only [size_setCell'] at hk
        omega
  have HG := hidIt (Hfin.out _ hDid)
  have HF := hidIt cF
  clear HR2 HK2 hR2 hR3' hR3 hR4 hR5 hk3 hk5 hkk cF hDid ho3 hg3 hu2 he2 hi2 HR HK Hu1 cu2 zu2 cv zv hgl hAl Hfin Htk Hv Hs He1 c0 c2 hszd
  go_wp2_with (go_at_call 40; go_must (refine (first_any _ _ _ _ _ _ _ HF.out (by omega) (by omega) (by omega) (by omega)).mono ?_); rintro e w' ⟨rfl, rfl⟩)
  go_ret2
  exact HG.out
end Go.Proofs.Ytbjofdijhcdmaaa
