/-
  The document's slab: Store, Blank.
-/
import Derived.Test.YtbjofdijhcdmaaaRRead
namespace Go.Proofs.Ytbjofdijhcdmaaa
set_option linter.unusedVariables false
open Go.RowKit

section
variable {w : World} {A N : Nat} {st : Sl} {rs : RS} {fp : Nat → Prop}

theorem pcells_same (es : List PV) (i : Nat) (e e' : PV) (he : es[i]? = some e) (hc : pcell e' = pcell e) : pcells (es.set i e') = pcells es := by
  have hi : i < es.length := (List.getElem?_eq_some_iff.1 he).1
  have := pcells_set es i 0 e e' (.int .i64 e.1.ix) he (by omega) (by rw [hc]; rfl)
  rw [← this]
  have h2 := pcells_get es i 0 e he (by omega)
  have h3 : (pcells es)[i * 5 + 0]? = some (.int .i64 e.1.ix) := h2
  obtain ⟨hl, hv⟩ := List.getElem?_eq_some_iff.1 h3
  rw [← hv]
  exact List.set_getElem_self hl

theorem RAt.stored {vp vf : Value} {es : List PV} (h : RAt w A rs fp vp vf es) {i j gv cv gh ch : Nat} {p : RP} (hu : es[i]? = some (p, .slice (some ⟨gv, 0, none⟩) p.vals.length cv, .slice (some ⟨gh, 0, none⟩) p.vals.length ch)) (hlen : p.has.length = p.vals.length) (x : Int) (b : Bool) :
    RAt ((w.setCell ⟨gv, j, none⟩ (.int .i64 x)).setCell ⟨gh, j, none⟩ (.bool b)) A (rset rs i (rput p j (x, b))) fp vp vf (es.set i (rput p j (x, b), .slice (some ⟨gv, 0, none⟩) p.vals.length cv, .slice (some ⟨gh, 0, none⟩) p.vals.length ch)) := by
  have hvr := h.data.vals i _ hu
  have hhr := h.data.has i _ hu
  have hi : i < es.length := (List.getElem?_eq_some_iff.1 hu).1
  have hb : ∀ k, k ≠ gv → k ≠ gh → ((w.setCell ⟨gv, j, none⟩ (.int .i64 x)).setCell ⟨gh, j, none⟩ (.bool b)).heap[k]? = w.heap[k]? := fun k h1 h2 =>
    (heap_setCell_other _ ⟨gh, j, none⟩ k _ h2).trans (heap_setCell_other _ ⟨gv, j, none⟩ k _ h1)
  have hsz : ((w.setCell ⟨gv, j, none⟩ (.int .i64 x)).setCell ⟨gh, j, none⟩ (.bool b)).heap.size = w.heap.size := by simp [World.setCell]
  have hgvh : gv ≠ gh := fun e => own_apart hvr.1 hhr.1 (by decide) gv rfl (by rw [e]; rfl)
  have hother : ∀ {base : Nat} {t : TypeId} {size : Nat} {v : Value} {n : Nat} {xs : List Value}, w.ownsRow base t size v n xs → v.ownBlock ≠ some gv → v.ownBlock ≠ some gh → ((w.setCell ⟨gv, j, none⟩ (.int .i64 x)).setCell ⟨gh, j, none⟩ (.bool b)).ownsRow base t size v n xs := fun ho n1 n2 =>
    ownsRow_of_block ho fun k hk => hb k (fun e => n1 (e ▸ hk)) (fun e => n2 (e ▸ hk))
  have hv0 : w.ownsRow 0 2 1 (.slice (some ⟨gv, 0, none⟩) p.vals.length cv) p.vals.length (valCells p.vals) := hvr.1
  have hh0 : w.ownsRow 0 4 1 (.slice (some ⟨gh, 0, none⟩) p.vals.length ch) p.vals.length (hasCells p.has) := by have := hhr.1; simp only at this; rw [hlen] at this; exact this
  have hv2 : ((w.setCell ⟨gv, j, none⟩ (.int .i64 x)).setCell ⟨gh, j, none⟩ (.bool b)).ownsRow 0 2 1 (.slice (some ⟨gv, 0, none⟩) p.vals.length cv) p.vals.length (valCells (p.vals.set j x)) := by
    have h1 := (hv0.stored j (.int .i64 x)).1
    have e1 : (valCells p.vals).set j (.int .i64 x) = valCells (p.vals.set j x) := by simp [valCells, List.map_set]
    rw [e1] at h1
    exact ownsRow_of_block h1 fun k hk => heap_setCell_other _ ⟨gh, j, none⟩ k _ (fun e => by simp [Value.ownBlock] at hk; simp at e; omega)
  have hh2 : ((w.setCell ⟨gv, j, none⟩ (.int .i64 x)).setCell ⟨gh, j, none⟩ (.bool b)).ownsRow 0 4 1 (.slice (some ⟨gh, 0, none⟩) p.vals.length ch) p.vals.length (hasCells (p.has.set j b)) := by
    have h0 : (w.setCell ⟨gv, j, none⟩ (.int .i64 x)).ownsRow 0 4 1 (.slice (some ⟨gh, 0, none⟩) p.vals.length ch) p.vals.length (hasCells p.has) :=
      ownsRow_of_block hh0 fun k hk => heap_setCell_other _ ⟨gv, j, none⟩ k _ (fun e => by simp [Value.ownBlock] at hk; simp at e; omega)
    have h1 := (h0.stored j (.bool b)).1
    have e1 : (hasCells p.has).set j (.bool b) = hasCells (p.has.set j b) := by simp [hasCells, List.map_set]
    rw [e1] at h1
    exact h1
  exact
  { head := by
      rw [hb A (fun e => own_ne hvr.1 h.head (by decide) (by rw [e]; rfl)) (fun e => own_ne hhr.1 h.head (by decide) (by rw [e]; rfl))]
      exact h.head
    fpA := h.fpA
    fplt := fun k hk => by rw [hsz]; exact h.fplt k hk
    prow := by
      rw [List.length_set, pcells_same es i _ (rput p j (x, b), _, _) hu rfl]
      exact hother h.prow (fun e => own_apart h.prow hvr.1 (by decide) gv e rfl) (fun e => own_apart h.prow hhr.1 (by decide) gh e rfl)
    fpP := h.fpP
    free := hother h.free (fun e => own_apart h.free hvr.1 (by decide) gv e rfl) (fun e => own_apart h.free hhr.1 (by decide) gh e rfl)
    fpF := h.fpF
    data :=
    { vals := fun k e he => by
        rcases get_set_some he with ⟨rfl, rfl, _⟩ | ⟨hne, he⟩
        · refine ⟨?_, hvr.2⟩
          simp only [rput, List.length_set]
          exact hv2
        · have := h.data.vals k e he
          exact ⟨hother this.1 (fun e' => h.data.ap1 k i e _ (fun x => hne x.symm) he hu gv e' rfl) (fun e' => own_apart this.1 hhr.1 (by decide) gh e' rfl), this.2⟩
      has := fun k e he => by
        rcases get_set_some he with ⟨rfl, rfl, _⟩ | ⟨hne, he⟩
        · refine ⟨?_, hhr.2⟩
          simp only [rput, List.length_set, hlen]
          exact hh2
        · have := h.data.has k e he
          exact ⟨hother this.1 (fun e' => own_apart this.1 hvr.1 (by decide) gv e' rfl) (fun e' => h.data.ap2 k i e _ (fun x => hne x.symm) he hu gh e' rfl), this.2⟩
      ap1 := fun k l a c hkl ha hc => by
        rcases get_set_some ha with ⟨rfl, rfl, _⟩ | ⟨_, ha⟩
        · rcases get_set_some hc with ⟨rfl, rfl, _⟩ | ⟨_, hc⟩
          · exact absurd rfl hkl
          · have t := h.data.ap1 i l _ c hkl hu hc
            exact t
        · rcases get_set_some hc with ⟨rfl, rfl, _⟩ | ⟨_, hc⟩
          · have t := h.data.ap1 k i a _ hkl ha hu
            exact t
          · exact h.data.ap1 k l a c hkl ha hc
      ap2 := fun k l a c hkl ha hc => by
        rcases get_set_some ha with ⟨rfl, rfl, _⟩ | ⟨_, ha⟩
        · rcases get_set_some hc with ⟨rfl, rfl, _⟩ | ⟨_, hc⟩
          · exact absurd rfl hkl
          · have t := h.data.ap2 i l _ c hkl hu hc
            exact t
        · rcases get_set_some hc with ⟨rfl, rfl, _⟩ | ⟨_, hc⟩
          · have t := h.data.ap2 k i a _ hkl ha hu
            exact t
          · exact h.data.ap2 k l a c hkl ha hc }
    ps := by simp [rset, List.map_set, h.ps] }

set_option maxHeartbeats 400000 in
theorem rstore_err (a v : Int) (c : Nat) (hc : ((c : Int) == 0) = false) (hf : Hid (FindErr w A a c)) :
    Calls Try.prog 28 #[.pointer (some ⟨A, 0, none⟩), .int .u64 a, .int .i64 v] w fun e w' => e = .returned (.int .i64 c) ∧ Kp (fun _ => False) w w' := by
  obtain ⟨i, k, hf⟩ := hf.out
  have Hf := hidIt hf
  clear hf
  go_enter Try.func28, Try.ntmps28
  go_wp2_with (go_at_call 47; go_must (refine Hf.out.mono ?_); rintro e w' ⟨rfl, hK⟩)
  go_ret
  exact ⟨rfl, hK⟩
set_option maxHeartbeats 400000 in
theorem rblank_err (a : Int) (c : Nat) (hc : ((c : Int) == 0) = false) (hf : Hid (FindErr w A a c)) :
    Calls Try.prog 29 #[.pointer (some ⟨A, 0, none⟩), .int .u64 a] w fun e w' => e = .returned (.int .i64 c) ∧ Kp (fun _ => False) w w' := by
  obtain ⟨i, k, hf⟩ := hf.out
  have Hf := hidIt hf
  clear hf
  go_enter Try.func29, Try.ntmps29
  go_wp2_with (go_at_call 47; go_must (refine Hf.out.mono ?_); rintro e w' ⟨rfl, hK⟩)
  go_ret
  exact ⟨rfl, hK⟩

/-- What lies where a slot is stored. -/
def SlotAt (w : World) (A g i j n cap gv gh nv cv ch : Nat) : Prop :=
  A ≠ gv ∧ g ≠ gv ∧ gh ≠ gv ∧ w.cell? ⟨A, 1, none⟩ = some (.slice (some ⟨g, 0, none⟩) n cap) ∧ w.cell? ⟨g, i * 5 + 2, none⟩ = some (.slice (some ⟨gv, 0, none⟩) nv cv) ∧ w.cell? ⟨g, i * 5 + 3, none⟩ = some (.slice (some ⟨gh, 0, none⟩) nv ch) ∧
      (∃ x, w.cell? ⟨gv, j, none⟩ = some (.int .i64 x)) ∧ (∃ b, w.cell? ⟨gh, j, none⟩ = some (.bool b)) ∧ w.frozen? ⟨gv, j, none⟩ = false ∧ w.frozen? ⟨gh, j, none⟩ = false

set_option maxHeartbeats 1000000 in
theorem rstore_good (a v : Int) (i j g n cap : Nat) (gv gh nv cv ch : Nat) (hf : Hid (FindGood w A a i j)) (hi : i < n) (hn : n ≤ 900000) (hj : j < nv) (hnv : nv ≤ 4095)
    (hw : Hid (∀ w', Kp (fun _ => False) w w' → SlotAt w' A g i j n cap gv gh nv cv ch)) :
    Calls Try.prog 28 #[.pointer (some ⟨A, 0, none⟩), .int .u64 a, .int .i64 v] w fun e w' => e = .returned (.int .i64 0) ∧ ∃ w1, Kp (fun _ => False) w w1 ∧ (w1.setCell ⟨gv, j, none⟩ (.int .i64 v)).setCell ⟨gh, j, none⟩ (.bool true) = w' := by
  go_enter Try.func28, Try.ntmps28
  go_wp2_with fail
  refine hf.out.mono ?_
  rintro e w' ⟨rfl, hK⟩
  obtain ⟨n1, n2, n3, c1, c2, c3, ⟨x, c4⟩, ⟨b, c5⟩, z4, z5⟩ := hw.out w' hK
  have HK := hidIt hK
  clear hK hw hf
  go_wp2
  go_ret
  exact ⟨rfl, w', HK.out, rfl⟩

set_option maxHeartbeats 1000000 in
theorem rblank_good (a : Int) (i j g n cap : Nat) (gv gh nv cv ch : Nat) (hf : Hid (FindGood w A a i j)) (hi : i < n) (hn : n ≤ 900000) (hj : j < nv) (hnv : nv ≤ 4095)
    (hw : Hid (∀ w', Kp (fun _ => False) w w' → SlotAt w' A g i j n cap gv gh nv cv ch)) :
    Calls Try.prog 29 #[.pointer (some ⟨A, 0, none⟩), .int .u64 a] w fun e w' => e = .returned (.int .i64 0) ∧ ∃ w1, Kp (fun _ => False) w w1 ∧ (w1.setCell ⟨gv, j, none⟩ (.int .i64 0)).setCell ⟨gh, j, none⟩ (.bool false) = w' := by
  go_enter Try.func29, Try.ntmps29
  go_wp2_with fail
  refine hf.out.mono ?_
  rintro e w' ⟨rfl, hK⟩
  obtain ⟨n1, n2, n3, c1, c2, c3, ⟨x, c4⟩, ⟨b, c5⟩, z4, z5⟩ := hw.out w' hK
  have HK := hidIt hK
  clear hK hw hf
  go_wp2
  go_ret
  exact ⟨rfl, w', HK.out, rfl⟩

theorem RRep.grow {w' : World} (h : RRep w A rs fp) (hk : Kp (fun _ => False) w w') : RRep w' A rs (ext fp w w') :=
  (h.kp hk).mono (fun k hk => .inl hk) (ext_lt h.lt hk.size)
theorem RDid.kp {w' : World} (h : RRep w A rs fp) (hk : Kp (fun _ => False) w w') : RDid w A rs fp w' := ⟨h.grow hk, hk.of_false⟩

theorem RAt.slotAt {vp vf : Value} {es : List PV} (h : RAt w A rs fp vp vf es) (hok : ROk rs) {i j : Nat} {p : RP} (hp : rs.ps[i]? = some p) (hj : j < p.vals.length) :
    ∃ g cap gv cv gh ch, es[i]? = some (p, .slice (some ⟨gv, 0, none⟩) p.vals.length cv, .slice (some ⟨gh, 0, none⟩) p.vals.length ch) ∧ fp gv ∧ fp gh ∧
      ∀ w', Kp (fun _ => False) w w' → SlotAt w' A g i j rs.ps.length cap gv gh p.vals.length cv ch := by
  obtain ⟨q1, q2, q3, q4, q5⟩ := hok.piece p (List.mem_of_getElem? hp)
  obtain ⟨g, cap, gv, cv, gh, ch, hu, rfl, hw⟩ := h.seen hok hp
  have hvr := h.data.vals i _ hu
  have hhr := h.data.has i _ hu
  refine ⟨g, cap, gv, cv, gh, ch, hu, hvr.2 gv rfl, hhr.2 gh rfl, fun w' hk => ?_⟩
  obtain ⟨d0, d1, d2, d3, d4, d5, d6, d7⟩ := hw w' hk
  have h' := h.kp hk
  have hvr' := h'.data.vals i _ hu
  have hhr' := (h'.data.has i _ hu).1
  simp only at hhr'
  rw [q5] at hhr'
  exact ⟨fun e => own_ne hvr.1 h.head (by decide) (by rw [e]; rfl), fun e => own_apart h.prow hvr.1 (by decide) g rfl (by rw [e]; rfl), fun e => own_apart hhr.1 hvr.1 (by decide) gh rfl (by rw [e]; rfl), d0, d3, d4,
    ⟨_, d6 j _ (List.getElem?_eq_getElem hj)⟩, ⟨_, d7 j _ (List.getElem?_eq_getElem (by omega))⟩, hvr'.1.frozenAt j, hhr'.frozenAt j⟩

theorem rput_did {vp vf : Value} {es : List PV} (h : RAt w A rs fp vp vf es) {i j gv cv gh ch : Nat} {p : RP} (hu : es[i]? = some (p, .slice (some ⟨gv, 0, none⟩) p.vals.length cv, .slice (some ⟨gh, 0, none⟩) p.vals.length ch)) (hlen : p.has.length = p.vals.length) (hg1 : fp gv) (hg2 : fp gh) (x : Int) (b : Bool) {w1 : World} (hk : Kp (fun _ => False) w w1) :
    RDid w A (rset rs i (rput p j (x, b))) fp ((w1.setCell ⟨gv, j, none⟩ (.int .i64 x)).setCell ⟨gh, j, none⟩ (.bool b)) := by
  have hR := (h.kp hk).stored (j := j) hu hlen x b
  have hk2 : Kp fp w1 ((w1.setCell ⟨gv, j, none⟩ (.int .i64 x)).setCell ⟨gh, j, none⟩ (.bool b)) := (Kp.setCell w1 (p := ⟨gv, j, none⟩) hg1 _).trans' (Kp.setCell _ (p := ⟨gh, j, none⟩) hg2 _)
  have hk3 : Kp fp w ((w1.setCell ⟨gv, j, none⟩ (.int .i64 x)).setCell ⟨gh, j, none⟩ (.bool b)) := (hk.of_false).trans' hk2
  exact ⟨⟨_, _, _, hR.mono (fun k hk => .inl hk) (ext_lt h.fplt hk3.size)⟩, hk3⟩

/-- Store, by what the slab's own comes to. -/
theorem rstore_any (h : RRep w A rs fp) (hS : Sim N st rs) (hv : Inv st) (hs : Small st N) (hN : N ≤ 900000) (a v : Int) (h0 : 0 ≤ a) (h1 : a < 18446744073709551616) :
    ∃ rs', Sim N (mput st a (v, true)).1 rs' ∧ Calls Try.prog 28 #[.pointer (some ⟨A, 0, none⟩), .int .u64 a, .int .i64 v] w fun e w' => e = .returned (.int .i64 (mput st a (v, true)).2) ∧ RDid w A rs' fp w' := by
  rcases rfind_sim h hS hv hs hN a h0 h1 with ⟨hc, hf⟩ | ⟨hc, i, p, hp, hh, hfr, hf⟩
  · have em : mput st a (v, true) = (st, (mfind st a : Int)) := by simp [mput, hc]
    rw [em]
    refine ⟨rs, hS, (rstore_err a v _ (by rw [beq_eq_false_iff_ne]; omega) hf).mono ?_⟩
    rintro _ w' ⟨rfl, hk⟩
    exact ⟨rfl, RDid.kp h hk⟩
  · obtain ⟨x1, x2, x3, x4, x5⟩ := hS.hit_parts hv hs hN hp hh
    obtain ⟨hz, hS'⟩ := sim_put hS hv hs hN hp hh hfr (v, true)
    rw [hz]
    refine ⟨_, hS', ?_⟩
    obtain ⟨vp, vf, es, hR⟩ := h
    have hok := hS.ok hv hs hN
    obtain ⟨q1, q2, q3, q4, q5⟩ := hok.piece p (List.mem_of_getElem? hp)
    obtain ⟨g, cap, gv, cv, gh, ch, hu, f1, f2, hw⟩ := hR.slotAt hok hp x4
    refine (rstore_good a v i (plc a) g rs.ps.length cap gv gh p.vals.length cv ch hf (List.getElem?_eq_some_iff.1 hp).1 hok.len x4 q4 hw).mono ?_
    rintro _ w' ⟨rfl, w1, hk, rfl⟩
    exact ⟨rfl, rput_did hR hu q5 f1 f2 v true hk⟩
theorem rblank_any (h : RRep w A rs fp) (hS : Sim N st rs) (hv : Inv st) (hs : Small st N) (hN : N ≤ 900000) (a : Int) (h0 : 0 ≤ a) (h1 : a < 18446744073709551616) :
    ∃ rs', Sim N (mput st a (0, false)).1 rs' ∧ Calls Try.prog 29 #[.pointer (some ⟨A, 0, none⟩), .int .u64 a] w fun e w' => e = .returned (.int .i64 (mput st a (0, false)).2) ∧ RDid w A rs' fp w' := by
  rcases rfind_sim h hS hv hs hN a h0 h1 with ⟨hc, hf⟩ | ⟨hc, i, p, hp, hh, hfr, hf⟩
  · have em : mput st a (0, false) = (st, (mfind st a : Int)) := by simp [mput, hc]
    rw [em]
    refine ⟨rs, hS, (rblank_err a _ (by rw [beq_eq_false_iff_ne]; omega) hf).mono ?_⟩
    rintro _ w' ⟨rfl, hk⟩
    exact ⟨rfl, RDid.kp h hk⟩
  · obtain ⟨x1, x2, x3, x4, x5⟩ := hS.hit_parts hv hs hN hp hh
    obtain ⟨hz, hS'⟩ := sim_put hS hv hs hN hp hh hfr (0, false)
    rw [hz]
    refine ⟨_, hS', ?_⟩
    obtain ⟨vp, vf, es, hR⟩ := h
    have hok := hS.ok hv hs hN
    obtain ⟨q1, q2, q3, q4, q5⟩ := hok.piece p (List.mem_of_getElem? hp)
    obtain ⟨g, cap, gv, cv, gh, ch, hu, f1, f2, hw⟩ := hR.slotAt hok hp x4
    refine (rblank_good a i (plc a) g rs.ps.length cap gv gh p.vals.length cv ch hf (List.getElem?_eq_some_iff.1 hp).1 hok.len x4 q4 hw).mono ?_
    rintro _ w' ⟨rfl, w1, hk, rfl⟩
    exact ⟨rfl, rput_did hR hu q5 f1 f2 0 false hk⟩
end
end Go.Proofs.Ytbjofdijhcdmaaa
