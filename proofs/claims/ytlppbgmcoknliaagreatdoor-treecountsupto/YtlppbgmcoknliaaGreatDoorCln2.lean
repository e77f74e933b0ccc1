/-
  The walk of anew, of each type.
-/
import Derived.Test.YtlppbgmcoknliaaGreatDoorCln
namespace Go.Proofs.YtlppbgmcoknliaaGreatDoor
set_option linter.unusedVariables false
open Go.RowKit

theorem block_set {w : World} {g i : Nat} {cs : Array Value} {t : TypeId} {fr : Nat × Nat} (h : w.heap[g]? = some (.cells cs t fr)) (v : Value) : (w.setCell ⟨g, i, none⟩ v).heap[g]? = some (.cells (cs.setIfInBounds i v) t fr) := by
 simp [World.setCell, Array.getElem?_modify, h]
/-- A row is laid into a block. -/
def put (w : World) (g : Nat) : Nat → List Value → World
 | _, [] => w
 | o, v :: r => put (w.setCell ⟨g, o, none⟩ v) g (o + 1) r
theorem put_size (g : Nat) : ∀ (vs : List Value) (o : Nat) (w : World), (put w g o vs).heap.size = w.heap.size
 | [], _, _ => rfl
 | v :: r, o, w => by rw [put, put_size g r]; simp [World.setCell]
theorem put_other {g : Nat} : ∀ (vs : List Value) (o : Nat) (w : World) {k : Nat}, k ≠ g → (put w g o vs).heap[k]? = w.heap[k]?
 | [], _, _, _, _ => rfl
 | v :: r, o, w, k, h => by rw [put, put_other r _ _ h]; exact Below.heap_setCell _ _ _ _ h
theorem put_below {g : Nat} : ∀ (vs : List Value) (o : Nat) {w a : World} {B : Nat}, Below B a w → B ≤ g → Below B a (put w g o vs)
 | [], _, _, _, _, h, _ => h
 | v :: r, o, w, a, B, h, hB => put_below r (o + 1) (h.setCell (p := ⟨g, o, none⟩) hB v) hB
theorem put_block {g : Nat} {ty : TypeId} {fr : Nat × Nat} : ∀ (vs : List Value) (o : Nat) (w : World) (cur : Array Value), w.heap[g]? = some (.cells cur ty fr) →
 ∃ cur2, (put w g o vs).heap[g]? = some (.cells cur2 ty fr) ∧ cur2.size = cur.size ∧ (∀ (i : Nat) (v : Value), vs[i]? = some v → o + i < cur.size → cur2[o + i]? = some v) ∧ ∀ m : Nat, (m < o ∨ o + vs.length ≤ m) → cur2[m]? = cur[m]?
 | [], o, w, cur, h => ⟨cur, h, rfl, fun i v hv => by simp at hv, fun m _ => rfl⟩
 | v :: r, o, w, cur, h => by
  obtain ⟨c2, h1, h2, h3, h4⟩ := put_block r (o + 1) _ _ (block_set (i := o) h v)
  refine ⟨c2, h1, by rw [h2]; simp, fun i u hu hlt => ?_, fun m hm => ?_⟩
  · cases i with
    | zero =>
     simp at hu
     subst hu
     rw [Nat.add_zero] at hlt ⊢
     rw [h4 o (.inl (Nat.lt_succ_self o)), Array.getElem?_setIfInBounds_self_of_lt hlt]
    | succ i =>
     have := h3 i u (by simpa using hu) (by simp; omega)
     rw [show o + (i + 1) = o + 1 + i by omega]
     exact this
  · have hl : (v :: r).length = r.length + 1 := rfl
    rw [hl] at hm
    rw [h4 m (by omega), Array.getElem?_setIfInBounds_ne (by omega)]
theorem put_rows {w : World} {g : Nat} {ty : TypeId} {cur : Array Value} {o K : Nat} {rows : List (List Value)} (H : w.heap[g]? = some (.cells cur ty (0, 0))) (hl : ∀ r ∈ rows, r.length = K)
 (F : ∀ (j : Nat) (r : List Value) (i : Nat) (v : Value), rows[j]? = some r → r[i]? = some v → cur[o + j * K + i]? = some v) {k : Nat} (hk : k < rows.length) {r : List Value} (hr : r.length = K) :
 ∃ cur2, (put w g (o + k * K) r).heap[g]? = some (.cells cur2 ty (0, 0)) ∧ ∀ (j : Nat) (r' : List Value) (i : Nat) (v : Value), (rows.set k r)[j]? = some r' → r'[i]? = some v → cur2[o + j * K + i]? = some v := by
 obtain ⟨c2, h1, h2, h3, h4⟩ := put_block (ty := ty) (fr := (0, 0)) r (o + k * K) w cur H
 refine ⟨c2, h1, fun j r' i v hj hi => ?_⟩
 by_cases e : j = k
 · subst e
   rw [List.getElem?_set_self hk] at hj
   cases hj
   have hiK : i < K := by rw [← hr]; exact (List.getElem?_eq_some_iff.1 hi).1
   obtain ⟨r0, hr0⟩ : ∃ r0, rows[j]? = some r0 := ⟨_, List.getElem?_eq_getElem hk⟩
   have hl0 := hl r0 (List.mem_of_getElem? hr0)
   obtain ⟨v0, hv0⟩ : ∃ v0, r0[i]? = some v0 := ⟨_, List.getElem?_eq_getElem (by omega)⟩
   exact h3 i v hi (Array.getElem?_eq_some_iff.1 (F j r0 i v0 hr0 hv0)).1
 · rw [List.getElem?_set_ne (by omega)] at hj
   have hiK : i < K := by rw [← hl r' (List.mem_of_getElem? hj)]; exact (List.getElem?_eq_some_iff.1 hi).1
   rw [h4 _ ?_]
   · exact F j r' i v hj hi
   · rw [hr]
     rcases Nat.lt_or_ge j k with h | h
     · have := Nat.mul_le_mul_right K (show j + 1 ≤ k from h)
       rw [Nat.succ_mul] at this
       left; omega
     · have := Nat.mul_le_mul_right K (show k + 1 ≤ j by omega)
       rw [Nat.succ_mul] at this
       right; omega

/-- What is not empty lies from a block on. -/
def NewA (B : Nat) (a : Option Addr) (n : Nat) : Prop := n = 0 ∨ ∃ g off, a = some ⟨g, off, none⟩ ∧ B ≤ g
theorem NewA.mono {B C : Nat} {a : Option Addr} {n : Nat} (h : NewA B a n) (hC : C ≤ B) : NewA C a n := h.imp id fun ⟨g, off, e, hg⟩ => ⟨g, off, e, Nat.le_trans hC hg⟩
theorem Own.new {w : World} {B : Nat} {ty : TypeId} {k : Nat} {a : Option Addr} {rows : List (List Value)} (h : Own w B ty k a rows) : NewA B a rows.length := by
 rcases h.at_ with h0 | ⟨g, cur, e, hB, _⟩
 · exact .inl (by rw [h0]; rfl)
 · exact .inr ⟨g, 0, e, hB⟩
/-- From a block on, all is as it was. -/
structure Kps (L : Nat) (w w' : World) : Prop where
 size : w.heap.size ≤ w'.heap.size
 block : ∀ b : Nat, L ≤ b → b < w.heap.size → w'.heap[b]? = w.heap[b]?
theorem Kps.refl (L : Nat) (w : World) : Kps L w w := ⟨Nat.le_refl _, fun _ _ _ => rfl⟩
theorem Kps.set {L : Nat} {w w' : World} (h : Kps L w w') {a : Addr} (ha : a.block < L) (v : Value) : Kps L w (w'.setCell a v) :=
 ⟨by simp [World.setCell]; exact h.size, fun b h1 h2 => by rw [Below.heap_setCell _ _ _ _ (by omega)]; exact h.block b h1 h2⟩
theorem Sl.keep {w w' : World} {k L : Nat} {a : Option Addr} {rows : List (List Value)} (h : Sl w k a rows) (hn : NewA L a rows.length) (hk : Kps L w w') : Sl w' k a rows := by
 refine ⟨h.len, h.big, ?_⟩
 rcases h.at_ with h0 | ⟨b, off, e, hlt, hc⟩
 · exact .inl h0
 · rcases hn with h0 | ⟨g, o2, e2, hg⟩
   · exact .inl (List.length_eq_zero_iff.1 h0)
   · rw [e] at e2
     cases e2
     refine .inr ⟨b, off, e, Nat.lt_of_lt_of_le hlt hk.size, fun j r i v hr hv => ?_⟩
     rw [World.cell?_of_block (w := w) (hk.block b hg hlt)]
     exact hc j r i v hr hv
def PlaceX.New (L : Nat) (p : PlaceX) : Prop := NewA L p.sa p.steps.length
def NewP (L : Nat) (a : Option Addr) (ps : List PlaceX) : Prop := NewA L a ps.length ∧ ∀ p ∈ ps, p.New L
def StmtX.New (L : Nat) (s : StmtX) : Prop := s.to.New L ∧ NewP L s.aa s.args
def TermX.New (L : Nat) (t : TermX) : Prop := t.to.New L ∧ NewP L t.aa t.args ∧ NewA L t.ba t.blocks.length ∧ NewA L t.ra t.arms.length
def BlockX.New (L : Nat) (b : BlockX) : Prop := (NewA L b.sa b.stmts.length ∧ ∀ s ∈ b.stmts, s.New L) ∧ b.term.New L
def FuncX.New (L : Nat) (f : FuncX) : Prop := NewA L f.pa f.params.length ∧ NewA L f.la f.locals.length ∧ NewA L f.ba f.blocks.length ∧ ∀ b ∈ f.blocks, b.New L
def StructX.New (L : Nat) (s : StructX) : Prop := NewA L s.fa s.fields.length
def EnumX.New (L : Nat) (s : EnumX) : Prop := NewA L s.va s.variants.length
def ProgX.New (L : Nat) (p : ProgX) : Prop := (NewA L p.sa p.structs.length ∧ ∀ s ∈ p.structs, s.New L) ∧ (NewA L p.ea p.enums.length ∧ ∀ s ∈ p.enums, s.New L) ∧ NewA L p.fa p.funcs.length ∧ ∀ f ∈ p.funcs, f.New L
theorem PlaceX.New.mono {B C : Nat} {x : PlaceX} (h : x.New B) (hC : C ≤ B) : x.New C := NewA.mono h hC
theorem NewP.mono {B C : Nat} {a : Option Addr} {x : List PlaceX} (h : NewP B a x) (hC : C ≤ B) : NewP C a x := ⟨h.1.mono hC, fun p hp => (h.2 p hp).mono hC⟩
theorem StmtX.New.mono {B C : Nat} {x : StmtX} (h : x.New B) (hC : C ≤ B) : x.New C := ⟨h.1.mono hC, h.2.mono hC⟩
theorem TermX.New.mono {B C : Nat} {x : TermX} (h : x.New B) (hC : C ≤ B) : x.New C := ⟨h.1.mono hC, h.2.1.mono hC, h.2.2.1.mono hC, h.2.2.2.mono hC⟩
theorem BlockX.New.mono {B C : Nat} {x : BlockX} (h : x.New B) (hC : C ≤ B) : x.New C := ⟨⟨h.1.1.mono hC, fun p hp => (h.1.2 p hp).mono hC⟩, h.2.mono hC⟩
theorem FuncX.New.mono {B C : Nat} {x : FuncX} (h : x.New B) (hC : C ≤ B) : x.New C := ⟨h.1.mono hC, h.2.1.mono hC, h.2.2.1.mono hC, fun p hp => (h.2.2.2 p hp).mono hC⟩
theorem StructX.New.mono {B C : Nat} {x : StructX} (h : x.New B) (hC : C ≤ B) : x.New C := NewA.mono h hC
theorem EnumX.New.mono {B C : Nat} {x : EnumX} (h : x.New B) (hC : C ≤ B) : x.New C := NewA.mono h hC
theorem keepS {w w' : World} {L : Nat} {a : Option Addr} {xs : List ByteArray} (h : St w a xs) (hn : NewA L a xs.length) (hk : Kps L w w') : St w' a xs := Sl.keep h (by rw [strs_len]; exact hn) hk
theorem keepV {w w' : World} {L : Nat} {a : Option Addr} {xs : List VarD} (h : Vrs w a xs) (hn : NewA L a xs.length) (hk : Kps L w w') : Vrs w' a xs := Sl.keep h (by rw [List.length_map]; exact hn) hk
theorem keepR {w w' : World} {L : Nat} {a : Option Addr} {xs : List ArmD} (h : Ars w a xs) (hn : NewA L a xs.length) (hk : Kps L w w') : Ars w' a xs := Sl.keep h (by rw [List.length_map]; exact hn) hk
theorem PlaceX.At.keep {w w' : World} {L : Nat} {x : PlaceX} (h : x.At w) (hn : x.New L) (hk : Kps L w w') : x.At w' := keepS h hn hk
theorem keepP {w w' : World} {L : Nat} {a : Option Addr} {xs : List PlaceX} (h : Pls w a xs) (hn : NewP L a xs) (hk : Kps L w w') : Pls w' a xs := ⟨Sl.keep h.1 (by rw [List.length_map]; exact hn.1) hk, fun x hx => (h.2 x hx).keep (hn.2 x hx) hk⟩
theorem StmtX.At.keep {w w' : World} {L : Nat} {x : StmtX} (h : x.At w) (hn : x.New L) (hk : Kps L w w') : x.At w' := ⟨h.1.keep hn.1 hk, keepP h.2 hn.2 hk⟩
theorem TermX.At.keep {w w' : World} {L : Nat} {x : TermX} (h : x.At w) (hn : x.New L) (hk : Kps L w w') : x.At w' := ⟨h.1.keep hn.1 hk, keepP h.2.1 hn.2.1 hk, keepS h.2.2.1 hn.2.2.1 hk, keepR h.2.2.2 hn.2.2.2 hk⟩
theorem BlockX.At.keep {w w' : World} {L : Nat} {x : BlockX} (h : x.At w) (hn : x.New L) (hk : Kps L w w') : x.At w' :=
 ⟨⟨Sl.keep h.1.1 (by rw [List.length_map]; exact hn.1.1) hk, fun s hs => (h.1.2 s hs).keep (hn.1.2 s hs) hk⟩, h.2.keep hn.2 hk⟩
theorem FuncX.At.keep {w w' : World} {L : Nat} {x : FuncX} (h : x.At w) (hn : x.New L) (hk : Kps L w w') : x.At w' :=
 ⟨keepV h.1 hn.1 hk, keepV h.2.1 hn.2.1 hk, Sl.keep h.2.2.1 (by rw [List.length_map]; exact hn.2.2.1) hk, fun s hs => (h.2.2.2 s hs).keep (hn.2.2.2 s hs) hk⟩
theorem StructX.At.keep {w w' : World} {L : Nat} {x : StructX} (h : x.At w) (hn : x.New L) (hk : Kps L w w') : x.At w' := keepV h hn hk
theorem EnumX.At.keep {w w' : World} {L : Nat} {x : EnumX} (h : x.At w) (hn : x.New L) (hk : Kps L w w') : x.At w' := keepV h hn hk
theorem set_drop {α : Type} {ys xs : List α} {k : Nat} {y : α} (hy : ys.length = k) (hk : k < xs.length) : ys ++ [y] ++ xs.drop (k + 1) = (ys ++ xs.drop k).set k y := by
 subst hy
 rw [List.set_append_right _ _ (Nat.le_refl _), Nat.sub_self, List.drop_eq_getElem_cons hk, List.set_cons_zero, List.append_assoc]
 rfl

set_option maxHeartbeats 2000000 in
set_option maxRecDepth 100000 in
theorem anew_place (a : Option Addr) (xs : List PlaceX) (c : Nat) (w : World) (hx : Pls w a xs)
 (hm : ∀ (W : World) (x : PlaceX), x ∈ xs → Below w.heap.size w W → Calls Tryz.prog 75 #[.agg #[.string x.loc, .slice x.sa x.steps.length x.sc]] W fun e w' => ∃ y : PlaceX, e = .returned (.agg #[.string y.loc, .slice y.sa y.steps.length y.sc]) ∧ y.d = x.d ∧ y.At w' ∧ y.New W.heap.size ∧ Below W.heap.size W w') :
 Calls Tryz.prog 150 #[.slice a xs.length c, .func (.func 75) #[] #[]] w fun e w' => ∃ a' c' ys, e = .returned (.slice a' xs.length c') ∧ ys.length = xs.length ∧ ys.map PlaceX.d = xs.map PlaceX.d ∧ Pls w' a' ys ∧ (NewA w.heap.size a' ys.length ∧ ∀ y ∈ ys, y.New w.heap.size) ∧ Below w.heap.size w w' := by
 have n1 := hx.1.big
 rw [List.length_map] at n1
 have c1 : Hid (Calls Tryz.prog 181 #[.slice a xs.length c] w fun e w' => ∃ a' c', e = .returned (.slice a' xs.length c') ∧ xs.length ≤ c' ∧ Own w' w.heap.size 24 2 a' (xs.map PlaceX.row) ∧ Below w.heap.size w w') := hidIt (by
  have := clone_place a (xs.map PlaceX.row) c w hx.1 (by intro u hu; obtain ⟨r, hr, hu⟩ := List.mem_flatten.1 hu; obtain ⟨x, _, rfl⟩ := List.mem_map.1 hr; simp only [PlaceX.row, List.mem_cons, List.not_mem_nil, or_false] at hu; rcases hu with rfl | rfl <;> rfl)
  rwa [List.length_map] at this)
 have HM := hidIt hm
 clear hm hx
 obtain ⟨n, hn0⟩ : ∃ n, xs.length = n := ⟨_, rfl⟩
 rw [hn0] at n1 c1
 rw [hn0]
 have hn := hidIt hn0
 clear hn0
 go_enter Tryz.func150, Tryz.ntmps150
 go_wp2_with (go_at_call 181; refine c1.out.mono ?_)
 rintro e w1 ⟨a', c', rfl, hc', o1, hq⟩
 rcases o1.at_ with h0 | ⟨g, cur0, rfl, hB, hh, hcc⟩
 · have e0 : xs = [] := List.map_eq_nil_iff.1 h0
   obtain rfl : 0 = n := by rw [← hn.out, e0]; rfl
   have hq := hidIt hq
   clear o1 c1 HM
   go_wp2
   go_loopg [6, 7, 12] 0 (fun gg _ _ s12 wr => s12 = .int .i64 0 ∧ wr = w1)
   case atStart => exact ⟨rfl, rfl⟩
   case round =>
    obtain ⟨rfl, rfl⟩ := hrel
    go_wp2
    go_ret
    exact ⟨a', c', [], rfl, rfl, by rw [e0], ⟨Sl.nil, fun y hy => by simp at hy⟩, ⟨.inl rfl, fun y hy => by simp at hy⟩, hq.out⟩
 · obtain ⟨o, ho⟩ : ∃ o, o = 0 := ⟨0, rfl⟩
   rw [← ho]
   have F0 : Hid (∀ (j : Nat) (r : List Value) (i : Nat) (v : Value), (xs.map PlaceX.row)[j]? = some r → r[i]? = some v → cur0[o + j * 2 + i]? = some v) := hidIt fun j r i v hj hi => by rw [ho, Nat.zero_add]; exact hcc j r i v hj hi
   have HH := hidIt hh
   have HQ := hidIt hq
   have HB := hidIt hB
   have LEN := hidIt o1.len
   clear o1 c1 hh hq hB hcc ho
   go_wp2
   go_loopg [6, 7, 12] n (fun gg _ _ s12 wr => ∃ k : Nat, k ≤ n ∧ n - k ≤ gg ∧ s12 = .int .i64 k ∧ Hid (∃ (ys : List PlaceX) (cur : Array Value), Below w.heap.size w wr ∧ ys.length = k ∧ ys.map PlaceX.d = (xs.take k).map PlaceX.d ∧ wr.heap[g]? = some (.cells cur 24 (0, 0)) ∧ (∀ (j : Nat) (r : List Value) (i : Nat) (v : Value), ((ys ++ xs.drop k).map PlaceX.row)[j]? = some r → r[i]? = some v → cur[o + j * 2 + i]? = some v) ∧ ∀ y ∈ ys, y.At wr ∧ y.New (g + 1)))
   case atStart => exact ⟨0, Nat.zero_le _, by omega, rfl, hidIt ⟨[], cur0, HQ.out, rfl, rfl, HH.out, F0.out, fun y hy => by simp at hy⟩⟩
   case round =>
    obtain ⟨k, hk, hg, rfl, R⟩ := hrel
    by_cases hlt : k < n
    · obtain ⟨ys, cur, hb0, hyl, hyd, hg0, F, hya⟩ := R.out
      clear R F0 HH HQ
      obtain ⟨x, hx⟩ : ∃ x, xs[k]? = some x := ⟨_, List.getElem?_eq_getElem (by rw [hn.out]; exact hlt)⟩
      have hb := hidIt hb0
      have HG := hidIt hg0
      have FF := hidIt F
      have HYL := hidIt hyl
      have HYD := hidIt hyd
      have HYA := hidIt hya
      have HX := hidIt hx
      have hrow : ((ys ++ xs.drop k).map PlaceX.row)[k]? = some x.row := by
       rw [List.getElem?_map, List.getElem?_append_right (by omega), hyl, Nat.sub_self, List.getElem?_drop, Nat.add_zero, hx]; rfl
      have g1 : ∀ (i : Nat) (v : Value), x.row[i]? = some v → wr.cell? ⟨g, o + k * 2 + i, none⟩ = some v := fun i v hv => by rw [cell_at hg0]; exact F k x.row i v hrow hv
      have G1 := hidIt g1
      have p0 := g1 0 _ rfl
      have p1 := g1 1 _ rfl
      rw [Nat.add_zero] at p0
      clear g1 hrow hx hb0 hg0 F hyl hyd hya
      go_upto_region 5 with fail
      have hb1 := hidIt (below_next hb.out (below_new wr (.cells #[.string x.loc, .slice x.sa x.steps.length x.sc] 24)))
      have hbn := hidIt (below_new wr (.cells #[.string x.loc, .slice x.sa x.steps.length x.sc] 24))
      have hh1 := heap_alloc_new wr (.cells #[.string x.loc, .slice x.sa x.steps.length x.sc] 24)
      clear p0 p1
      have HS : Hid ((wr.alloc (.cells #[.string x.loc, .slice x.sa x.steps.length x.sc] 24)).heap.size = wr.heap.size + 1) := hidIt (World.size_alloc _ _)
      obtain ⟨B1, eB⟩ : ∃ B1, B1 = wr.heap.size := ⟨_, rfl⟩
      rw [← eB] at hh1 HS ⊢
      have EB := hidIt eB
      clear eB
      generalize wr.alloc (.cells #[.string x.loc, .slice x.sa x.steps.length x.sc] 24) = w2 at hb1 hbn hh1 HS ⊢
      have hh1 := hidIt hh1
      obtain ⟨q0, q1⟩ := cells_2 hh1.out
      go_wp2_with (go_at_call 75; refine (HM.out _ x (List.mem_of_getElem? HX.out) hb1.out).mono ?_)
      rintro e w3 ⟨y, rfl, hyd1, hya1, hyn1, hq3⟩
      clear q0 q1
      have hbw3 := hidIt (below_next hbn.out hq3)
      have hb3 := hidIt (below_next hb.out hbw3.out)
      have HG3 := hidIt (heap_on HG.out hbw3.out)
      have Y1 := hidIt (And.intro hyd1 (And.intro hya1 hyn1))
      clear hyd1 hya1 hyn1 hq3
      have G3 : ∀ (i : Nat) (v : Value), x.row[i]? = some v → w3.cell? ⟨g, o + k * 2 + i, none⟩ = some v := fun i v hv => by
       rw [World.cell?_of_block (w := wr) ((HG3.out).trans HG.out.symm)]; exact G1.out i v hv
      have Z3 : ∀ i : Nat, w3.frozen? ⟨g, i, none⟩ = false := fun i => frozen_at HG3.out i
      have p0 := G3 0 _ rfl
      have p1 := G3 1 _ rfl
      rw [Nat.add_zero] at p0
      have z0 := Z3 (o + k * 2)
      have z1 := Z3 (o + k * 2 + 1)
      clear G3 Z3 G1
      go_wp2
      have RES : Hid (∃ (ys2 : List PlaceX) (cur2 : Array Value), Below w.heap.size w (put w3 g (o + k * 2) y.row) ∧ ys2.length = k + 1 ∧ ys2.map PlaceX.d = (xs.take (k + 1)).map PlaceX.d ∧ (put w3 g (o + k * 2) y.row).heap[g]? = some (.cells cur2 24 (0, 0)) ∧ (∀ (j : Nat) (r : List Value) (i : Nat) (v : Value), ((ys2 ++ xs.drop (k + 1)).map PlaceX.row)[j]? = some r → r[i]? = some v → cur2[o + j * 2 + i]? = some v) ∧ ∀ z ∈ ys2, z.At (put w3 g (o + k * 2) y.row) ∧ z.New (g + 1)) := hidIt (by
       have hkx : k < xs.length := by rw [hn.out]; exact hlt
       have hgw : g < wr.heap.size := (Array.getElem?_eq_some_iff.1 HG.out).1
       have hK : Kps (g + 1) w3 (put w3 g (o + k * 2) y.row) := ⟨by rw [put_size]; exact Nat.le_refl _, fun b h1 _ => put_other _ _ _ (by omega)⟩
       obtain ⟨cur2, h1, h2⟩ := put_rows (o := o) (K := 2) (rows := (ys ++ xs.drop k).map PlaceX.row) HG3.out (fun r hr => by obtain ⟨z, _, rfl⟩ := List.mem_map.1 hr; rfl) FF.out (k := k) (by rw [List.length_map, List.length_append, List.length_drop, HYL.out]; omega) (r := y.row) rfl
       refine ⟨ys ++ [y], cur2, put_below _ _ hb3.out HB.out, by rw [List.length_append, HYL.out]; rfl, ?_, h1, fun j r i v hj hi => h2 j r i v ?_ hi, fun z hz => ?_⟩
       · rw [List.map_append, HYD.out, List.take_add_one, HX.out, List.map_append]
         show _ ++ [y.d] = _ ++ [x.d]
         rw [Y1.out.1]
       · rw [← List.map_set, ← set_drop HYL.out hkx]; exact hj
       · rcases List.mem_append.1 hz with hz | hz
         · have := HYA.out z hz
           exact ⟨(this.1.on hbw3.out).keep this.2 hK, this.2⟩
         · cases List.mem_singleton.1 hz
           have hny : y.New (g + 1) := Y1.out.2.2.mono (by rw [HS.out, EB.out]; omega)
           exact ⟨Y1.out.2.1.keep hny hK, hny⟩)
      go_roundg (n - (k + 1))
      case measure => omega
      case rel => exact ⟨k + 1, by omega, by omega, by go_num, RES⟩
    · have : k = n := by omega
      subst this
      clear F0 HH HQ HM
      go_wp2
      go_ret
      obtain ⟨ys, cur, hb0, hyl, hyd, hg0, F, hya⟩ := R.out
      have hxl : xs.length = k := hn.out
      rw [List.drop_eq_nil_of_le (by omega), List.append_nil] at F
      rw [List.take_of_length_le (by omega)] at hyd
      refine ⟨some ⟨g, o, none⟩, c', ys, rfl, hyl, hyd, ⟨⟨fun r hr => by obtain ⟨z, _, rfl⟩ := List.mem_map.1 hr; rfl, by rw [List.length_map, hyl]; exact n1, .inr ⟨g, o, rfl, (Array.getElem?_eq_some_iff.1 hg0).1, fun j r i v hj hi => by rw [cell_at hg0]; exact F j r i v hj hi⟩⟩, fun y hy => (hya y hy).1⟩, ⟨.inr ⟨g, o, rfl, HB.out⟩, fun y hy => (hya y hy).2.mono (by have := HB.out; omega)⟩, hb0⟩

set_option maxHeartbeats 2000000 in
set_option maxRecDepth 100000 in
theorem anew_stmt (a : Option Addr) (xs : List StmtX) (c : Nat) (w : World) (hx : Sts w a xs)
 (hm : ∀ (W : World) (x : StmtX), x ∈ xs → Below w.heap.size w W → Calls Tryz.prog 148 #[.agg #[.int .i64 x.at_, .int .i64 x.kind, .string x.to.loc, .slice x.to.sa x.to.steps.length x.to.sc, .int .i64 x.n, .string x.name, .string x.variant, .slice x.aa x.args.length x.ac]] W fun e w' => ∃ y : StmtX, e = .returned (.agg #[.int .i64 y.at_, .int .i64 y.kind, .string y.to.loc, .slice y.to.sa y.to.steps.length y.to.sc, .int .i64 y.n, .string y.name, .string y.variant, .slice y.aa y.args.length y.ac]) ∧ y.d = x.d ∧ y.At w' ∧ y.New W.heap.size ∧ Below W.heap.size W w') :
 Calls Tryz.prog 147 #[.slice a xs.length c, .func (.func 148) #[] #[]] w fun e w' => ∃ a' c' ys, e = .returned (.slice a' xs.length c') ∧ ys.length = xs.length ∧ ys.map StmtX.d = xs.map StmtX.d ∧ Sts w' a' ys ∧ (NewA w.heap.size a' ys.length ∧ ∀ y ∈ ys, y.New w.heap.size) ∧ Below w.heap.size w w' := by
 have n1 := hx.1.big
 rw [List.length_map] at n1
 have c1 : Hid (Calls Tryz.prog 179 #[.slice a xs.length c] w fun e w' => ∃ a' c', e = .returned (.slice a' xs.length c') ∧ xs.length ≤ c' ∧ Own w' w.heap.size 68 8 a' (xs.map StmtX.row) ∧ Below w.heap.size w w') := hidIt (by
  have := clone_stmt a (xs.map StmtX.row) c w hx.1 (by intro u hu; obtain ⟨r, hr, hu⟩ := List.mem_flatten.1 hu; obtain ⟨x, _, rfl⟩ := List.mem_map.1 hr; simp only [StmtX.row, List.mem_cons, List.not_mem_nil, or_false] at hu; rcases hu with rfl | rfl | rfl | rfl | rfl | rfl | rfl | rfl <;> rfl)
  rwa [List.length_map] at this)
 have HM := hidIt hm
 clear hm hx
 obtain ⟨n, hn0⟩ : ∃ n, xs.length = n := ⟨_, rfl⟩
 rw [hn0] at n1 c1
 rw [hn0]
 have hn := hidIt hn0
 clear hn0
 go_enter Tryz.func147, Tryz.ntmps147
 go_wp2_with (go_at_call 179; refine c1.out.mono ?_)
 rintro e w1 ⟨a', c', rfl, hc', o1, hq⟩
 rcases o1.at_ with h0 | ⟨g, cur0, rfl, hB, hh, hcc⟩
 · have e0 : xs = [] := List.map_eq_nil_iff.1 h0
   obtain rfl : 0 = n := by rw [← hn.out, e0]; rfl
   have hq := hidIt hq
   clear o1 c1 HM
   go_wp2
   go_loopg [6, 7, 12] 0 (fun gg _ _ s12 wr => s12 = .int .i64 0 ∧ wr = w1)
   case atStart => exact ⟨rfl, rfl⟩
   case round =>
    obtain ⟨rfl, rfl⟩ := hrel
    go_wp2
    go_ret
    exact ⟨a', c', [], rfl, rfl, by rw [e0], ⟨Sl.nil, fun y hy => by simp at hy⟩, ⟨.inl rfl, fun y hy => by simp at hy⟩, hq.out⟩
 · obtain ⟨o, ho⟩ : ∃ o, o = 0 := ⟨0, rfl⟩
   rw [← ho]
   have F0 : Hid (∀ (j : Nat) (r : List Value) (i : Nat) (v : Value), (xs.map StmtX.row)[j]? = some r → r[i]? = some v → cur0[o + j * 8 + i]? = some v) := hidIt fun j r i v hj hi => by rw [ho, Nat.zero_add]; exact hcc j r i v hj hi
   have HH := hidIt hh
   have HQ := hidIt hq
   have HB := hidIt hB
   have LEN := hidIt o1.len
   clear o1 c1 hh hq hB hcc ho
   go_wp2
   go_loopg [6, 7, 12] n (fun gg _ _ s12 wr => ∃ k : Nat, k ≤ n ∧ n - k ≤ gg ∧ s12 = .int .i64 k ∧ Hid (∃ (ys : List StmtX) (cur : Array Value), Below w.heap.size w wr ∧ ys.length = k ∧ ys.map StmtX.d = (xs.take k).map StmtX.d ∧ wr.heap[g]? = some (.cells cur 68 (0, 0)) ∧ (∀ (j : Nat) (r : List Value) (i : Nat) (v : Value), ((ys ++ xs.drop k).map StmtX.row)[j]? = some r → r[i]? = some v → cur[o + j * 8 + i]? = some v) ∧ ∀ y ∈ ys, y.At wr ∧ y.New (g + 1)))
   case atStart => exact ⟨0, Nat.zero_le _, by omega, rfl, hidIt ⟨[], cur0, HQ.out, rfl, rfl, HH.out, F0.out, fun y hy => by simp at hy⟩⟩
   case round =>
    obtain ⟨k, hk, hg, rfl, R⟩ := hrel
    by_cases hlt : k < n
    · obtain ⟨ys, cur, hb0, hyl, hyd, hg0, F, hya⟩ := R.out
      clear R F0 HH HQ
      obtain ⟨x, hx⟩ : ∃ x, xs[k]? = some x := ⟨_, List.getElem?_eq_getElem (by rw [hn.out]; exact hlt)⟩
      have hb := hidIt hb0
      have HG := hidIt hg0
      have FF := hidIt F
      have HYL := hidIt hyl
      have HYD := hidIt hyd
      have HYA := hidIt hya
      have HX := hidIt hx
      have hrow : ((ys ++ xs.drop k).map StmtX.row)[k]? = some x.row := by
       rw [List.getElem?_map, List.getElem?_append_right (by omega), hyl, Nat.sub_self, List.getElem?_drop, Nat.add_zero, hx]; rfl
      have g1 : ∀ (i : Nat) (v : Value), x.row[i]? = some v → wr.cell? ⟨g, o + k * 8 + i, none⟩ = some v := fun i v hv => by rw [cell_at hg0]; exact F k x.row i v hrow hv
      have G1 := hidIt g1
      have p0 := g1 0 _ rfl
      have p1 := g1 1 _ rfl
      have p2 := g1 2 _ rfl
      have p3 := g1 3 _ rfl
      have p4 := g1 4 _ rfl
      have p5 := g1 5 _ rfl
      have p6 := g1 6 _ rfl
      have p7 := g1 7 _ rfl
      rw [Nat.add_zero] at p0
      clear g1 hrow hx hb0 hg0 F hyl hyd hya
      go_upto_region 5 with fail
      have hb1 := hidIt (below_next hb.out (below_new wr (.cells #[.int .i64 x.at_, .int .i64 x.kind, .string x.to.loc, .slice x.to.sa x.to.steps.length x.to.sc, .int .i64 x.n, .string x.name, .string x.variant, .slice x.aa x.args.length x.ac] 68)))
      have hbn := hidIt (below_new wr (.cells #[.int .i64 x.at_, .int .i64 x.kind, .string x.to.loc, .slice x.to.sa x.to.steps.length x.to.sc, .int .i64 x.n, .string x.name, .string x.variant, .slice x.aa x.args.length x.ac] 68))
      have hh1 := heap_alloc_new wr (.cells #[.int .i64 x.at_, .int .i64 x.kind, .string x.to.loc, .slice x.to.sa x.to.steps.length x.to.sc, .int .i64 x.n, .string x.name, .string x.variant, .slice x.aa x.args.length x.ac] 68)
      clear p0 p1 p2 p3 p4 p5 p6 p7
      have HS : Hid ((wr.alloc (.cells #[.int .i64 x.at_, .int .i64 x.kind, .string x.to.loc, .slice x.to.sa x.to.steps.length x.to.sc, .int .i64 x.n, .string x.name, .string x.variant, .slice x.aa x.args.length x.ac] 68)).heap.size = wr.heap.size + 1) := hidIt (World.size_alloc _ _)
      obtain ⟨B1, eB⟩ : ∃ B1, B1 = wr.heap.size := ⟨_, rfl⟩
      rw [← eB] at hh1 HS ⊢
      have EB := hidIt eB
      clear eB
      generalize wr.alloc (.cells #[.int .i64 x.at_, .int .i64 x.kind, .string x.to.loc, .slice x.to.sa x.to.steps.length x.to.sc, .int .i64 x.n, .string x.name, .string x.variant, .slice x.aa x.args.length x.ac] 68) = w2 at hb1 hbn hh1 HS ⊢
      have hh1 := hidIt hh1
      obtain ⟨q0, q1, q2, q3, q4, q5, q6, q7⟩ := cells_8 hh1.out
      go_wp2_with (go_at_call 148; refine (HM.out _ x (List.mem_of_getElem? HX.out) hb1.out).mono ?_)
      rintro e w3 ⟨y, rfl, hyd1, hya1, hyn1, hq3⟩
      clear q0 q1 q2 q3 q4 q5 q6 q7
      have hbw3 := hidIt (below_next hbn.out hq3)
      have hb3 := hidIt (below_next hb.out hbw3.out)
      have HG3 := hidIt (heap_on HG.out hbw3.out)
      have Y1 := hidIt (And.intro hyd1 (And.intro hya1 hyn1))
      clear hyd1 hya1 hyn1 hq3
      have G3 : ∀ (i : Nat) (v : Value), x.row[i]? = some v → w3.cell? ⟨g, o + k * 8 + i, none⟩ = some v := fun i v hv => by
       rw [World.cell?_of_block (w := wr) ((HG3.out).trans HG.out.symm)]; exact G1.out i v hv
      have Z3 : ∀ i : Nat, w3.frozen? ⟨g, i, none⟩ = false := fun i => frozen_at HG3.out i
      have p0 := G3 0 _ rfl
      have p1 := G3 1 _ rfl
      have p2 := G3 2 _ rfl
      have p3 := G3 3 _ rfl
      have p4 := G3 4 _ rfl
      have p5 := G3 5 _ rfl
      have p6 := G3 6 _ rfl
      have p7 := G3 7 _ rfl
      rw [Nat.add_zero] at p0
      have z0 := Z3 (o + k * 8)
      have z1 := Z3 (o + k * 8 + 1)
      have z2 := Z3 (o + k * 8 + 2)
      have z3 := Z3 (o + k * 8 + 3)
      have z4 := Z3 (o + k * 8 + 4)
      have z5 := Z3 (o + k * 8 + 5)
      have z6 := Z3 (o + k * 8 + 6)
      have z7 := Z3 (o + k * 8 + 7)
      clear G3 Z3 G1
      go_wp2
      have RES : Hid (∃ (ys2 : List StmtX) (cur2 : Array Value), Below w.heap.size w (put w3 g (o + k * 8) y.row) ∧ ys2.length = k + 1 ∧ ys2.map StmtX.d = (xs.take (k + 1)).map StmtX.d ∧ (put w3 g (o + k * 8) y.row).heap[g]? = some (.cells cur2 68 (0, 0)) ∧ (∀ (j : Nat) (r : List Value) (i : Nat) (v : Value), ((ys2 ++ xs.drop (k + 1)).map StmtX.row)[j]? = some r → r[i]? = some v → cur2[o + j * 8 + i]? = some v) ∧ ∀ z ∈ ys2, z.At (put w3 g (o + k * 8) y.row) ∧ z.New (g + 1)) := hidIt (by
       have hkx : k < xs.length := by rw [hn.out]; exact hlt
       have hgw : g < wr.heap.size := (Array.getElem?_eq_some_iff.1 HG.out).1
       have hK : Kps (g + 1) w3 (put w3 g (o + k * 8) y.row) := ⟨by rw [put_size]; exact Nat.le_refl _, fun b h1 _ => put_other _ _ _ (by omega)⟩
       obtain ⟨cur2, h1, h2⟩ := put_rows (o := o) (K := 8) (rows := (ys ++ xs.drop k).map StmtX.row) HG3.out (fun r hr => by obtain ⟨z, _, rfl⟩ := List.mem_map.1 hr; rfl) FF.out (k := k) (by rw [List.length_map, List.length_append, List.length_drop, HYL.out]; omega) (r := y.row) rfl
       refine ⟨ys ++ [y], cur2, put_below _ _ hb3.out HB.out, by rw [List.length_append, HYL.out]; rfl, ?_, h1, fun j r i v hj hi => h2 j r i v ?_ hi, fun z hz => ?_⟩
       · rw [List.map_append, HYD.out, List.take_add_one, HX.out, List.map_append]
         show _ ++ [y.d] = _ ++ [x.d]
         rw [Y1.out.1]
       · rw [← List.map_set, ← set_drop HYL.out hkx]; exact hj
       · rcases List.mem_append.1 hz with hz | hz
         · have := HYA.out z hz
           exact ⟨(this.1.on hbw3.out).keep this.2 hK, this.2⟩
         · cases List.mem_singleton.1 hz
           have hny : y.New (g + 1) := Y1.out.2.2.mono (by rw [HS.out, EB.out]; omega)
           exact ⟨Y1.out.2.1.keep hny hK, hny⟩)
      go_roundg (n - (k + 1))
      case measure => omega
      case rel => exact ⟨k + 1, by omega, by omega, by go_num, RES⟩
    · have : k = n := by omega
      subst this
      clear F0 HH HQ HM
      go_wp2
      go_ret
      obtain ⟨ys, cur, hb0, hyl, hyd, hg0, F, hya⟩ := R.out
      have hxl : xs.length = k := hn.out
      rw [List.drop_eq_nil_of_le (by omega), List.append_nil] at F
      rw [List.take_of_length_le (by omega)] at hyd
      refine ⟨some ⟨g, o, none⟩, c', ys, rfl, hyl, hyd, ⟨⟨fun r hr => by obtain ⟨z, _, rfl⟩ := List.mem_map.1 hr; rfl, by rw [List.length_map, hyl]; exact n1, .inr ⟨g, o, rfl, (Array.getElem?_eq_some_iff.1 hg0).1, fun j r i v hj hi => by rw [cell_at hg0]; exact F j r i v hj hi⟩⟩, fun y hy => (hya y hy).1⟩, ⟨.inr ⟨g, o, rfl, HB.out⟩, fun y hy => (hya y hy).2.mono (by have := HB.out; omega)⟩, hb0⟩

set_option maxHeartbeats 2000000 in
set_option maxRecDepth 100000 in
theorem anew_block (a : Option Addr) (xs : List BlockX) (c : Nat) (w : World) (hx : Bls w a xs)
 (hm : ∀ (W : World) (x : BlockX), x ∈ xs → Below w.heap.size w W → Calls Tryz.prog 114 #[.agg #[.int .i64 x.at_, .string x.name, .slice x.sa x.stmts.length x.sc, .int .i64 x.term.at_, .int .i64 x.term.kind, .string x.term.to.loc, .slice x.term.to.sa x.term.to.steps.length x.term.to.sc, .string x.term.name, .slice x.term.aa x.term.args.length x.term.ac, .slice x.term.ba x.term.blocks.length x.term.bc, .slice x.term.ra x.term.arms.length x.term.rc]] W fun e w' => ∃ y : BlockX, e = .returned (.agg #[.int .i64 y.at_, .string y.name, .slice y.sa y.stmts.length y.sc, .int .i64 y.term.at_, .int .i64 y.term.kind, .string y.term.to.loc, .slice y.term.to.sa y.term.to.steps.length y.term.to.sc, .string y.term.name, .slice y.term.aa y.term.args.length y.term.ac, .slice y.term.ba y.term.blocks.length y.term.bc, .slice y.term.ra y.term.arms.length y.term.rc]) ∧ y.d = x.d ∧ y.At w' ∧ y.New W.heap.size ∧ Below W.heap.size W w') :
 Calls Tryz.prog 113 #[.slice a xs.length c, .func (.func 114) #[] #[]] w fun e w' => ∃ a' c' ys, e = .returned (.slice a' xs.length c') ∧ ys.length = xs.length ∧ ys.map BlockX.d = xs.map BlockX.d ∧ Bls w' a' ys ∧ (NewA w.heap.size a' ys.length ∧ ∀ y ∈ ys, y.New w.heap.size) ∧ Below w.heap.size w w' := by
 have n1 := hx.1.big
 rw [List.length_map] at n1
 have c1 : Hid (Calls Tryz.prog 146 #[.slice a xs.length c] w fun e w' => ∃ a' c', e = .returned (.slice a' xs.length c') ∧ xs.length ≤ c' ∧ Own w' w.heap.size 64 11 a' (xs.map BlockX.row) ∧ Below w.heap.size w w') := hidIt (by
  have := clone_block a (xs.map BlockX.row) c w hx.1 (by intro u hu; obtain ⟨r, hr, hu⟩ := List.mem_flatten.1 hu; obtain ⟨x, _, rfl⟩ := List.mem_map.1 hr; simp only [BlockX.row, List.mem_cons, List.not_mem_nil, or_false] at hu; rcases hu with rfl | rfl | rfl | rfl | rfl | rfl | rfl | rfl | rfl | rfl | rfl <;> rfl)
  rwa [List.length_map] at this)
 have HM := hidIt hm
 clear hm hx
 obtain ⟨n, hn0⟩ : ∃ n, xs.length = n := ⟨_, rfl⟩
 rw [hn0] at n1 c1
 rw [hn0]
 have hn := hidIt hn0
 clear hn0
 go_enter Tryz.func113, Tryz.ntmps113
 go_wp2_with (go_at_call 146; refine c1.out.mono ?_)
 rintro e w1 ⟨a', c', rfl, hc', o1, hq⟩
 rcases o1.at_ with h0 | ⟨g, cur0, rfl, hB, hh, hcc⟩
 · have e0 : xs = [] := List.map_eq_nil_iff.1 h0
   obtain rfl : 0 = n := by rw [← hn.out, e0]; rfl
   have hq := hidIt hq
   clear o1 c1 HM
   go_wp2
   go_loopg [6, 7, 12] 0 (fun gg _ _ s12 wr => s12 = .int .i64 0 ∧ wr = w1)
   case atStart => exact ⟨rfl, rfl⟩
   case round =>
    obtain ⟨rfl, rfl⟩ := hrel
    go_wp2
    go_ret
    exact ⟨a', c', [], rfl, rfl, by rw [e0], ⟨Sl.nil, fun y hy => by simp at hy⟩, ⟨.inl rfl, fun y hy => by simp at hy⟩, hq.out⟩
 · obtain ⟨o, ho⟩ : ∃ o, o = 0 := ⟨0, rfl⟩
   rw [← ho]
   have F0 : Hid (∀ (j : Nat) (r : List Value) (i : Nat) (v : Value), (xs.map BlockX.row)[j]? = some r → r[i]? = some v → cur0[o + j * 11 + i]? = some v) := hidIt fun j r i v hj hi => by rw [ho, Nat.zero_add]; exact hcc j r i v hj hi
   have HH := hidIt hh
   have HQ := hidIt hq
   have HB := hidIt hB
   have LEN := hidIt o1.len
   clear o1 c1 hh hq hB hcc ho
   go_wp2
   go_loopg [6, 7, 12] n (fun gg _ _ s12 wr => ∃ k : Nat, k ≤ n ∧ n - k ≤ gg ∧ s12 = .int .i64 k ∧ Hid (∃ (ys : List BlockX) (cur : Array Value), Below w.heap.size w wr ∧ ys.length = k ∧ ys.map BlockX.d = (xs.take k).map BlockX.d ∧ wr.heap[g]? = some (.cells cur 64 (0, 0)) ∧ (∀ (j : Nat) (r : List Value) (i : Nat) (v : Value), ((ys ++ xs.drop k).map BlockX.row)[j]? = some r → r[i]? = some v → cur[o + j * 11 + i]? = some v) ∧ ∀ y ∈ ys, y.At wr ∧ y.New (g + 1)))
   case atStart => exact ⟨0, Nat.zero_le _, by omega, rfl, hidIt ⟨[], cur0, HQ.out, rfl, rfl, HH.out, F0.out, fun y hy => by simp at hy⟩⟩
   case round =>
    obtain ⟨k, hk, hg, rfl, R⟩ := hrel
    by_cases hlt : k < n
    · obtain ⟨ys, cur, hb0, hyl, hyd, hg0, F, hya⟩ := R.out
      clear R F0 HH HQ
      obtain ⟨x, hx⟩ : ∃ x, xs[k]? = some x := ⟨_, List.getElem?_eq_getElem (by rw [hn.out]; exact hlt)⟩
      have hb := hidIt hb0
      have HG := hidIt hg0
      have FF := hidIt F
      have HYL := hidIt hyl
      have HYD := hidIt hyd
      have HYA := hidIt hya
      have HX := hidIt hx
      have hrow : ((ys ++ xs.drop k).map BlockX.row)[k]? = some x.row := by
       rw [List.getElem?_map, List.getElem?_append_right (by omega), hyl, Nat.sub_self, List.getElem?_drop, Nat.add_zero, hx]; rfl
      have g1 : ∀ (i : Nat) (v : Value), x.row[i]? = some v → wr.cell? ⟨g, o + k * 11 + i, none⟩ = some v := fun i v hv => by rw [cell_at hg0]; exact F k x.row i v hrow hv
      have G1 := hidIt g1
      have p0 := g1 0 _ rfl
      have p1 := g1 1 _ rfl
      have p2 := g1 2 _ rfl
      have p3 := g1 3 _ rfl
      have p4 := g1 4 _ rfl
      have p5 := g1 5 _ rfl
      have p6 := g1 6 _ rfl
      have p7 := g1 7 _ rfl
      have p8 := g1 8 _ rfl
      have p9 := g1 9 _ rfl
      have p10 := g1 10 _ rfl
      rw [Nat.add_zero] at p0
      clear g1 hrow hx hb0 hg0 F hyl hyd hya
      go_upto_region 5 with fail
      have hb1 := hidIt (below_next hb.out (below_new wr (.cells #[.int .i64 x.at_, .string x.name, .slice x.sa x.stmts.length x.sc, .int .i64 x.term.at_, .int .i64 x.term.kind, .string x.term.to.loc, .slice x.term.to.sa x.term.to.steps.length x.term.to.sc, .string x.term.name, .slice x.term.aa x.term.args.length x.term.ac, .slice x.term.ba x.term.blocks.length x.term.bc, .slice x.term.ra x.term.arms.length x.term.rc] 64)))
      have hbn := hidIt (below_new wr (.cells #[.int .i64 x.at_, .string x.name, .slice x.sa x.stmts.length x.sc, .int .i64 x.term.at_, .int .i64 x.term.kind, .string x.term.to.loc, .slice x.term.to.sa x.term.to.steps.length x.term.to.sc, .string x.term.name, .slice x.term.aa x.term.args.length x.term.ac, .slice x.term.ba x.term.blocks.length x.term.bc, .slice x.term.ra x.term.arms.length x.term.rc] 64))
      have hh1 := heap_alloc_new wr (.cells #[.int .i64 x.at_, .string x.name, .slice x.sa x.stmts.length x.sc, .int .i64 x.term.at_, .int .i64 x.term.kind, .string x.term.to.loc, .slice x.term.to.sa x.term.to.steps.length x.term.to.sc, .string x.term.name, .slice x.term.aa x.term.args.length x.term.ac, .slice x.term.ba x.term.blocks.length x.term.bc, .slice x.term.ra x.term.arms.length x.term.rc] 64)
      clear p0 p1 p2 p3 p4 p5 p6 p7 p8 p9 p10
      have HS : Hid ((wr.alloc (.cells #[.int .i64 x.at_, .string x.name, .slice x.sa x.stmts.length x.sc, .int .i64 x.term.at_, .int .i64 x.term.kind, .string x.term.to.loc, .slice x.term.to.sa x.term.to.steps.length x.term.to.sc, .string x.term.name, .slice x.term.aa x.term.args.length x.term.ac, .slice x.term.ba x.term.blocks.length x.term.bc, .slice x.term.ra x.term.arms.length x.term.rc] 64)).heap.size = wr.heap.size + 1) := hidIt (World.size_alloc _ _)
      obtain ⟨B1, eB⟩ : ∃ B1, B1 = wr.heap.size := ⟨_, rfl⟩
      rw [← eB] at hh1 HS ⊢
      have EB := hidIt eB
      clear eB
      generalize wr.alloc (.cells #[.int .i64 x.at_, .string x.name, .slice x.sa x.stmts.length x.sc, .int .i64 x.term.at_, .int .i64 x.term.kind, .string x.term.to.loc, .slice x.term.to.sa x.term.to.steps.length x.term.to.sc, .string x.term.name, .slice x.term.aa x.term.args.length x.term.ac, .slice x.term.ba x.term.blocks.length x.term.bc, .slice x.term.ra x.term.arms.length x.term.rc] 64) = w2 at hb1 hbn hh1 HS ⊢
      have hh1 := hidIt hh1
      obtain ⟨q0, q1, q2, q3, q4, q5, q6, q7, q8, q9, q10⟩ := cells_11 hh1.out
      go_wp2_with (go_at_call 114; refine (HM.out _ x (List.mem_of_getElem? HX.out) hb1.out).mono ?_)
      rintro e w3 ⟨y, rfl, hyd1, hya1, hyn1, hq3⟩
      clear q0 q1 q2 q3 q4 q5 q6 q7 q8 q9 q10
      have hbw3 := hidIt (below_next hbn.out hq3)
      have hb3 := hidIt (below_next hb.out hbw3.out)
      have HG3 := hidIt (heap_on HG.out hbw3.out)
      have Y1 := hidIt (And.intro hyd1 (And.intro hya1 hyn1))
      clear hyd1 hya1 hyn1 hq3
      have G3 : ∀ (i : Nat) (v : Value), x.row[i]? = some v → w3.cell? ⟨g, o + k * 11 + i, none⟩ = some v := fun i v hv => by
       rw [World.cell?_of_block (w := wr) ((HG3.out).trans HG.out.symm)]; exact G1.out i v hv
      have Z3 : ∀ i : Nat, w3.frozen? ⟨g, i, none⟩ = false := fun i => frozen_at HG3.out i
      have p0 := G3 0 _ rfl
      have p1 := G3 1 _ rfl
      have p2 := G3 2 _ rfl
      have p3 := G3 3 _ rfl
      have p4 := G3 4 _ rfl
      have p5 := G3 5 _ rfl
      have p6 := G3 6 _ rfl
      have p7 := G3 7 _ rfl
      have p8 := G3 8 _ rfl
      have p9 := G3 9 _ rfl
      have p10 := G3 10 _ rfl
      rw [Nat.add_zero] at p0
      have z0 := Z3 (o + k * 11)
      have z1 := Z3 (o + k * 11 + 1)
      have z2 := Z3 (o + k * 11 + 2)
      have z3 := Z3 (o + k * 11 + 3)
      have z4 := Z3 (o + k * 11 + 4)
      have z5 := Z3 (o + k * 11 + 5)
      have z6 := Z3 (o + k * 11 + 6)
      have z7 := Z3 (o + k * 11 + 7)
      have z8 := Z3 (o + k * 11 + 8)
      have z9 := Z3 (o + k * 11 + 9)
      have z10 := Z3 (o + k * 11 + 10)
      clear G3 Z3 G1
      go_wp2
      have RES : Hid (∃ (ys2 : List BlockX) (cur2 : Array Value), Below w.heap.size w (put w3 g (o + k * 11) y.row) ∧ ys2.length = k + 1 ∧ ys2.map BlockX.d = (xs.take (k + 1)).map BlockX.d ∧ (put w3 g (o + k * 11) y.row).heap[g]? = some (.cells cur2 64 (0, 0)) ∧ (∀ (j : Nat) (r : List Value) (i : Nat) (v : Value), ((ys2 ++ xs.drop (k + 1)).map BlockX.row)[j]? = some r → r[i]? = some v → cur2[o + j * 11 + i]? = some v) ∧ ∀ z ∈ ys2, z.At (put w3 g (o + k * 11) y.row) ∧ z.New (g + 1)) := hidIt (by
       have hkx : k < xs.length := by rw [hn.out]; exact hlt
       have hgw : g < wr.heap.size := (Array.getElem?_eq_some_iff.1 HG.out).1
       have hK : Kps (g + 1) w3 (put w3 g (o + k * 11) y.row) := ⟨by rw [put_size]; exact Nat.le_refl _, fun b h1 _ => put_other _ _ _ (by omega)⟩
       obtain ⟨cur2, h1, h2⟩ := put_rows (o := o) (K := 11) (rows := (ys ++ xs.drop k).map BlockX.row) HG3.out (fun r hr => by obtain ⟨z, _, rfl⟩ := List.mem_map.1 hr; rfl) FF.out (k := k) (by rw [List.length_map, List.length_append, List.length_drop, HYL.out]; omega) (r := y.row) rfl
       refine ⟨ys ++ [y], cur2, put_below _ _ hb3.out HB.out, by rw [List.length_append, HYL.out]; rfl, ?_, h1, fun j r i v hj hi => h2 j r i v ?_ hi, fun z hz => ?_⟩
       · rw [List.map_append, HYD.out, List.take_add_one, HX.out, List.map_append]
         show _ ++ [y.d] = _ ++ [x.d]
         rw [Y1.out.1]
       · rw [← List.map_set, ← set_drop HYL.out hkx]; exact hj
       · rcases List.mem_append.1 hz with hz | hz
         · have := HYA.out z hz
           exact ⟨(this.1.on hbw3.out).keep this.2 hK, this.2⟩
         · cases List.mem_singleton.1 hz
           have hny : y.New (g + 1) := Y1.out.2.2.mono (by rw [HS.out, EB.out]; omega)
           exact ⟨Y1.out.2.1.keep hny hK, hny⟩)
      go_roundg (n - (k + 1))
      case measure => omega
      case rel => exact ⟨k + 1, by omega, by omega, by go_num, RES⟩
    · have : k = n := by omega
      subst this
      clear F0 HH HQ HM
      go_wp2
      go_ret
      obtain ⟨ys, cur, hb0, hyl, hyd, hg0, F, hya⟩ := R.out
      have hxl : xs.length = k := hn.out
      rw [List.drop_eq_nil_of_le (by omega), List.append_nil] at F
      rw [List.take_of_length_le (by omega)] at hyd
      refine ⟨some ⟨g, o, none⟩, c', ys, rfl, hyl, hyd, ⟨⟨fun r hr => by obtain ⟨z, _, rfl⟩ := List.mem_map.1 hr; rfl, by rw [List.length_map, hyl]; exact n1, .inr ⟨g, o, rfl, (Array.getElem?_eq_some_iff.1 hg0).1, fun j r i v hj hi => by rw [cell_at hg0]; exact F j r i v hj hi⟩⟩, fun y hy => (hya y hy).1⟩, ⟨.inr ⟨g, o, rfl, HB.out⟩, fun y hy => (hya y hy).2.mono (by have := HB.out; omega)⟩, hb0⟩

set_option maxHeartbeats 2000000 in
set_option maxRecDepth 100000 in
theorem anew_func (a : Option Addr) (xs : List FuncX) (c : Nat) (w : World) (hx : Fns w a xs)
 (hm : ∀ (W : World) (x : FuncX), x ∈ xs → Below w.heap.size w W → Calls Tryz.prog 72 #[.agg #[.int .i64 x.at_, .string x.name, .slice x.pa x.params.length x.pc, .slice x.la x.locals.length x.lc, .string x.result, .slice x.ba x.blocks.length x.bc]] W fun e w' => ∃ y : FuncX, e = .returned (.agg #[.int .i64 y.at_, .string y.name, .slice y.pa y.params.length y.pc, .slice y.la y.locals.length y.lc, .string y.result, .slice y.ba y.blocks.length y.bc]) ∧ y.d = x.d ∧ y.At w' ∧ y.New W.heap.size ∧ Below W.heap.size W w') :
 Calls Tryz.prog 71 #[.slice a xs.length c, .func (.func 72) #[] #[]] w fun e w' => ∃ a' c' ys, e = .returned (.slice a' xs.length c') ∧ ys.length = xs.length ∧ ys.map FuncX.d = xs.map FuncX.d ∧ Fns w' a' ys ∧ (NewA w.heap.size a' ys.length ∧ ∀ y ∈ ys, y.New w.heap.size) ∧ Below w.heap.size w w' := by
 have n1 := hx.1.big
 rw [List.length_map] at n1
 have c1 : Hid (Calls Tryz.prog 112 #[.slice a xs.length c] w fun e w' => ∃ a' c', e = .returned (.slice a' xs.length c') ∧ xs.length ≤ c' ∧ Own w' w.heap.size 45 6 a' (xs.map FuncX.row) ∧ Below w.heap.size w w') := hidIt (by
  have := clone_func a (xs.map FuncX.row) c w hx.1 (by intro u hu; obtain ⟨r, hr, hu⟩ := List.mem_flatten.1 hu; obtain ⟨x, _, rfl⟩ := List.mem_map.1 hr; simp only [FuncX.row, List.mem_cons, List.not_mem_nil, or_false] at hu; rcases hu with rfl | rfl | rfl | rfl | rfl | rfl <;> rfl)
  rwa [List.length_map] at this)
 have HM := hidIt hm
 clear hm hx
 obtain ⟨n, hn0⟩ : ∃ n, xs.length = n := ⟨_, rfl⟩
 rw [hn0] at n1 c1
 rw [hn0]
 have hn := hidIt hn0
 clear hn0
 go_enter Tryz.func71, Tryz.ntmps71
 go_wp2_with (go_at_call 112; refine c1.out.mono ?_)
 rintro e w1 ⟨a', c', rfl, hc', o1, hq⟩
 rcases o1.at_ with h0 | ⟨g, cur0, rfl, hB, hh, hcc⟩
 · have e0 : xs = [] := List.map_eq_nil_iff.1 h0
   obtain rfl : 0 = n := by rw [← hn.out, e0]; rfl
   have hq := hidIt hq
   clear o1 c1 HM
   go_wp2
   go_loopg [6, 7, 12] 0 (fun gg _ _ s12 wr => s12 = .int .i64 0 ∧ wr = w1)
   case atStart => exact ⟨rfl, rfl⟩
   case round =>
    obtain ⟨rfl, rfl⟩ := hrel
    go_wp2
    go_ret
    exact ⟨a', c', [], rfl, rfl, by rw [e0], ⟨Sl.nil, fun y hy => by simp at hy⟩, ⟨.inl rfl, fun y hy => by simp at hy⟩, hq.out⟩
 · obtain ⟨o, ho⟩ : ∃ o, o = 0 := ⟨0, rfl⟩
   rw [← ho]
   have F0 : Hid (∀ (j : Nat) (r : List Value) (i : Nat) (v : Value), (xs.map FuncX.row)[j]? = some r → r[i]? = some v → cur0[o + j * 6 + i]? = some v) := hidIt fun j r i v hj hi => by rw [ho, Nat.zero_add]; exact hcc j r i v hj hi
   have HH := hidIt hh
   have HQ := hidIt hq
   have HB := hidIt hB
   have LEN := hidIt o1.len
   clear o1 c1 hh hq hB hcc ho
   go_wp2
   go_loopg [6, 7, 12] n (fun gg _ _ s12 wr => ∃ k : Nat, k ≤ n ∧ n - k ≤ gg ∧ s12 = .int .i64 k ∧ Hid (∃ (ys : List FuncX) (cur : Array Value), Below w.heap.size w wr ∧ ys.length = k ∧ ys.map FuncX.d = (xs.take k).map FuncX.d ∧ wr.heap[g]? = some (.cells cur 45 (0, 0)) ∧ (∀ (j : Nat) (r : List Value) (i : Nat) (v : Value), ((ys ++ xs.drop k).map FuncX.row)[j]? = some r → r[i]? = some v → cur[o + j * 6 + i]? = some v) ∧ ∀ y ∈ ys, y.At wr ∧ y.New (g + 1)))
   case atStart => exact ⟨0, Nat.zero_le _, by omega, rfl, hidIt ⟨[], cur0, HQ.out, rfl, rfl, HH.out, F0.out, fun y hy => by simp at hy⟩⟩
   case round =>
    obtain ⟨k, hk, hg, rfl, R⟩ := hrel
    by_cases hlt : k < n
    · obtain ⟨ys, cur, hb0, hyl, hyd, hg0, F, hya⟩ := R.out
      clear R F0 HH HQ
      obtain ⟨x, hx⟩ : ∃ x, xs[k]? = some x := ⟨_, List.getElem?_eq_getElem (by rw [hn.out]; exact hlt)⟩
      have hb := hidIt hb0
      have HG := hidIt hg0
      have FF := hidIt F
      have HYL := hidIt hyl
      have HYD := hidIt hyd
      have HYA := hidIt hya
      have HX := hidIt hx
      have hrow : ((ys ++ xs.drop k).map FuncX.row)[k]? = some x.row := by
       rw [List.getElem?_map, List.getElem?_append_right (by omega), hyl, Nat.sub_self, List.getElem?_drop, Nat.add_zero, hx]; rfl
      have g1 : ∀ (i : Nat) (v : Value), x.row[i]? = some v → wr.cell? ⟨g, o + k * 6 + i, none⟩ = some v := fun i v hv => by rw [cell_at hg0]; exact F k x.row i v hrow hv
      have G1 := hidIt g1
      have p0 := g1 0 _ rfl
      have p1 := g1 1 _ rfl
      have p2 := g1 2 _ rfl
      have p3 := g1 3 _ rfl
      have p4 := g1 4 _ rfl
      have p5 := g1 5 _ rfl
      rw [Nat.add_zero] at p0
      clear g1 hrow hx hb0 hg0 F hyl hyd hya
      go_upto_region 5 with fail
      have hb1 := hidIt (below_next hb.out (below_new wr (.cells #[.int .i64 x.at_, .string x.name, .slice x.pa x.params.length x.pc, .slice x.la x.locals.length x.lc, .string x.result, .slice x.ba x.blocks.length x.bc] 45)))
      have hbn := hidIt (below_new wr (.cells #[.int .i64 x.at_, .string x.name, .slice x.pa x.params.length x.pc, .slice x.la x.locals.length x.lc, .string x.result, .slice x.ba x.blocks.length x.bc] 45))
      have hh1 := heap_alloc_new wr (.cells #[.int .i64 x.at_, .string x.name, .slice x.pa x.params.length x.pc, .slice x.la x.locals.length x.lc, .string x.result, .slice x.ba x.blocks.length x.bc] 45)
      clear p0 p1 p2 p3 p4 p5
      have HS : Hid ((wr.alloc (.cells #[.int .i64 x.at_, .string x.name, .slice x.pa x.params.length x.pc, .slice x.la x.locals.length x.lc, .string x.result, .slice x.ba x.blocks.length x.bc] 45)).heap.size = wr.heap.size + 1) := hidIt (World.size_alloc _ _)
      obtain ⟨B1, eB⟩ : ∃ B1, B1 = wr.heap.size := ⟨_, rfl⟩
      rw [← eB] at hh1 HS ⊢
      have EB := hidIt eB
      clear eB
      generalize wr.alloc (.cells #[.int .i64 x.at_, .string x.name, .slice x.pa x.params.length x.pc, .slice x.la x.locals.length x.lc, .string x.result, .slice x.ba x.blocks.length x.bc] 45) = w2 at hb1 hbn hh1 HS ⊢
      have hh1 := hidIt hh1
      obtain ⟨q0, q1, q2, q3, q4, q5⟩ := cells_6 hh1.out
      go_wp2_with (go_at_call 72; refine (HM.out _ x (List.mem_of_getElem? HX.out) hb1.out).mono ?_)
      rintro e w3 ⟨y, rfl, hyd1, hya1, hyn1, hq3⟩
      clear q0 q1 q2 q3 q4 q5
      have hbw3 := hidIt (below_next hbn.out hq3)
      have hb3 := hidIt (below_next hb.out hbw3.out)
      have HG3 := hidIt (heap_on HG.out hbw3.out)
      have Y1 := hidIt (And.intro hyd1 (And.intro hya1 hyn1))
      clear hyd1 hya1 hyn1 hq3
      have G3 : ∀ (i : Nat) (v : Value), x.row[i]? = some v → w3.cell? ⟨g, o + k * 6 + i, none⟩ = some v := fun i v hv => by
       rw [World.cell?_of_block (w := wr) ((HG3.out).trans HG.out.symm)]; exact G1.out i v hv
      have Z3 : ∀ i : Nat, w3.frozen? ⟨g, i, none⟩ = false := fun i => frozen_at HG3.out i
      have p0 := G3 0 _ rfl
      have p1 := G3 1 _ rfl
      have p2 := G3 2 _ rfl
      have p3 := G3 3 _ rfl
      have p4 := G3 4 _ rfl
      have p5 := G3 5 _ rfl
      rw [Nat.add_zero] at p0
      have z0 := Z3 (o + k * 6)
      have z1 := Z3 (o + k * 6 + 1)
      have z2 := Z3 (o + k * 6 + 2)
      have z3 := Z3 (o + k * 6 + 3)
      have z4 := Z3 (o + k * 6 + 4)
      have z5 := Z3 (o + k * 6 + 5)
      clear G3 Z3 G1
      go_wp2
      have RES : Hid (∃ (ys2 : List FuncX) (cur2 : Array Value), Below w.heap.size w (put w3 g (o + k * 6) y.row) ∧ ys2.length = k + 1 ∧ ys2.map FuncX.d = (xs.take (k + 1)).map FuncX.d ∧ (put w3 g (o + k * 6) y.row).heap[g]? = some (.cells cur2 45 (0, 0)) ∧ (∀ (j : Nat) (r : List Value) (i : Nat) (v : Value), ((ys2 ++ xs.drop (k + 1)).map FuncX.row)[j]? = some r → r[i]? = some v → cur2[o + j * 6 + i]? = some v) ∧ ∀ z ∈ ys2, z.At (put w3 g (o + k * 6) y.row) ∧ z.New (g + 1)) := hidIt (by
       have hkx : k < xs.length := by rw [hn.out]; exact hlt
       have hgw : g < wr.heap.size := (Array.getElem?_eq_some_iff.1 HG.out).1
       have hK : Kps (g + 1) w3 (put w3 g (o + k * 6) y.row) := ⟨by rw [put_size]; exact Nat.le_refl _, fun b h1 _ => put_other _ _ _ (by omega)⟩
       obtain ⟨cur2, h1, h2⟩ := put_rows (o := o) (K := 6) (rows := (ys ++ xs.drop k).map FuncX.row) HG3.out (fun r hr => by obtain ⟨z, _, rfl⟩ := List.mem_map.1 hr; rfl) FF.out (k := k) (by rw [List.length_map, List.length_append, List.length_drop, HYL.out]; omega) (r := y.row) rfl
       refine ⟨ys ++ [y], cur2, put_below _ _ hb3.out HB.out, by rw [List.length_append, HYL.out]; rfl, ?_, h1, fun j r i v hj hi => h2 j r i v ?_ hi, fun z hz => ?_⟩
       · rw [List.map_append, HYD.out, List.take_add_one, HX.out, List.map_append]
         show _ ++ [y.d] = _ ++ [x.d]
         rw [Y1.out.1]
       · rw [← List.map_set, ← set_drop HYL.out hkx]; exact hj
       · rcases List.mem_append.1 hz with hz | hz
         · have := HYA.out z hz
           exact ⟨(this.1.on hbw3.out).keep this.2 hK, this.2⟩
         · cases List.mem_singleton.1 hz
           have hny : y.New (g + 1) := Y1.out.2.2.mono (by rw [HS.out, EB.out]; omega)
           exact ⟨Y1.out.2.1.keep hny hK, hny⟩)
      go_roundg (n - (k + 1))
      case measure => omega
      case rel => exact ⟨k + 1, by omega, by omega, by go_num, RES⟩
    · have : k = n := by omega
      subst this
      clear F0 HH HQ HM
      go_wp2
      go_ret
      obtain ⟨ys, cur, hb0, hyl, hyd, hg0, F, hya⟩ := R.out
      have hxl : xs.length = k := hn.out
      rw [List.drop_eq_nil_of_le (by omega), List.append_nil] at F
      rw [List.take_of_length_le (by omega)] at hyd
      refine ⟨some ⟨g, o, none⟩, c', ys, rfl, hyl, hyd, ⟨⟨fun r hr => by obtain ⟨z, _, rfl⟩ := List.mem_map.1 hr; rfl, by rw [List.length_map, hyl]; exact n1, .inr ⟨g, o, rfl, (Array.getElem?_eq_some_iff.1 hg0).1, fun j r i v hj hi => by rw [cell_at hg0]; exact F j r i v hj hi⟩⟩, fun y hy => (hya y hy).1⟩, ⟨.inr ⟨g, o, rfl, HB.out⟩, fun y hy => (hya y hy).2.mono (by have := HB.out; omega)⟩, hb0⟩

set_option maxHeartbeats 2000000 in
set_option maxRecDepth 100000 in
theorem anew_struct (a : Option Addr) (xs : List StructX) (c : Nat) (w : World) (hx : Strs w a xs)
 (hm : ∀ (W : World) (x : StructX), x ∈ xs → Below w.heap.size w W → Calls Tryz.prog 67 #[.agg #[.int .i64 x.at_, .string x.name, .bool x.safe, .bool x.hook, .slice x.fa x.fields.length x.fc]] W fun e w' => ∃ y : StructX, e = .returned (.agg #[.int .i64 y.at_, .string y.name, .bool y.safe, .bool y.hook, .slice y.fa y.fields.length y.fc]) ∧ y.d = x.d ∧ y.At w' ∧ y.New W.heap.size ∧ Below W.heap.size W w') :
 Calls Tryz.prog 66 #[.slice a xs.length c, .func (.func 67) #[] #[]] w fun e w' => ∃ a' c' ys, e = .returned (.slice a' xs.length c') ∧ ys.length = xs.length ∧ ys.map StructX.d = xs.map StructX.d ∧ Strs w' a' ys ∧ (NewA w.heap.size a' ys.length ∧ ∀ y ∈ ys, y.New w.heap.size) ∧ Below w.heap.size w w' := by
 have n1 := hx.1.big
 rw [List.length_map] at n1
 have c1 : Hid (Calls Tryz.prog 110 #[.slice a xs.length c] w fun e w' => ∃ a' c', e = .returned (.slice a' xs.length c') ∧ xs.length ≤ c' ∧ Own w' w.heap.size 58 5 a' (xs.map StructX.row) ∧ Below w.heap.size w w') := hidIt (by
  have := clone_struct a (xs.map StructX.row) c w hx.1 (by intro u hu; obtain ⟨r, hr, hu⟩ := List.mem_flatten.1 hu; obtain ⟨x, _, rfl⟩ := List.mem_map.1 hr; simp only [StructX.row, List.mem_cons, List.not_mem_nil, or_false] at hu; rcases hu with rfl | rfl | rfl | rfl | rfl <;> rfl)
  rwa [List.length_map] at this)
 have HM := hidIt hm
 clear hm hx
 obtain ⟨n, hn0⟩ : ∃ n, xs.length = n := ⟨_, rfl⟩
 rw [hn0] at n1 c1
 rw [hn0]
 have hn := hidIt hn0
 clear hn0
 go_enter Tryz.func66, Tryz.ntmps66
 go_wp2_with (go_at_call 110; refine c1.out.mono ?_)
 rintro e w1 ⟨a', c', rfl, hc', o1, hq⟩
 rcases o1.at_ with h0 | ⟨g, cur0, rfl, hB, hh, hcc⟩
 · have e0 : xs = [] := List.map_eq_nil_iff.1 h0
   obtain rfl : 0 = n := by rw [← hn.out, e0]; rfl
   have hq := hidIt hq
   clear o1 c1 HM
   go_wp2
   go_loopg [6, 7, 12] 0 (fun gg _ _ s12 wr => s12 = .int .i64 0 ∧ wr = w1)
   case atStart => exact ⟨rfl, rfl⟩
   case round =>
    obtain ⟨rfl, rfl⟩ := hrel
    go_wp2
    go_ret
    exact ⟨a', c', [], rfl, rfl, by rw [e0], ⟨Sl.nil, fun y hy => by simp at hy⟩, ⟨.inl rfl, fun y hy => by simp at hy⟩, hq.out⟩
 · obtain ⟨o, ho⟩ : ∃ o, o = 0 := ⟨0, rfl⟩
   rw [← ho]
   have F0 : Hid (∀ (j : Nat) (r : List Value) (i : Nat) (v : Value), (xs.map StructX.row)[j]? = some r → r[i]? = some v → cur0[o + j * 5 + i]? = some v) := hidIt fun j r i v hj hi => by rw [ho, Nat.zero_add]; exact hcc j r i v hj hi
   have HH := hidIt hh
   have HQ := hidIt hq
   have HB := hidIt hB
   have LEN := hidIt o1.len
   clear o1 c1 hh hq hB hcc ho
   go_wp2
   go_loopg [6, 7, 12] n (fun gg _ _ s12 wr => ∃ k : Nat, k ≤ n ∧ n - k ≤ gg ∧ s12 = .int .i64 k ∧ Hid (∃ (ys : List StructX) (cur : Array Value), Below w.heap.size w wr ∧ ys.length = k ∧ ys.map StructX.d = (xs.take k).map StructX.d ∧ wr.heap[g]? = some (.cells cur 58 (0, 0)) ∧ (∀ (j : Nat) (r : List Value) (i : Nat) (v : Value), ((ys ++ xs.drop k).map StructX.row)[j]? = some r → r[i]? = some v → cur[o + j * 5 + i]? = some v) ∧ ∀ y ∈ ys, y.At wr ∧ y.New (g + 1)))
   case atStart => exact ⟨0, Nat.zero_le _, by omega, rfl, hidIt ⟨[], cur0, HQ.out, rfl, rfl, HH.out, F0.out, fun y hy => by simp at hy⟩⟩
   case round =>
    obtain ⟨k, hk, hg, rfl, R⟩ := hrel
    by_cases hlt : k < n
    · obtain ⟨ys, cur, hb0, hyl, hyd, hg0, F, hya⟩ := R.out
      clear R F0 HH HQ
      obtain ⟨x, hx⟩ : ∃ x, xs[k]? = some x := ⟨_, List.getElem?_eq_getElem (by rw [hn.out]; exact hlt)⟩
      have hb := hidIt hb0
      have HG := hidIt hg0
      have FF := hidIt F
      have HYL := hidIt hyl
      have HYD := hidIt hyd
      have HYA := hidIt hya
      have HX := hidIt hx
      have hrow : ((ys ++ xs.drop k).map StructX.row)[k]? = some x.row := by
       rw [List.getElem?_map, List.getElem?_append_right (by omega), hyl, Nat.sub_self, List.getElem?_drop, Nat.add_zero, hx]; rfl
      have g1 : ∀ (i : Nat) (v : Value), x.row[i]? = some v → wr.cell? ⟨g, o + k * 5 + i, none⟩ = some v := fun i v hv => by rw [cell_at hg0]; exact F k x.row i v hrow hv
      have G1 := hidIt g1
      have p0 := g1 0 _ rfl
      have p1 := g1 1 _ rfl
      have p2 := g1 2 _ rfl
      have p3 := g1 3 _ rfl
      have p4 := g1 4 _ rfl
      rw [Nat.add_zero] at p0
      clear g1 hrow hx hb0 hg0 F hyl hyd hya
      go_upto_region 5 with fail
      have hb1 := hidIt (below_next hb.out (below_new wr (.cells #[.int .i64 x.at_, .string x.name, .bool x.safe, .bool x.hook, .slice x.fa x.fields.length x.fc] 58)))
      have hbn := hidIt (below_new wr (.cells #[.int .i64 x.at_, .string x.name, .bool x.safe, .bool x.hook, .slice x.fa x.fields.length x.fc] 58))
      have hh1 := heap_alloc_new wr (.cells #[.int .i64 x.at_, .string x.name, .bool x.safe, .bool x.hook, .slice x.fa x.fields.length x.fc] 58)
      clear p0 p1 p2 p3 p4
      have HS : Hid ((wr.alloc (.cells #[.int .i64 x.at_, .string x.name, .bool x.safe, .bool x.hook, .slice x.fa x.fields.length x.fc] 58)).heap.size = wr.heap.size + 1) := hidIt (World.size_alloc _ _)
      obtain ⟨B1, eB⟩ : ∃ B1, B1 = wr.heap.size := ⟨_, rfl⟩
      rw [← eB] at hh1 HS ⊢
      have EB := hidIt eB
      clear eB
      generalize wr.alloc (.cells #[.int .i64 x.at_, .string x.name, .bool x.safe, .bool x.hook, .slice x.fa x.fields.length x.fc] 58) = w2 at hb1 hbn hh1 HS ⊢
      have hh1 := hidIt hh1
      obtain ⟨q0, q1, q2, q3, q4⟩ := cells_5 hh1.out
      go_wp2_with (go_at_call 67; refine (HM.out _ x (List.mem_of_getElem? HX.out) hb1.out).mono ?_)
      rintro e w3 ⟨y, rfl, hyd1, hya1, hyn1, hq3⟩
      clear q0 q1 q2 q3 q4
      have hbw3 := hidIt (below_next hbn.out hq3)
      have hb3 := hidIt (below_next hb.out hbw3.out)
      have HG3 := hidIt (heap_on HG.out hbw3.out)
      have Y1 := hidIt (And.intro hyd1 (And.intro hya1 hyn1))
      clear hyd1 hya1 hyn1 hq3
      have G3 : ∀ (i : Nat) (v : Value), x.row[i]? = some v → w3.cell? ⟨g, o + k * 5 + i, none⟩ = some v := fun i v hv => by
       rw [World.cell?_of_block (w := wr) ((HG3.out).trans HG.out.symm)]; exact G1.out i v hv
      have Z3 : ∀ i : Nat, w3.frozen? ⟨g, i, none⟩ = false := fun i => frozen_at HG3.out i
      have p0 := G3 0 _ rfl
      have p1 := G3 1 _ rfl
      have p2 := G3 2 _ rfl
      have p3 := G3 3 _ rfl
      have p4 := G3 4 _ rfl
      rw [Nat.add_zero] at p0
      have z0 := Z3 (o + k * 5)
      have z1 := Z3 (o + k * 5 + 1)
      have z2 := Z3 (o + k * 5 + 2)
      have z3 := Z3 (o + k * 5 + 3)
      have z4 := Z3 (o + k * 5 + 4)
      clear G3 Z3 G1
      go_wp2
      have RES : Hid (∃ (ys2 : List StructX) (cur2 : Array Value), Below w.heap.size w (put w3 g (o + k * 5) y.row) ∧ ys2.length = k + 1 ∧ ys2.map StructX.d = (xs.take (k + 1)).map StructX.d ∧ (put w3 g (o + k * 5) y.row).heap[g]? = some (.cells cur2 58 (0, 0)) ∧ (∀ (j : Nat) (r : List Value) (i : Nat) (v : Value), ((ys2 ++ xs.drop (k + 1)).map StructX.row)[j]? = some r → r[i]? = some v → cur2[o + j * 5 + i]? = some v) ∧ ∀ z ∈ ys2, z.At (put w3 g (o + k * 5) y.row) ∧ z.New (g + 1)) := hidIt (by
       have hkx : k < xs.length := by rw [hn.out]; exact hlt
       have hgw : g < wr.heap.size := (Array.getElem?_eq_some_iff.1 HG.out).1
       have hK : Kps (g + 1) w3 (put w3 g (o + k * 5) y.row) := ⟨by rw [put_size]; exact Nat.le_refl _, fun b h1 _ => put_other _ _ _ (by omega)⟩
       obtain ⟨cur2, h1, h2⟩ := put_rows (o := o) (K := 5) (rows := (ys ++ xs.drop k).map StructX.row) HG3.out (fun r hr => by obtain ⟨z, _, rfl⟩ := List.mem_map.1 hr; rfl) FF.out (k := k) (by rw [List.length_map, List.length_append, List.length_drop, HYL.out]; omega) (r := y.row) rfl
       refine ⟨ys ++ [y], cur2, put_below _ _ hb3.out HB.out, by rw [List.length_append, HYL.out]; rfl, ?_, h1, fun j r i v hj hi => h2 j r i v ?_ hi, fun z hz => ?_⟩
       · rw [List.map_append, HYD.out, List.take_add_one, HX.out, List.map_append]
         show _ ++ [y.d] = _ ++ [x.d]
         rw [Y1.out.1]
       · rw [← List.map_set, ← set_drop HYL.out hkx]; exact hj
       · rcases List.mem_append.1 hz with hz | hz
         · have := HYA.out z hz
           exact ⟨(this.1.on hbw3.out).keep this.2 hK, this.2⟩
         · cases List.mem_singleton.1 hz
           have hny : y.New (g + 1) := Y1.out.2.2.mono (by rw [HS.out, EB.out]; omega)
           exact ⟨Y1.out.2.1.keep hny hK, hny⟩)
      go_roundg (n - (k + 1))
      case measure => omega
      case rel => exact ⟨k + 1, by omega, by omega, by go_num, RES⟩
    · have : k = n := by omega
      subst this
      clear F0 HH HQ HM
      go_wp2
      go_ret
      obtain ⟨ys, cur, hb0, hyl, hyd, hg0, F, hya⟩ := R.out
      have hxl : xs.length = k := hn.out
      rw [List.drop_eq_nil_of_le (by omega), List.append_nil] at F
      rw [List.take_of_length_le (by omega)] at hyd
      refine ⟨some ⟨g, o, none⟩, c', ys, rfl, hyl, hyd, ⟨⟨fun r hr => by obtain ⟨z, _, rfl⟩ := List.mem_map.1 hr; rfl, by rw [List.length_map, hyl]; exact n1, .inr ⟨g, o, rfl, (Array.getElem?_eq_some_iff.1 hg0).1, fun j r i v hj hi => by rw [cell_at hg0]; exact F j r i v hj hi⟩⟩, fun y hy => (hya y hy).1⟩, ⟨.inr ⟨g, o, rfl, HB.out⟩, fun y hy => (hya y hy).2.mono (by have := HB.out; omega)⟩, hb0⟩

set_option maxHeartbeats 2000000 in
set_option maxRecDepth 100000 in
theorem anew_enum (a : Option Addr) (xs : List EnumX) (c : Nat) (w : World) (hx : Ens w a xs)
 (hm : ∀ (W : World) (x : EnumX), x ∈ xs → Below w.heap.size w W → Calls Tryz.prog 70 #[.agg #[.int .i64 x.at_, .string x.name, .slice x.va x.variants.length x.vc]] W fun e w' => ∃ y : EnumX, e = .returned (.agg #[.int .i64 y.at_, .string y.name, .slice y.va y.variants.length y.vc]) ∧ y.d = x.d ∧ y.At w' ∧ y.New W.heap.size ∧ Below W.heap.size W w') :
 Calls Tryz.prog 69 #[.slice a xs.length c, .func (.func 70) #[] #[]] w fun e w' => ∃ a' c' ys, e = .returned (.slice a' xs.length c') ∧ ys.length = xs.length ∧ ys.map EnumX.d = xs.map EnumX.d ∧ Ens w' a' ys ∧ (NewA w.heap.size a' ys.length ∧ ∀ y ∈ ys, y.New w.heap.size) ∧ Below w.heap.size w w' := by
 have n1 := hx.1.big
 rw [List.length_map] at n1
 have c1 : Hid (Calls Tryz.prog 111 #[.slice a xs.length c] w fun e w' => ∃ a' c', e = .returned (.slice a' xs.length c') ∧ xs.length ≤ c' ∧ Own w' w.heap.size 70 3 a' (xs.map EnumX.row) ∧ Below w.heap.size w w') := hidIt (by
  have := clone_enum a (xs.map EnumX.row) c w hx.1 (by intro u hu; obtain ⟨r, hr, hu⟩ := List.mem_flatten.1 hu; obtain ⟨x, _, rfl⟩ := List.mem_map.1 hr; simp only [EnumX.row, List.mem_cons, List.not_mem_nil, or_false] at hu; rcases hu with rfl | rfl | rfl <;> rfl)
  rwa [List.length_map] at this)
 have HM := hidIt hm
 clear hm hx
 obtain ⟨n, hn0⟩ : ∃ n, xs.length = n := ⟨_, rfl⟩
 rw [hn0] at n1 c1
 rw [hn0]
 have hn := hidIt hn0
 clear hn0
 go_enter Tryz.func69, Tryz.ntmps69
 go_wp2_with (go_at_call 111; refine c1.out.mono ?_)
 rintro e w1 ⟨a', c', rfl, hc', o1, hq⟩
 rcases o1.at_ with h0 | ⟨g, cur0, rfl, hB, hh, hcc⟩
 · have e0 : xs = [] := List.map_eq_nil_iff.1 h0
   obtain rfl : 0 = n := by rw [← hn.out, e0]; rfl
   have hq := hidIt hq
   clear o1 c1 HM
   go_wp2
   go_loopg [6, 7, 12] 0 (fun gg _ _ s12 wr => s12 = .int .i64 0 ∧ wr = w1)
   case atStart => exact ⟨rfl, rfl⟩
   case round =>
    obtain ⟨rfl, rfl⟩ := hrel
    go_wp2
    go_ret
    exact ⟨a', c', [], rfl, rfl, by rw [e0], ⟨Sl.nil, fun y hy => by simp at hy⟩, ⟨.inl rfl, fun y hy => by simp at hy⟩, hq.out⟩
 · obtain ⟨o, ho⟩ : ∃ o, o = 0 := ⟨0, rfl⟩
   rw [← ho]
   have F0 : Hid (∀ (j : Nat) (r : List Value) (i : Nat) (v : Value), (xs.map EnumX.row)[j]? = some r → r[i]? = some v → cur0[o + j * 3 + i]? = some v) := hidIt fun j r i v hj hi => by rw [ho, Nat.zero_add]; exact hcc j r i v hj hi
   have HH := hidIt hh
   have HQ := hidIt hq
   have HB := hidIt hB
   have LEN := hidIt o1.len
   clear o1 c1 hh hq hB hcc ho
   go_wp2
   go_loopg [6, 7, 12] n (fun gg _ _ s12 wr => ∃ k : Nat, k ≤ n ∧ n - k ≤ gg ∧ s12 = .int .i64 k ∧ Hid (∃ (ys : List EnumX) (cur : Array Value), Below w.heap.size w wr ∧ ys.length = k ∧ ys.map EnumX.d = (xs.take k).map EnumX.d ∧ wr.heap[g]? = some (.cells cur 70 (0, 0)) ∧ (∀ (j : Nat) (r : List Value) (i : Nat) (v : Value), ((ys ++ xs.drop k).map EnumX.row)[j]? = some r → r[i]? = some v → cur[o + j * 3 + i]? = some v) ∧ ∀ y ∈ ys, y.At wr ∧ y.New (g + 1)))
   case atStart => exact ⟨0, Nat.zero_le _, by omega, rfl, hidIt ⟨[], cur0, HQ.out, rfl, rfl, HH.out, F0.out, fun y hy => by simp at hy⟩⟩
   case round =>
    obtain ⟨k, hk, hg, rfl, R⟩ := hrel
    by_cases hlt : k < n
    · obtain ⟨ys, cur, hb0, hyl, hyd, hg0, F, hya⟩ := R.out
      clear R F0 HH HQ
      obtain ⟨x, hx⟩ : ∃ x, xs[k]? = some x := ⟨_, List.getElem?_eq_getElem (by rw [hn.out]; exact hlt)⟩
      have hb := hidIt hb0
      have HG := hidIt hg0
      have FF := hidIt F
      have HYL := hidIt hyl
      have HYD := hidIt hyd
      have HYA := hidIt hya
      have HX := hidIt hx
      have hrow : ((ys ++ xs.drop k).map EnumX.row)[k]? = some x.row := by
       rw [List.getElem?_map, List.getElem?_append_right (by omega), hyl, Nat.sub_self, List.getElem?_drop, Nat.add_zero, hx]; rfl
      have g1 : ∀ (i : Nat) (v : Value), x.row[i]? = some v → wr.cell? ⟨g, o + k * 3 + i, none⟩ = some v := fun i v hv => by rw [cell_at hg0]; exact F k x.row i v hrow hv
      have G1 := hidIt g1
      have p0 := g1 0 _ rfl
      have p1 := g1 1 _ rfl
      have p2 := g1 2 _ rfl
      rw [Nat.add_zero] at p0
      clear g1 hrow hx hb0 hg0 F hyl hyd hya
      go_upto_region 5 with fail
      have hb1 := hidIt (below_next hb.out (below_new wr (.cells #[.int .i64 x.at_, .string x.name, .slice x.va x.variants.length x.vc] 70)))
      have hbn := hidIt (below_new wr (.cells #[.int .i64 x.at_, .string x.name, .slice x.va x.variants.length x.vc] 70))
      have hh1 := heap_alloc_new wr (.cells #[.int .i64 x.at_, .string x.name, .slice x.va x.variants.length x.vc] 70)
      clear p0 p1 p2
      have HS : Hid ((wr.alloc (.cells #[.int .i64 x.at_, .string x.name, .slice x.va x.variants.length x.vc] 70)).heap.size = wr.heap.size + 1) := hidIt (World.size_alloc _ _)
      obtain ⟨B1, eB⟩ : ∃ B1, B1 = wr.heap.size := ⟨_, rfl⟩
      rw [← eB] at hh1 HS ⊢
      have EB := hidIt eB
      clear eB
      generalize wr.alloc (.cells #[.int .i64 x.at_, .string x.name, .slice x.va x.variants.length x.vc] 70) = w2 at hb1 hbn hh1 HS ⊢
      have hh1 := hidIt hh1
      obtain ⟨q0, q1, q2⟩ := cells_3 hh1.out
      go_wp2_with (go_at_call 70; refine (HM.out _ x (List.mem_of_getElem? HX.out) hb1.out).mono ?_)
      rintro e w3 ⟨y, rfl, hyd1, hya1, hyn1, hq3⟩
      clear q0 q1 q2
      have hbw3 := hidIt (below_next hbn.out hq3)
      have hb3 := hidIt (below_next hb.out hbw3.out)
      have HG3 := hidIt (heap_on HG.out hbw3.out)
      have Y1 := hidIt (And.intro hyd1 (And.intro hya1 hyn1))
      clear hyd1 hya1 hyn1 hq3
      have G3 : ∀ (i : Nat) (v : Value), x.row[i]? = some v → w3.cell? ⟨g, o + k * 3 + i, none⟩ = some v := fun i v hv => by
       rw [World.cell?_of_block (w := wr) ((HG3.out).trans HG.out.symm)]; exact G1.out i v hv
      have Z3 : ∀ i : Nat, w3.frozen? ⟨g, i, none⟩ = false := fun i => frozen_at HG3.out i
      have p0 := G3 0 _ rfl
      have p1 := G3 1 _ rfl
      have p2 := G3 2 _ rfl
      rw [Nat.add_zero] at p0
      have z0 := Z3 (o + k * 3)
      have z1 := Z3 (o + k * 3 + 1)
      have z2 := Z3 (o + k * 3 + 2)
      clear G3 Z3 G1
      go_wp2
      have RES : Hid (∃ (ys2 : List EnumX) (cur2 : Array Value), Below w.heap.size w (put w3 g (o + k * 3) y.row) ∧ ys2.length = k + 1 ∧ ys2.map EnumX.d = (xs.take (k + 1)).map EnumX.d ∧ (put w3 g (o + k * 3) y.row).heap[g]? = some (.cells cur2 70 (0, 0)) ∧ (∀ (j : Nat) (r : List Value) (i : Nat) (v : Value), ((ys2 ++ xs.drop (k + 1)).map EnumX.row)[j]? = some r → r[i]? = some v → cur2[o + j * 3 + i]? = some v) ∧ ∀ z ∈ ys2, z.At (put w3 g (o + k * 3) y.row) ∧ z.New (g + 1)) := hidIt (by
       have hkx : k < xs.length := by rw [hn.out]; exact hlt
       have hgw : g < wr.heap.size := (Array.getElem?_eq_some_iff.1 HG.out).1
       have hK : Kps (g + 1) w3 (put w3 g (o + k * 3) y.row) := ⟨by rw [put_size]; exact Nat.le_refl _, fun b h1 _ => put_other _ _ _ (by omega)⟩
       obtain ⟨cur2, h1, h2⟩ := put_rows (o := o) (K := 3) (rows := (ys ++ xs.drop k).map EnumX.row) HG3.out (fun r hr => by obtain ⟨z, _, rfl⟩ := List.mem_map.1 hr; rfl) FF.out (k := k) (by rw [List.length_map, List.length_append, List.length_drop, HYL.out]; omega) (r := y.row) rfl
       refine ⟨ys ++ [y], cur2, put_below _ _ hb3.out HB.out, by rw [List.length_append, HYL.out]; rfl, ?_, h1, fun j r i v hj hi => h2 j r i v ?_ hi, fun z hz => ?_⟩
       · rw [List.map_append, HYD.out, List.take_add_one, HX.out, List.map_append]
         show _ ++ [y.d] = _ ++ [x.d]
         rw [Y1.out.1]
       · rw [← List.map_set, ← set_drop HYL.out hkx]; exact hj
       · rcases List.mem_append.1 hz with hz | hz
         · have := HYA.out z hz
           exact ⟨(this.1.on hbw3.out).keep this.2 hK, this.2⟩
         · cases List.mem_singleton.1 hz
           have hny : y.New (g + 1) := Y1.out.2.2.mono (by rw [HS.out, EB.out]; omega)
           exact ⟨Y1.out.2.1.keep hny hK, hny⟩)
      go_roundg (n - (k + 1))
      case measure => omega
      case rel => exact ⟨k + 1, by omega, by omega, by go_num, RES⟩
    · have : k = n := by omega
      subst this
      clear F0 HH HQ HM
      go_wp2
      go_ret
      obtain ⟨ys, cur, hb0, hyl, hyd, hg0, F, hya⟩ := R.out
      have hxl : xs.length = k := hn.out
      rw [List.drop_eq_nil_of_le (by omega), List.append_nil] at F
      rw [List.take_of_length_le (by omega)] at hyd
      refine ⟨some ⟨g, o, none⟩, c', ys, rfl, hyl, hyd, ⟨⟨fun r hr => by obtain ⟨z, _, rfl⟩ := List.mem_map.1 hr; rfl, by rw [List.length_map, hyl]; exact n1, .inr ⟨g, o, rfl, (Array.getElem?_eq_some_iff.1 hg0).1, fun j r i v hj hi => by rw [cell_at hg0]; exact F j r i v hj hi⟩⟩, fun y hy => (hya y hy).1⟩, ⟨.inr ⟨g, o, rfl, HB.out⟩, fun y hy => (hya y hy).2.mono (by have := HB.out; omega)⟩, hb0⟩

end Go.Proofs.YtlppbgmcoknliaaGreatDoor
