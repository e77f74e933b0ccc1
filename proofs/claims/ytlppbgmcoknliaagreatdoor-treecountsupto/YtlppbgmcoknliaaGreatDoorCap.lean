/-
  What Clone hands back has room of its own.
-/
import Derived.Test.YtlppbgmcoknliaaGreatDoorCln4
namespace Go.Proofs.YtlppbgmcoknliaaGreatDoor
set_option linter.unusedVariables false
open Go.RowKit

/-- A slice that begins with its block, and has all of it. -/
def RoomA (W : World) (B : Nat) (ty : TypeId) (k : Nat) (a : Option Addr) (n c : Nat) : Prop := (n = 0 ∧ a = none ∧ c = 0) ∨ ∃ g cur, a = some ⟨g, 0, none⟩ ∧ B ≤ g ∧ W.heap[g]? = some (.cells cur ty (0, 0)) ∧ n ≤ c ∧ c ≤ maxLen ∧ cur.size = c * k
theorem RoomA.on {W W' : World} {B : Nat} {ty : TypeId} {k : Nat} {a : Option Addr} {n c : Nat} (h : RoomA W B ty k a n c) (hb : Below W.heap.size W W') : RoomA W' B ty k a n c :=
 h.imp id fun ⟨g, cur, e, hB, hh, h1, h2, h3⟩ => ⟨g, cur, e, hB, heap_on hh hb, h1, h2, h3⟩
theorem RoomA.mono {W : World} {B C : Nat} {ty : TypeId} {k : Nat} {a : Option Addr} {n c : Nat} (h : RoomA W B ty k a n c) (hC : C ≤ B) : RoomA W C ty k a n c :=
 h.imp id fun ⟨g, cur, e, hB, h1⟩ => ⟨g, cur, e, Nat.le_trans hC hB, h1⟩
theorem RoomA.keep {W W' : World} {L : Nat} {ty : TypeId} {k : Nat} {a : Option Addr} {n c : Nat} (h : RoomA W L ty k a n c) (hk : Kps L W W') : RoomA W' L ty k a n c :=
 h.imp id fun ⟨g, cur, e, hB, hh, h1⟩ => ⟨g, cur, e, hB, (hk.block g hB (Array.getElem?_eq_some_iff.1 hh).1).trans hh, h1⟩
theorem room_of {W : World} {B : Nat} {ty : TypeId} {k : Nat} {a : Option Addr} {n m c : Nat} {xs : List Value} (h : W.ownsRow B ty k (.slice a n c) m xs) : RoomA W B ty k a n c := by
 rcases h.2 with ⟨e, h0⟩ | ⟨g, cap, cur, e, hB, hh, h1, h2, h3, h4⟩
 · cases e; exact .inl ⟨rfl, rfl, rfl⟩
 · cases e; exact .inr ⟨g, cur, rfl, hB, hh, h1, h2, h3⟩
/-- RoomA, and the block lies below L. -/
def RoomB (W : World) (B L : Nat) (ty : TypeId) (k : Nat) (a : Option Addr) (n c : Nat) : Prop := (n = 0 ∧ a = none ∧ c = 0) ∨ ∃ g cur, a = some ⟨g, 0, none⟩ ∧ B ≤ g ∧ g < L ∧ W.heap[g]? = some (.cells cur ty (0, 0)) ∧ n ≤ c ∧ c ≤ maxLen ∧ cur.size = c * k
theorem RoomB.on {W W' : World} {B L : Nat} {ty : TypeId} {k : Nat} {a : Option Addr} {n c : Nat} (h : RoomB W B L ty k a n c) (hb : Below W.heap.size W W') : RoomB W' B L ty k a n c :=
 h.imp id fun ⟨g, cur, e, hB, hL, hh, h1⟩ => ⟨g, cur, e, hB, hL, heap_on hh hb, h1⟩
theorem RoomB.mono {W : World} {B C L : Nat} {ty : TypeId} {k : Nat} {a : Option Addr} {n c : Nat} (h : RoomB W B L ty k a n c) (hC : C ≤ B) : RoomB W C L ty k a n c :=
 h.imp id fun ⟨g, cur, e, hB, h1⟩ => ⟨g, cur, e, Nat.le_trans hC hB, h1⟩
theorem RoomB.keep {W W' : World} {L M : Nat} {ty : TypeId} {k : Nat} {a : Option Addr} {n c : Nat} (h : RoomB W L M ty k a n c) (hk : Kps L W W') : RoomB W' L M ty k a n c :=
 h.imp id fun ⟨g, cur, e, hB, hL, hh, h1⟩ => ⟨g, cur, e, hB, hL, (hk.block g hB (Array.getElem?_eq_some_iff.1 hh).1).trans hh, h1⟩
theorem roomB_of {W : World} {B : Nat} {ty : TypeId} {k : Nat} {a : Option Addr} {n c : Nat} (h : RoomA W B ty k a n c) : RoomB W B W.heap.size ty k a n c :=
 h.imp id fun ⟨g, cur, e, hB, hh, h1⟩ => ⟨g, cur, e, hB, (Array.getElem?_eq_some_iff.1 hh).1, hh, h1⟩
theorem RoomB.room {W : World} {B L : Nat} {ty : TypeId} {k : Nat} {a : Option Addr} {n c : Nat} (h : RoomB W B L ty k a n c) : RoomA W B ty k a n c :=
 h.imp id fun ⟨g, cur, e, hB, _, hh, h1⟩ => ⟨g, cur, e, hB, hh, h1⟩
/-- Room, and all else above it. -/
def RMs (B : Nat) (W : World) (ty : TypeId) (k : Nat) (a : Option Addr) (n c : Nat) (P : Nat → Prop) : Prop := ∃ L, RoomB W B L ty k a n c ∧ P L ∧ L ≤ W.heap.size ∧ B ≤ L
theorem own_of_room {W : World} {B : Nat} {ty : TypeId} {k : Nat} {a : Option Addr} {n c : Nat} {rows : List (List Value)} (h : RoomA W B ty k a n c) (hs : Sl W k a rows) (hn : rows.length = n) : W.ownsRow B ty k (.slice a n c) n rows.flatten := by
 have hl := flat_len hs.len
 refine ⟨by rw [hl, hn], ?_⟩
 rcases h with ⟨h0, rfl, rfl⟩ | ⟨g, cur, rfl, hB, hh, h1, h2, h3⟩
 · exact .inl ⟨by rw [h0], h0⟩
 · refine .inr ⟨g, c, cur, rfl, hB, hh, h1, h2, h3, ?_⟩
   refine List.ext_getElem? fun i => ?_
   rw [List.getElem?_take]
   split
   · rename_i hi
     obtain ⟨u, hu⟩ : ∃ u, rows.flatten[i]? = some u := ⟨_, List.getElem?_eq_getElem (by rw [hl, hn]; exact hi)⟩
     rw [hu]
     rcases hs.at_ with h0 | ⟨b, off, e, hlt, hc⟩
     · rw [h0] at hu; simp at hu
     · cases e
       obtain ⟨j1, r, i1, hj1, hi1, e1⟩ := flat_of hs.len hu
       have h5 := hc j1 r i1 u hj1 hi1
       rw [cell_at hh, Nat.zero_add, ← e1] at h5
       rw [Array.getElem?_toList]
       exact h5
   · rename_i hi
     rw [List.getElem?_eq_none (by rw [hl, hn]; omega)]

/-- What a clone is, for who appends to it: its structs' block lies below all else of it; its structs and enums stood ahead of its functions' block. -/
def CloneOf (w w' : World) (y : ProgX) : Prop :=
 (∃ L0, RoomB w' (w.heap.size + 2) L0 58 5 y.sa y.structs.length y.sc ∧ (∀ s ∈ y.structs, s.New L0) ∧ (NewA L0 y.ea y.enums.length ∧ ∀ s ∈ y.enums, s.New L0) ∧ (NewA L0 y.fa y.funcs.length ∧ ∀ f ∈ y.funcs, f.New L0)) ∧
 ∃ wm L2, w.heap.size + 2 ≤ wm.heap.size ∧ wm.heap.size ≤ L2 ∧ Kps (w.heap.size + 2) wm w' ∧ Strs wm y.sa y.structs ∧ Ens wm y.ea y.enums ∧ (NewA (w.heap.size + 2) y.sa y.structs.length ∧ ∀ s ∈ y.structs, s.New (w.heap.size + 2)) ∧ (NewA (w.heap.size + 2) y.ea y.enums.length ∧ ∀ s ∈ y.enums, s.New (w.heap.size + 2)) ∧ RoomB w' wm.heap.size L2 45 6 y.fa y.funcs.length y.fc ∧ ∀ f ∈ y.funcs, f.New L2

set_option maxHeartbeats 2000000 in
set_option maxRecDepth 100000 in
theorem clone_struct2 (a : Option Addr) (rows : List (List Value)) (c : Nat) (w : World) (h : Sl w 5 a rows) (h1 : ∀ u ∈ rows.flatten, u.oneCell' = true) :
 Calls Tryz.prog 110 #[.slice a rows.length c] w fun e w' => ∃ a' c', e = .returned (.slice a' rows.length c') ∧ rows.length ≤ c' ∧ Own w' w.heap.size 58 5 a' rows ∧ RoomA w' w.heap.size 58 5 a' rows.length c' ∧ Below w.heap.size w w' := by
 have q22 : ∀ (w : World) (a : Option Addr) (n c n' c' : Nat), (binOp .eql 32 (.slice a n c) (.slice none n' c')).run Tryz.prog w = .ok (.bool a.isNone) w := fun w a n c n' c' => Lib.run_eql_slice_nil w _ _ a n c n' c' Tryz.underlying32
 have hbig := h.big
 have hlen := hidIt h.len
 obtain ⟨i0, hi, hz0, hz1, hz2⟩ : ∃ i0, Tryz.prog.info? 58 = some i0 ∧ i0.zero = some (.agg #[.int .i64 0, .string ⟨#[]⟩, .bool false, .bool false, .slice none 0 0]) ∧ i0.size = 5 ∧ i0.bytes ≤ 1000 := by
  have := cinfo_struct
  cases hh : Tryz.prog.info? 58 with
  | none => rw [hh] at this; cases this
  | some i => rw [hh] at this; simp only [Option.map_some, Option.some.injEq, Prod.mk.injEq, decide_eq_true_eq] at this; exact ⟨i, rfl, this.1, this.2.1, this.2.2⟩
 cases a with
 | none =>
  have e0 : rows = [] := by
   rcases h.at_ with h0 | ⟨b, off, e, _⟩
   · exact h0
   · cases e
  subst e0
  clear h h1
  go_enter Tryz.func110, Tryz.ntmps110
  go_wp2
  go_ret
  exact ⟨none, 0, rfl, Nat.le_refl _, ⟨hlen.out, hbig, .inl rfl⟩, .inl ⟨rfl, rfl, rfl⟩, Below.refl _ _⟩
 | some p =>
  have A : Hid (∀ j u, rows.flatten[j]? = some u → w.cell? (p.add j) = some u) := hidIt fun j u hj => by
   rcases h.at_ with h0 | ⟨b, off, e, hlt, hc⟩
   · rw [h0] at hj; simp at hj
   · cases e
     obtain ⟨j1, r, i, hj1, hi1, e1⟩ := flat_of h.len hj
     rw [Addr.add_lit, e1, ← Nat.add_assoc]
     exact hc j1 r i u hj1 hi1
  have L := hidIt (flat_len h.len)
  have H1 := hidIt h1
  clear h h1
  obtain ⟨n, hn⟩ : ∃ n, rows.length = n := ⟨_, rfl⟩
  rw [hn] at hbig L
  rw [hn]
  have hb2 : n * i0.bytes ≤ 140737488355328 := Nat.le_trans (Nat.mul_le_mul hbig hz2) (by decide)
  have hn := hidIt hn
  go_enter Tryz.func110, Tryz.ntmps110
  go_wp2_with (at_builtin; refine wpList_append_own _ rfl _ _ 32 rfl w.heap.size 58 i0 _ 5 i0.bytes Tryz.underlying32 hi hz0 hz1 rfl rfl (by decide) _ _ _ rfl (World.ownsRow_made w #[] 0 (Nat.le_refl _) (Nat.zero_le _) (by simp)) p n c rows.flatten rfl ?qc1 ?qc2 ?qc3 ?qc4 ?qc5 ?qc6 ?_)
  case qc1 => exact L.out
  case qc2 =>
   intro j u hj
   exact Lib.cell?_alloc_some _ (A.out j u hj)
  case qc3 => exact H1.out
  case qc4 => rw [Nat.zero_add]; unfold maxLen; omega
  case qc5 => rw [Nat.zero_add]; exact hb2
  case qc6 => simp
  intro v' w1 hown hgrow hnil
  go_wp2
  go_ret
  obtain ⟨a', c', e1, l1, o1⟩ := Own.of (w := w1) (B := w.heap.size) (ty := 58) (k := 5) (v := v') (rows := rows) hlen.out (by rw [hn.out]; exact hbig) (by rw [hn.out]; simpa using hown)
  rw [hn.out] at e1 l1
  exact ⟨a', c', by rw [e1]; rfl, l1, o1, room_of (m := n) (xs := rows.flatten) (by rw [← e1]; simpa using hown), ((Below.refl _ w).alloc (Nat.le_refl _) _).grown hgrow (by simp) (by intro k hk; simp [Value.ownBlock] at hk; omega)⟩

set_option maxHeartbeats 2000000 in
set_option maxRecDepth 100000 in
theorem anew_struct2 (a : Option Addr) (xs : List StructX) (c : Nat) (w : World) (hx : Strs w a xs)
 (hm : ∀ (W : World) (x : StructX), x ∈ xs → Below w.heap.size w W → Calls Tryz.prog 67 #[.agg #[.int .i64 x.at_, .string x.name, .bool x.safe, .bool x.hook, .slice x.fa x.fields.length x.fc]] W fun e w' => ∃ y : StructX, e = .returned (.agg #[.int .i64 y.at_, .string y.name, .bool y.safe, .bool y.hook, .slice y.fa y.fields.length y.fc]) ∧ y.d = x.d ∧ y.At w' ∧ y.New W.heap.size ∧ Below W.heap.size W w') :
 Calls Tryz.prog 66 #[.slice a xs.length c, .func (.func 67) #[] #[]] w fun e w' => ∃ a' c' ys, e = .returned (.slice a' xs.length c') ∧ ys.length = xs.length ∧ ys.map StructX.d = xs.map StructX.d ∧ Strs w' a' ys ∧ (NewA w.heap.size a' ys.length ∧ ∀ y ∈ ys, y.New w.heap.size) ∧ RMs w.heap.size w' 58 5 a' xs.length c' (fun L => ∀ y ∈ ys, y.New L) ∧ Below w.heap.size w w' := by
 have n1 := hx.1.big
 rw [List.length_map] at n1
 have c1 : Hid (Calls Tryz.prog 110 #[.slice a xs.length c] w fun e w' => ∃ a' c', e = .returned (.slice a' xs.length c') ∧ xs.length ≤ c' ∧ Own w' w.heap.size 58 5 a' (xs.map StructX.row) ∧ RoomA w' w.heap.size 58 5 a' xs.length c' ∧ Below w.heap.size w w') := hidIt (by
  have := clone_struct2 a (xs.map StructX.row) c w hx.1 (by intro u hu; obtain ⟨r, hr, hu⟩ := List.mem_flatten.1 hu; obtain ⟨x, _, rfl⟩ := List.mem_map.1 hr; simp only [StructX.row, List.mem_cons, List.not_mem_nil, or_false] at hu; rcases hu with rfl | rfl | rfl | rfl | rfl <;> rfl)
  rwa [List.length_map] at this)
 have HM := hidIt hm
 clear hm hx
 obtain ⟨n, hn0⟩ : ∃ n, xs.length = n := ⟨_, rfl⟩
 rw [hn0] at n1 c1
 rw [hn0]
 have hn := hidIt hn0
 clear hn0
 go_enter Tryz.func66, Tryz.ntmps66
 go_wp2_with (go_at_call 110; refine c1.out.mono ?_)
 rintro e w1 ⟨a', c', rfl, hc', o1, hroom, hq⟩
 have HROOM := hidIt hroom
 clear hroom
 rcases o1.at_ with h0 | ⟨g, cur0, rfl, hB, hh, hcc⟩
 · have e0 : xs = [] := List.map_eq_nil_iff.1 h0
   obtain rfl : 0 = n := by rw [← hn.out, e0]; rfl
   have hq := hidIt hq
   clear o1 c1 HM
   go_wp2
   go_loopg [6, 7, 12] 0 (fun gg _ _ s12 wr => s12 = .int .i64 0 ∧ wr = w1)
   case atStart => exact ⟨rfl, rfl⟩
   case round =>
    obtain ⟨rfl, rfl⟩ := hrel
    go_wp2
    go_ret
    exact ⟨a', c', [], rfl, rfl, by rw [e0], ⟨Sl.nil, fun y hy => by simp at hy⟩, ⟨.inl rfl, fun y hy => by simp at hy⟩, ⟨_, roomB_of HROOM.out, fun y hy => by simp at hy, Nat.le_refl _, hq.out.size⟩, hq.out⟩
 · have HCS : Hid (cur0.size = c' * 5 ∧ n ≤ c' ∧ c' ≤ maxLen) := hidIt (by
    rcases HROOM.out with ⟨_, e, _⟩ | ⟨g2, cur2, e, _, hh2, h1, h2, h3⟩
    · cases e
    · cases e
      rw [hh] at hh2
      cases hh2
      exact ⟨h3, h1, h2⟩)
   obtain ⟨o, ho⟩ : ∃ o, o = 0 := ⟨0, rfl⟩
   rw [← ho]
   have F0 : Hid (∀ (j : Nat) (r : List Value) (i : Nat) (v : Value), (xs.map StructX.row)[j]? = some r → r[i]? = some v → cur0[o + j * 5 + i]? = some v) := hidIt fun j r i v hj hi => by rw [ho, Nat.zero_add]; exact hcc j r i v hj hi
   have HH := hidIt hh
   have HQ := hidIt hq
   have HB := hidIt hB
   have LEN := hidIt o1.len
   have HO := hidIt ho
   clear o1 c1 hh hq hB hcc ho
   go_wp2
   go_loopg [6, 7, 12] n (fun gg _ _ s12 wr => ∃ k : Nat, k ≤ n ∧ n - k ≤ gg ∧ s12 = .int .i64 k ∧ Hid (∃ (ys : List StructX) (cur : Array Value), Below w.heap.size w wr ∧ ys.length = k ∧ ys.map StructX.d = (xs.take k).map StructX.d ∧ wr.heap[g]? = some (.cells cur 58 (0, 0)) ∧ cur.size = c' * 5 ∧ (∀ (j : Nat) (r : List Value) (i : Nat) (v : Value), ((ys ++ xs.drop k).map StructX.row)[j]? = some r → r[i]? = some v → cur[o + j * 5 + i]? = some v) ∧ ∀ y ∈ ys, y.At wr ∧ y.New (g + 1)))
   case atStart => exact ⟨0, Nat.zero_le _, by omega, rfl, hidIt ⟨[], cur0, HQ.out, rfl, rfl, HH.out, HCS.out.1, F0.out, fun y hy => by simp at hy⟩⟩
   case round =>
    obtain ⟨k, hk, hg, rfl, R⟩ := hrel
    by_cases hlt : k < n
    · obtain ⟨ys, cur, hb0, hyl, hyd, hg0, hsz, F, hya⟩ := R.out
      clear R F0 HH HQ
      obtain ⟨x, hx⟩ : ∃ x, xs[k]? = some x := ⟨_, List.getElem?_eq_getElem (by rw [hn.out]; exact hlt)⟩
      have hb := hidIt hb0
      have HG := hidIt hg0
      have HSZ := hidIt hsz
      clear hsz
      have FF := hidIt F
      have HYL := hidIt hyl
      have HYD := hidIt hyd
      have HYA := hidIt hya
      have HX := hidIt hx
      have hrow : ((ys ++ xs.drop k).map StructX.row)[k]? = some x.row := by
       rw [List.getElem?_map, List.getElem?_append_right (by omega), hyl, Nat.sub_self, List.getElem?_drop, Nat.add_zero, hx]; rfl
      have g1 : ∀ (i : Nat) (v : Value), x.row[i]? = some v → wr.cell? ⟨g, o + k * 5 + i, none⟩ = some v := fun i v hv => by rw [cell_at hg0]; exact F k x.row i v hrow hv
      have G1 := hidIt g1
      have p0 := g1 0 _ rfl
      have p1 := g1 1 _ rfl
      have p2 := g1 2 _ rfl
      have p3 := g1 3 _ rfl
      have p4 := g1 4 _ rfl
      rw [Nat.add_zero] at p0
      clear g1 hrow hx hb0 hg0 F hyl hyd hya
      go_upto_region 5 with fail
      have hb1 := hidIt (below_next hb.out (below_new wr (.cells #[.int .i64 x.at_, .string x.name, .bool x.safe, .bool x.hook, .slice x.fa x.fields.length x.fc] 58)))
      have hbn := hidIt (below_new wr (.cells #[.int .i64 x.at_, .string x.name, .bool x.safe, .bool x.hook, .slice x.fa x.fields.length x.fc] 58))
      have hh1 := heap_alloc_new wr (.cells #[.int .i64 x.at_, .string x.name, .bool x.safe, .bool x.hook, .slice x.fa x.fields.length x.fc] 58)
      clear p0 p1 p2 p3 p4
      have HS : Hid ((wr.alloc (.cells #[.int .i64 x.at_, .string x.name, .bool x.safe, .bool x.hook, .slice x.fa x.fields.length x.fc] 58)).heap.size = wr.heap.size + 1) := hidIt (World.size_alloc _ _)
      obtain ⟨B1, eB⟩ : ∃ B1, B1 = wr.heap.size := ⟨_, rfl⟩
      rw [← eB] at hh1 HS ⊢
      have EB := hidIt eB
      clear eB
      generalize wr.alloc (.cells #[.int .i64 x.at_, .string x.name, .bool x.safe, .bool x.hook, .slice x.fa x.fields.length x.fc] 58) = w2 at hb1 hbn hh1 HS ⊢
      have hh1 := hidIt hh1
      obtain ⟨q0, q1, q2, q3, q4⟩ := cells_5 hh1.out
      go_wp2_with (go_at_call 67; refine (HM.out _ x (List.mem_of_getElem? HX.out) hb1.out).mono ?_)
      rintro e w3 ⟨y, rfl, hyd1, hya1, hyn1, hq3⟩
      clear q0 q1 q2 q3 q4
      have hbw3 := hidIt (below_next hbn.out hq3)
      have hb3 := hidIt (below_next hb.out hbw3.out)
      have HG3 := hidIt (heap_on HG.out hbw3.out)
      have Y1 := hidIt (And.intro hyd1 (And.intro hya1 hyn1))
      clear hyd1 hya1 hyn1 hq3
      have G3 : ∀ (i : Nat) (v : Value), x.row[i]? = some v → w3.cell? ⟨g, o + k * 5 + i, none⟩ = some v := fun i v hv => by
       rw [World.cell?_of_block (w := wr) ((HG3.out).trans HG.out.symm)]; exact G1.out i v hv
      have Z3 : ∀ i : Nat, w3.frozen? ⟨g, i, none⟩ = false := fun i => frozen_at HG3.out i
      have p0 := G3 0 _ rfl
      have p1 := G3 1 _ rfl
      have p2 := G3 2 _ rfl
      have p3 := G3 3 _ rfl
      have p4 := G3 4 _ rfl
      rw [Nat.add_zero] at p0
      have z0 := Z3 (o + k * 5)
      have z1 := Z3 (o + k * 5 + 1)
      have z2 := Z3 (o + k * 5 + 2)
      have z3 := Z3 (o + k * 5 + 3)
      have z4 := Z3 (o + k * 5 + 4)
      clear G3 Z3 G1
      go_wp2
      have RES : Hid (∃ (ys2 : List StructX) (cur2 : Array Value), Below w.heap.size w (put w3 g (o + k * 5) y.row) ∧ ys2.length = k + 1 ∧ ys2.map StructX.d = (xs.take (k + 1)).map StructX.d ∧ (put w3 g (o + k * 5) y.row).heap[g]? = some (.cells cur2 58 (0, 0)) ∧ cur2.size = c' * 5 ∧ (∀ (j : Nat) (r : List Value) (i : Nat) (v : Value), ((ys2 ++ xs.drop (k + 1)).map StructX.row)[j]? = some r → r[i]? = some v → cur2[o + j * 5 + i]? = some v) ∧ ∀ z ∈ ys2, z.At (put w3 g (o + k * 5) y.row) ∧ z.New (g + 1)) := hidIt (by
       have hkx : k < xs.length := by rw [hn.out]; exact hlt
       have hgw : g < wr.heap.size := (Array.getElem?_eq_some_iff.1 HG.out).1
       have hK : Kps (g + 1) w3 (put w3 g (o + k * 5) y.row) := ⟨by rw [put_size]; exact Nat.le_refl _, fun b h1 _ => put_other _ _ _ (by omega)⟩
       obtain ⟨cur2, h1, h2⟩ := put_rows (o := o) (K := 5) (rows := (ys ++ xs.drop k).map StructX.row) HG3.out (fun r hr => by obtain ⟨z, _, rfl⟩ := List.mem_map.1 hr; rfl) FF.out (k := k) (by rw [List.length_map, List.length_append, List.length_drop, HYL.out]; omega) (r := y.row) rfl
       have hs2 : cur2.size = c' * 5 := by
        obtain ⟨cur3, h3, h4, _⟩ := put_block (ty := 58) (fr := (0, 0)) y.row (o + k * 5) w3 _ HG3.out
        rw [h1] at h3
        cases h3
        rw [h4, HSZ.out]
       refine ⟨ys ++ [y], cur2, put_below _ _ hb3.out HB.out, by rw [List.length_append, HYL.out]; rfl, ?_, h1, hs2, fun j r i v hj hi => h2 j r i v ?_ hi, fun z hz => ?_⟩
       · rw [List.map_append, HYD.out, List.take_add_one, HX.out, List.map_append]
         show _ ++ [y.d] = _ ++ [x.d]
         rw [Y1.out.1]
       · rw [← List.map_set, ← set_drop HYL.out hkx]; exact hj
       · rcases List.mem_append.1 hz with hz | hz
         · have := HYA.out z hz
           exact ⟨(this.1.on hbw3.out).keep this.2 hK, this.2⟩
         · cases List.mem_singleton.1 hz
           have hny : y.New (g + 1) := Y1.out.2.2.mono (by rw [HS.out, EB.out]; omega)
           exact ⟨Y1.out.2.1.keep hny hK, hny⟩)
      go_roundg (n - (k + 1))
      case measure => omega
      case rel => exact ⟨k + 1, by omega, by omega, by go_num, RES⟩
    · have : k = n := by omega
      subst this
      clear F0 HH HQ HM
      go_wp2
      go_ret
      obtain ⟨ys, cur, hb0, hyl, hyd, hg0, hsz, F, hya⟩ := R.out
      have hxl : xs.length = k := hn.out
      rw [List.drop_eq_nil_of_le (by omega), List.append_nil] at F
      rw [List.take_of_length_le (by omega)] at hyd
      refine ⟨some ⟨g, o, none⟩, c', ys, rfl, hyl, hyd, ⟨⟨fun r hr => by obtain ⟨z, _, rfl⟩ := List.mem_map.1 hr; rfl, by rw [List.length_map, hyl]; exact n1, .inr ⟨g, o, rfl, (Array.getElem?_eq_some_iff.1 hg0).1, fun j r i v hj hi => by rw [cell_at hg0]; exact F j r i v hj hi⟩⟩, fun y hy => (hya y hy).1⟩, ⟨.inr ⟨g, o, rfl, HB.out⟩, fun y hy => (hya y hy).2.mono (by have := HB.out; omega)⟩, ⟨g + 1, .inr ⟨g, cur, by rw [HO.out], HB.out, Nat.lt_succ_self _, hg0, HCS.out.2.1, HCS.out.2.2, hsz⟩, fun y hy => (hya y hy).2, (Array.getElem?_eq_some_iff.1 hg0).1, Nat.le_succ_of_le HB.out⟩, hb0⟩

set_option maxHeartbeats 2000000 in
set_option maxRecDepth 100000 in
theorem clone_func2 (a : Option Addr) (rows : List (List Value)) (c : Nat) (w : World) (h : Sl w 6 a rows) (h1 : ∀ u ∈ rows.flatten, u.oneCell' = true) :
 Calls Tryz.prog 112 #[.slice a rows.length c] w fun e w' => ∃ a' c', e = .returned (.slice a' rows.length c') ∧ rows.length ≤ c' ∧ Own w' w.heap.size 45 6 a' rows ∧ RoomA w' w.heap.size 45 6 a' rows.length c' ∧ Below w.heap.size w w' := by
 have q22 : ∀ (w : World) (a : Option Addr) (n c n' c' : Nat), (binOp .eql 34 (.slice a n c) (.slice none n' c')).run Tryz.prog w = .ok (.bool a.isNone) w := fun w a n c n' c' => Lib.run_eql_slice_nil w _ _ a n c n' c' Tryz.underlying34
 have hbig := h.big
 have hlen := hidIt h.len
 obtain ⟨i0, hi, hz0, hz1, hz2⟩ : ∃ i0, Tryz.prog.info? 45 = some i0 ∧ i0.zero = some (.agg #[.int .i64 0, .string ⟨#[]⟩, .slice none 0 0, .slice none 0 0, .string ⟨#[]⟩, .slice none 0 0]) ∧ i0.size = 6 ∧ i0.bytes ≤ 1000 := by
  have := cinfo_func
  cases hh : Tryz.prog.info? 45 with
  | none => rw [hh] at this; cases this
  | some i => rw [hh] at this; simp only [Option.map_some, Option.some.injEq, Prod.mk.injEq, decide_eq_true_eq] at this; exact ⟨i, rfl, this.1, this.2.1, this.2.2⟩
 cases a with
 | none =>
  have e0 : rows = [] := by
   rcases h.at_ with h0 | ⟨b, off, e, _⟩
   · exact h0
   · cases e
  subst e0
  clear h h1
  go_enter Tryz.func112, Tryz.ntmps112
  go_wp2
  go_ret
  exact ⟨none, 0, rfl, Nat.le_refl _, ⟨hlen.out, hbig, .inl rfl⟩, .inl ⟨rfl, rfl, rfl⟩, Below.refl _ _⟩
 | some p =>
  have A : Hid (∀ j u, rows.flatten[j]? = some u → w.cell? (p.add j) = some u) := hidIt fun j u hj => by
   rcases h.at_ with h0 | ⟨b, off, e, hlt, hc⟩
   · rw [h0] at hj; simp at hj
   · cases e
     obtain ⟨j1, r, i, hj1, hi1, e1⟩ := flat_of h.len hj
     rw [Addr.add_lit, e1, ← Nat.add_assoc]
     exact hc j1 r i u hj1 hi1
  have L := hidIt (flat_len h.len)
  have H1 := hidIt h1
  clear h h1
  obtain ⟨n, hn⟩ : ∃ n, rows.length = n := ⟨_, rfl⟩
  rw [hn] at hbig L
  rw [hn]
  have hb2 : n * i0.bytes ≤ 140737488355328 := Nat.le_trans (Nat.mul_le_mul hbig hz2) (by decide)
  have hn := hidIt hn
  go_enter Tryz.func112, Tryz.ntmps112
  go_wp2_with (at_builtin; refine wpList_append_own _ rfl _ _ 34 rfl w.heap.size 45 i0 _ 6 i0.bytes Tryz.underlying34 hi hz0 hz1 rfl rfl (by decide) _ _ _ rfl (World.ownsRow_made w #[] 0 (Nat.le_refl _) (Nat.zero_le _) (by simp)) p n c rows.flatten rfl ?qc1 ?qc2 ?qc3 ?qc4 ?qc5 ?qc6 ?_)
  case qc1 => exact L.out
  case qc2 =>
   intro j u hj
   exact Lib.cell?_alloc_some _ (A.out j u hj)
  case qc3 => exact H1.out
  case qc4 => rw [Nat.zero_add]; unfold maxLen; omega
  case qc5 => rw [Nat.zero_add]; exact hb2
  case qc6 => simp
  intro v' w1 hown hgrow hnil
  go_wp2
  go_ret
  obtain ⟨a', c', e1, l1, o1⟩ := Own.of (w := w1) (B := w.heap.size) (ty := 45) (k := 6) (v := v') (rows := rows) hlen.out (by rw [hn.out]; exact hbig) (by rw [hn.out]; simpa using hown)
  rw [hn.out] at e1 l1
  exact ⟨a', c', by rw [e1]; rfl, l1, o1, room_of (m := n) (xs := rows.flatten) (by rw [← e1]; simpa using hown), ((Below.refl _ w).alloc (Nat.le_refl _) _).grown hgrow (by simp) (by intro k hk; simp [Value.ownBlock] at hk; omega)⟩

set_option maxHeartbeats 2000000 in
set_option maxRecDepth 100000 in
theorem anew_func2 (a : Option Addr) (xs : List FuncX) (c : Nat) (w : World) (hx : Fns w a xs)
 (hm : ∀ (W : World) (x : FuncX), x ∈ xs → Below w.heap.size w W → Calls Tryz.prog 72 #[.agg #[.int .i64 x.at_, .string x.name, .slice x.pa x.params.length x.pc, .slice x.la x.locals.length x.lc, .string x.result, .slice x.ba x.blocks.length x.bc]] W fun e w' => ∃ y : FuncX, e = .returned (.agg #[.int .i64 y.at_, .string y.name, .slice y.pa y.params.length y.pc, .slice y.la y.locals.length y.lc, .string y.result, .slice y.ba y.blocks.length y.bc]) ∧ y.d = x.d ∧ y.At w' ∧ y.New W.heap.size ∧ Below W.heap.size W w') :
 Calls Tryz.prog 71 #[.slice a xs.length c, .func (.func 72) #[] #[]] w fun e w' => ∃ a' c' ys, e = .returned (.slice a' xs.length c') ∧ ys.length = xs.length ∧ ys.map FuncX.d = xs.map FuncX.d ∧ Fns w' a' ys ∧ (NewA w.heap.size a' ys.length ∧ ∀ y ∈ ys, y.New w.heap.size) ∧ RMs w.heap.size w' 45 6 a' xs.length c' (fun L => ∀ y ∈ ys, y.New L) ∧ Below w.heap.size w w' := by
 have n1 := hx.1.big
 rw [List.length_map] at n1
 have c1 : Hid (Calls Tryz.prog 112 #[.slice a xs.length c] w fun e w' => ∃ a' c', e = .returned (.slice a' xs.length c') ∧ xs.length ≤ c' ∧ Own w' w.heap.size 45 6 a' (xs.map FuncX.row) ∧ RoomA w' w.heap.size 45 6 a' xs.length c' ∧ Below w.heap.size w w') := hidIt (by
  have := clone_func2 a (xs.map FuncX.row) c w hx.1 (by intro u hu; obtain ⟨r, hr, hu⟩ := List.mem_flatten.1 hu; obtain ⟨x, _, rfl⟩ := List.mem_map.1 hr; simp only [FuncX.row, List.mem_cons, List.not_mem_nil, or_false] at hu; rcases hu with rfl | rfl | rfl | rfl | rfl | rfl <;> rfl)
  rwa [List.length_map] at this)
 have HM := hidIt hm
 clear hm hx
 obtain ⟨n, hn0⟩ : ∃ n, xs.length = n := ⟨_, rfl⟩
 rw [hn0] at n1 c1
 rw [hn0]
 have hn := hidIt hn0
 clear hn0
 go_enter Tryz.func71, Tryz.ntmps71
 go_wp2_with (go_at_call 112; refine c1.out.mono ?_)
 rintro e w1 ⟨a', c', rfl, hc', o1, hroom, hq⟩
 have HROOM := hidIt hroom
 clear hroom
 rcases o1.at_ with h0 | ⟨g, cur0, rfl, hB, hh, hcc⟩
 · have e0 : xs = [] := List.map_eq_nil_iff.1 h0
   obtain rfl : 0 = n := by rw [← hn.out, e0]; rfl
   have hq := hidIt hq
   clear o1 c1 HM
   go_wp2
   go_loopg [6, 7, 12] 0 (fun gg _ _ s12 wr => s12 = .int .i64 0 ∧ wr = w1)
   case atStart => exact ⟨rfl, rfl⟩
   case round =>
    obtain ⟨rfl, rfl⟩ := hrel
    go_wp2
    go_ret
    exact ⟨a', c', [], rfl, rfl, by rw [e0], ⟨Sl.nil, fun y hy => by simp at hy⟩, ⟨.inl rfl, fun y hy => by simp at hy⟩, ⟨_, roomB_of HROOM.out, fun y hy => by simp at hy, Nat.le_refl _, hq.out.size⟩, hq.out⟩
 · have HCS : Hid (cur0.size = c' * 6 ∧ n ≤ c' ∧ c' ≤ maxLen) := hidIt (by
    rcases HROOM.out with ⟨_, e, _⟩ | ⟨g2, cur2, e, _, hh2, h1, h2, h3⟩
    · cases e
    · cases e
      rw [hh] at hh2
      cases hh2
      exact ⟨h3, h1, h2⟩)
   obtain ⟨o, ho⟩ : ∃ o, o = 0 := ⟨0, rfl⟩
   rw [← ho]
   have F0 : Hid (∀ (j : Nat) (r : List Value) (i : Nat) (v : Value), (xs.map FuncX.row)[j]? = some r → r[i]? = some v → cur0[o + j * 6 + i]? = some v) := hidIt fun j r i v hj hi => by rw [ho, Nat.zero_add]; exact hcc j r i v hj hi
   have HH := hidIt hh
   have HQ := hidIt hq
   have HB := hidIt hB
   have LEN := hidIt o1.len
   have HO := hidIt ho
   clear o1 c1 hh hq hB hcc ho
   go_wp2
   go_loopg [6, 7, 12] n (fun gg _ _ s12 wr => ∃ k : Nat, k ≤ n ∧ n - k ≤ gg ∧ s12 = .int .i64 k ∧ Hid (∃ (ys : List FuncX) (cur : Array Value), Below w.heap.size w wr ∧ ys.length = k ∧ ys.map FuncX.d = (xs.take k).map FuncX.d ∧ wr.heap[g]? = some (.cells cur 45 (0, 0)) ∧ cur.size = c' * 6 ∧ (∀ (j : Nat) (r : List Value) (i : Nat) (v : Value), ((ys ++ xs.drop k).map FuncX.row)[j]? = some r → r[i]? = some v → cur[o + j * 6 + i]? = some v) ∧ ∀ y ∈ ys, y.At wr ∧ y.New (g + 1)))
   case atStart => exact ⟨0, Nat.zero_le _, by omega, rfl, hidIt ⟨[], cur0, HQ.out, rfl, rfl, HH.out, HCS.out.1, F0.out, fun y hy => by simp at hy⟩⟩
   case round =>
    obtain ⟨k, hk, hg, rfl, R⟩ := hrel
    by_cases hlt : k < n
    · obtain ⟨ys, cur, hb0, hyl, hyd, hg0, hsz, F, hya⟩ := R.out
      clear R F0 HH HQ
      obtain ⟨x, hx⟩ : ∃ x, xs[k]? = some x := ⟨_, List.getElem?_eq_getElem (by rw [hn.out]; exact hlt)⟩
      have hb := hidIt hb0
      have HG := hidIt hg0
      have HSZ := hidIt hsz
      clear hsz
      have FF := hidIt F
      have HYL := hidIt hyl
      have HYD := hidIt hyd
      have HYA := hidIt hya
      have HX := hidIt hx
      have hrow : ((ys ++ xs.drop k).map FuncX.row)[k]? = some x.row := by
       rw [List.getElem?_map, List.getElem?_append_right (by omega), hyl, Nat.sub_self, List.getElem?_drop, Nat.add_zero, hx]; rfl
      have g1 : ∀ (i : Nat) (v : Value), x.row[i]? = some v → wr.cell? ⟨g, o + k * 6 + i, none⟩ = some v := fun i v hv => by rw [cell_at hg0]; exact F k x.row i v hrow hv
      have G1 := hidIt g1
      have p0 := g1 0 _ rfl
      have p1 := g1 1 _ rfl
      have p2 := g1 2 _ rfl
      have p3 := g1 3 _ rfl
      have p4 := g1 4 _ rfl
      have p5 := g1 5 _ rfl
      rw [Nat.add_zero] at p0
      clear g1 hrow hx hb0 hg0 F hyl hyd hya
      go_upto_region 5 with fail
      have hb1 := hidIt (below_next hb.out (below_new wr (.cells #[.int .i64 x.at_, .string x.name, .slice x.pa x.params.length x.pc, .slice x.la x.locals.length x.lc, .string x.result, .slice x.ba x.blocks.length x.bc] 45)))
      have hbn := hidIt (below_new wr (.cells #[.int .i64 x.at_, .string x.name, .slice x.pa x.params.length x.pc, .slice x.la x.locals.length x.lc, .string x.result, .slice x.ba x.blocks.length x.bc] 45))
      have hh1 := heap_alloc_new wr (.cells #[.int .i64 x.at_, .string x.name, .slice x.pa x.params.length x.pc, .slice x.la x.locals.length x.lc, .string x.result, .slice x.ba x.blocks.length x.bc] 45)
      clear p0 p1 p2 p3 p4 p5
      have HS : Hid ((wr.alloc (.cells #[.int .i64 x.at_, .string x.name, .slice x.pa x.params.length x.pc, .slice x.la x.locals.length x.lc, .string x.result, .slice x.ba x.blocks.length x.bc] 45)).heap.size = wr.heap.size + 1) := hidIt (World.size_alloc _ _)
      obtain ⟨B1, eB⟩ : ∃ B1, B1 = wr.heap.size := ⟨_, rfl⟩
      rw [← eB] at hh1 HS ⊢
      have EB := hidIt eB
      clear eB
      generalize wr.alloc (.cells #[.int .i64 x.at_, .string x.name, .slice x.pa x.params.length x.pc, .slice x.la x.locals.length x.lc, .string x.result, .slice x.ba x.blocks.length x.bc] 45) = w2 at hb1 hbn hh1 HS ⊢
      have hh1 := hidIt hh1
      obtain ⟨q0, q1, q2, q3, q4, q5⟩ := cells_6 hh1.out
      go_wp2_with (go_at_call 72; refine (HM.out _ x (List.mem_of_getElem? HX.out) hb1.out).mono ?_)
      rintro e w3 ⟨y, rfl, hyd1, hya1, hyn1, hq3⟩
      clear q0 q1 q2 q3 q4 q5
      have hbw3 := hidIt (below_next hbn.out hq3)
      have hb3 := hidIt (below_next hb.out hbw3.out)
      have HG3 := hidIt (heap_on HG.out hbw3.out)
      have Y1 := hidIt (And.intro hyd1 (And.intro hya1 hyn1))
      clear hyd1 hya1 hyn1 hq3
      have G3 : ∀ (i : Nat) (v : Value), x.row[i]? = some v → w3.cell? ⟨g, o + k * 6 + i, none⟩ = some v := fun i v hv => by
       rw [World.cell?_of_block (w := wr) ((HG3.out).trans HG.out.symm)]; exact G1.out i v hv
      have Z3 : ∀ i : Nat, w3.frozen? ⟨g, i, none⟩ = false := fun i => frozen_at HG3.out i
      have p0 := G3 0 _ rfl
      have p1 := G3 1 _ rfl
      have p2 := G3 2 _ rfl
      have p3 := G3 3 _ rfl
      have p4 := G3 4 _ rfl
      have p5 := G3 5 _ rfl
      rw [Nat.add_zero] at p0
      have z0 := Z3 (o + k * 6)
      have z1 := Z3 (o + k * 6 + 1)
      have z2 := Z3 (o + k * 6 + 2)
      have z3 := Z3 (o + k * 6 + 3)
      have z4 := Z3 (o + k * 6 + 4)
      have z5 := Z3 (o + k * 6 + 5)
      clear G3 Z3 G1
      go_wp2
      have RES : Hid (∃ (ys2 : List FuncX) (cur2 : Array Value), Below w.heap.size w (put w3 g (o + k * 6) y.row) ∧ ys2.length = k + 1 ∧ ys2.map FuncX.d = (xs.take (k + 1)).map FuncX.d ∧ (put w3 g (o + k * 6) y.row).heap[g]? = some (.cells cur2 45 (0, 0)) ∧ cur2.size = c' * 6 ∧ (∀ (j : Nat) (r : List Value) (i : Nat) (v : Value), ((ys2 ++ xs.drop (k + 1)).map FuncX.row)[j]? = some r → r[i]? = some v → cur2[o + j * 6 + i]? = some v) ∧ ∀ z ∈ ys2, z.At (put w3 g (o + k * 6) y.row) ∧ z.New (g + 1)) := hidIt (by
       have hkx : k < xs.length := by rw [hn.out]; exact hlt
       have hgw : g < wr.heap.size := (Array.getElem?_eq_some_iff.1 HG.out).1
       have hK : Kps (g + 1) w3 (put w3 g (o + k * 6) y.row) := ⟨by rw [put_size]; exact Nat.le_refl _, fun b h1 _ => put_other _ _ _ (by omega)⟩
       obtain ⟨cur2, h1, h2⟩ := put_rows (o := o) (K := 6) (rows := (ys ++ xs.drop k).map FuncX.row) HG3.out (fun r hr => by obtain ⟨z, _, rfl⟩ := List.mem_map.1 hr; rfl) FF.out (k := k) (by rw [List.length_map, List.length_append, List.length_drop, HYL.out]; omega) (r := y.row) rfl
       have hs2 : cur2.size = c' * 6 := by
        obtain ⟨cur3, h3, h4, _⟩ := put_block (ty := 45) (fr := (0, 0)) y.row (o + k * 6) w3 _ HG3.out
        rw [h1] at h3
        cases h3
        rw [h4, HSZ.out]
       refine ⟨ys ++ [y], cur2, put_below _ _ hb3.out HB.out, by rw [List.length_append, HYL.out]; rfl, ?_, h1, hs2, fun j r i v hj hi => h2 j r i v ?_ hi, fun z hz => ?_⟩
       · rw [List.map_append, HYD.out, List.take_add_one, HX.out, List.map_append]
         show _ ++ [y.d] = _ ++ [x.d]
         rw [Y1.out.1]
       · rw [← List.map_set, ← set_drop HYL.out hkx]; exact hj
       · rcases List.mem_append.1 hz with hz | hz
         · have := HYA.out z hz
           exact ⟨(this.1.on hbw3.out).keep this.2 hK, this.2⟩
         · cases List.mem_singleton.1 hz
           have hny : y.New (g + 1) := Y1.out.2.2.mono (by rw [HS.out, EB.out]; omega)
           exact ⟨Y1.out.2.1.keep hny hK, hny⟩)
      go_roundg (n - (k + 1))
      case measure => omega
      case rel => exact ⟨k + 1, by omega, by omega, by go_num, RES⟩
    · have : k = n := by omega
      subst this
      clear F0 HH HQ HM
      go_wp2
      go_ret
      obtain ⟨ys, cur, hb0, hyl, hyd, hg0, hsz, F, hya⟩ := R.out
      have hxl : xs.length = k := hn.out
      rw [List.drop_eq_nil_of_le (by omega), List.append_nil] at F
      rw [List.take_of_length_le (by omega)] at hyd
      refine ⟨some ⟨g, o, none⟩, c', ys, rfl, hyl, hyd, ⟨⟨fun r hr => by obtain ⟨z, _, rfl⟩ := List.mem_map.1 hr; rfl, by rw [List.length_map, hyl]; exact n1, .inr ⟨g, o, rfl, (Array.getElem?_eq_some_iff.1 hg0).1, fun j r i v hj hi => by rw [cell_at hg0]; exact F j r i v hj hi⟩⟩, fun y hy => (hya y hy).1⟩, ⟨.inr ⟨g, o, rfl, HB.out⟩, fun y hy => (hya y hy).2.mono (by have := HB.out; omega)⟩, ⟨g + 1, .inr ⟨g, cur, by rw [HO.out], HB.out, Nat.lt_succ_self _, hg0, HCS.out.2.1, HCS.out.2.2, hsz⟩, fun y hy => (hya y hy).2, (Array.getElem?_eq_some_iff.1 hg0).1, Nat.le_succ_of_le HB.out⟩, hb0⟩

set_option maxHeartbeats 2000000 in
set_option maxRecDepth 100000 in
theorem cloneprog_room (x : ProgX) (w : World) (hx : x.At w) :
 Calls Tryz.prog 24 #[.agg #[.slice x.sa x.structs.length x.sc, .slice x.ea x.enums.length x.ec, .slice x.fa x.funcs.length x.fc]] w fun e w' => ∃ y : ProgX, e = .returned (.agg #[.slice y.sa y.structs.length y.sc, .slice y.ea y.enums.length y.ec, .slice y.fa y.funcs.length y.fc]) ∧ y.d = x.d ∧ y.At w' ∧ CloneOf w w' y ∧ Below w.heap.size w w' := by
 have c0c : Hid (∀ W, Below w.heap.size w W → Calls Tryz.prog 66 #[.slice x.sa x.structs.length x.sc, .func (.func 67) #[] #[]] W fun e w' => ∃ a' c' ys, e = .returned (.slice a' x.structs.length c') ∧ ys.length = x.structs.length ∧ ys.map StructX.d = x.structs.map StructX.d ∧ ((Strs w' a' ys ∧ RMs W.heap.size w' 58 5 a' x.structs.length c' (fun L => ∀ y ∈ ys, y.New L)) ∧ (NewA W.heap.size a' ys.length ∧ ∀ y ∈ ys, y.New W.heap.size)) ∧ Below W.heap.size W w') := hidIt fun W hW => (anew_struct2 _ _ _ W (hx.1.on hW) fun W2 p hp hW2 => (clone_u p W2 ((StructX.At.on (hx.1.2 p hp) hW).on hW2)).mono fun e w1 ⟨y, h1, h2, h3, h4⟩ => ⟨y, h1, h2, h3.1, h3.2, h4⟩).mono fun e w1 ⟨a, c, ys, h1, h2, h3, h4, h5, h7, h6⟩ => ⟨a, c, ys, h1, h2, h3, ⟨⟨h4, h7⟩, h5⟩, h6⟩
 have c1c : Hid (∀ W, Below w.heap.size w W → Calls Tryz.prog 69 #[.slice x.ea x.enums.length x.ec, .func (.func 70) #[] #[]] W fun e w' => ∃ a' c' ys, e = .returned (.slice a' x.enums.length c') ∧ ys.length = x.enums.length ∧ ys.map EnumX.d = x.enums.map EnumX.d ∧ (Ens w' a' ys ∧ (NewA W.heap.size a' ys.length ∧ ∀ y ∈ ys, y.New W.heap.size)) ∧ Below W.heap.size W w') := hidIt fun W hW => (anew_enum _ _ _ W (hx.2.1.on hW) fun W2 p hp hW2 => (clone_e p W2 ((EnumX.At.on (hx.2.1.2 p hp) hW).on hW2)).mono fun e w1 ⟨y, h1, h2, h3, h4⟩ => ⟨y, h1, h2, h3.1, h3.2, h4⟩).mono fun e w1 ⟨a, c, ys, h1, h2, h3, h4, h5, h6⟩ => ⟨a, c, ys, h1, h2, h3, ⟨h4, h5⟩, h6⟩
 have c2c : Hid (∀ W, Below w.heap.size w W → Calls Tryz.prog 71 #[.slice x.fa x.funcs.length x.fc, .func (.func 72) #[] #[]] W fun e w' => ∃ a' c' ys, e = .returned (.slice a' x.funcs.length c') ∧ ys.length = x.funcs.length ∧ ys.map FuncX.d = x.funcs.map FuncX.d ∧ ((Fns w' a' ys ∧ RMs W.heap.size w' 45 6 a' x.funcs.length c' (fun L => ∀ y ∈ ys, y.New L)) ∧ (NewA W.heap.size a' ys.length ∧ ∀ y ∈ ys, y.New W.heap.size)) ∧ Below W.heap.size W w') := hidIt fun W hW => (anew_func2 _ _ _ W (hx.2.2.on hW) fun W2 p hp hW2 => (clone_f p W2 ((FuncX.At.on (hx.2.2.2 p hp) hW).on hW2)).mono fun e w1 ⟨y, h1, h2, h3, h4⟩ => ⟨y, h1, h2, h3.1, h3.2, h4⟩).mono fun e w1 ⟨a, c, ys, h1, h2, h3, h4, h5, h7, h6⟩ => ⟨a, c, ys, h1, h2, h3, ⟨⟨h4, h7⟩, h5⟩, h6⟩
 clear hx
 have hb := hidIt (below_next (below_new w (.cells #[.slice x.sa x.structs.length x.sc, .slice x.ea x.enums.length x.ec, .slice x.fa x.funcs.length x.fc] 36)) (below_new _ (.cells #[.slice none 0 0, .slice none 0 0, .slice none 0 0] 36)))
 obtain ⟨hh1, hh2⟩ := two_at (w := w) (cs := #[.slice x.sa x.structs.length x.sc, .slice x.ea x.enums.length x.ec, .slice x.fa x.funcs.length x.fc]) (ds := #[.slice none 0 0, .slice none 0 0, .slice none 0 0]) (t := 36) (u := 36) rfl rfl (Below.refl _ _)
 have H1 := hidIt hh1
 have H2 := hidIt hh2
 clear hh1 hh2
 go_enter Tryz.func24, Tryz.ntmps24
 go_wp2_with fail
 generalize ((w.alloc (.cells #[.slice x.sa x.structs.length x.sc, .slice x.ea x.enums.length x.ec, .slice x.fa x.funcs.length x.fc] 36)).alloc (.cells #[.slice none 0 0, .slice none 0 0, .slice none 0 0] 36)) = W0 at hb H1 H2 ⊢
 have SZ : Hid (w.heap.size + 2 ≤ W0.heap.size) := hidIt (lt_of_block H2.out)
 have hso : Hid (∀ W, Below W0.heap.size W0 W → W.cell? ⟨w.heap.size, 0, none⟩ = some (.slice x.sa x.structs.length x.sc) ∧ W.cell? ⟨w.heap.size, 1, none⟩ = some (.slice x.ea x.enums.length x.ec) ∧ W.cell? ⟨w.heap.size, 2, none⟩ = some (.slice x.fa x.funcs.length x.fc)) := hidIt fun W hW => ⟨cell_at (heap_on H1.out hW) 0, cell_at (heap_on H1.out hW) 1, cell_at (heap_on H1.out hW) 2⟩
 have sw := hso.out W0 (Below.refl _ _)
 have HD0 : Hid (Below W0.heap.size W0 W0.drew) := hidIt (Below.refl _ _).drew
 go_region_held3 (fun W => W.cell? ⟨w.heap.size, 0, none⟩ = some (.slice x.sa x.structs.length x.sc) ∧ W.cell? ⟨w.heap.size, 1, none⟩ = some (.slice x.ea x.enums.length x.ec) ∧ W.cell? ⟨w.heap.size, 2, none⟩ = some (.slice x.fa x.funcs.length x.fc)) (go_keep)
  (first
  | (go_at_call 66; refine (c0c.out _ (below_next hb.out HD0.out)).mono ?_; rintro e w1 ⟨a0, c0, ys0, rfl, l0, d0, ⟨⟨s0, rm0⟩, n0⟩, hq⟩; have RM0 := hidIt rm0; clear rm0; have hb1 := hidIt (below_next HD0.out hq); have s1 := hso.out _ hb1.out; have K0 : Hid (ys0.length = x.structs.length ∧ ys0.map StructX.d = x.structs.map StructX.d ∧ Strs w1 a0 ys0 ∧ (NewA (w.heap.size + 2) a0 ys0.length ∧ ∀ y ∈ ys0, y.New (w.heap.size + 2))) := hidIt ⟨l0, d0, s0, n0.1.mono (Nat.le_trans SZ.out HD0.out.size), fun y hy => (n0.2 y hy).mono (Nat.le_trans SZ.out HD0.out.size)⟩; clear l0 d0 s0 n0 hq)
  | (go_at_call 69; refine (c1c.out _ (below_next hb.out hb1.out)).mono ?_; rintro e w2 ⟨a1, c1, ys1, rfl, l1, d1, ⟨s2, n1⟩, hq⟩; have N1 := hidIt n1; have M1 := hidIt hq.size; have B12 := hidIt hq; have hb2 := hidIt (below_next hb1.out hq); have s2' := hso.out _ hb2.out; have K1 : Hid (Strs w2 a0 ys0 ∧ ys1.length = x.enums.length ∧ ys1.map EnumX.d = x.enums.map EnumX.d ∧ Ens w2 a1 ys1 ∧ (NewA (w.heap.size + 2) a1 ys1.length ∧ ∀ y ∈ ys1, y.New (w.heap.size + 2))) := hidIt ⟨K0.out.2.2.1.on hq, l1, d1, s2, n1.1.mono (Nat.le_trans SZ.out hb1.out.size), fun y hy => (n1.2 y hy).mono (Nat.le_trans SZ.out hb1.out.size)⟩; clear l1 d1 s2 n1 hq)
  | (go_at_call 71; refine (c2c.out _ (below_next hb.out hb2.out)).mono ?_; rintro e w3 ⟨a2, c2, ys2, rfl, l2, d2, ⟨⟨s3, rm2⟩, n2⟩, hq⟩; have RM2 := hidIt rm2; have N2 := hidIt n2; have B23 := hidIt hq; clear rm2; have hb3 := hidIt (below_next hb2.out hq); have s3' := hso.out _ hb3.out; have K2 : Hid (Strs w3 a0 ys0 ∧ Ens w3 a1 ys1 ∧ ys2.length = x.funcs.length ∧ ys2.map FuncX.d = x.funcs.map FuncX.d ∧ Fns w3 a2 ys2 ∧ (NewA (w.heap.size + 2) a2 ys2.length ∧ ∀ y ∈ ys2, y.New (w.heap.size + 2))) := hidIt ⟨K1.out.1.on hq, K1.out.2.2.2.1.on hq, l2, d2, s3, n2.1.mono (Nat.le_trans SZ.out hb2.out.size), fun y hy => (n2.2 y hy).mono (Nat.le_trans SZ.out hb2.out.size)⟩; have H5 := hidIt (heap_on H2.out hb3.out); clear l2 d2 s3 n2 hq; have r0 : w3.cell? ⟨w.heap.size + 1, 0, none⟩ = some (.slice none 0 0) := cell_at H5.out 0; have r1 : w3.cell? ⟨w.heap.size + 1, 1, none⟩ = some (.slice none 0 0) := cell_at H5.out 1; have r2 : w3.cell? ⟨w.heap.size + 1, 2, none⟩ = some (.slice none 0 0) := cell_at H5.out 2; have u0 : w3.frozen? ⟨w.heap.size + 1, 0, none⟩ = false := frozen_at H5.out 0; have u1 : w3.frozen? ⟨w.heap.size + 1, 1, none⟩ = false := frozen_at H5.out 1; have u2 : w3.frozen? ⟨w.heap.size + 1, 2, none⟩ = false := frozen_at H5.out 2))
 all_goals
  go_wp2
  (try simp only [Exit.inBlock, Exit.then])
  refine bodyPost_ret (show _ = Result.ok (.agg #[.slice a0 x.structs.length c0, .slice a1 x.enums.length c1, .slice a2 x.funcs.length c2]) _ by simp [results, Tryz.results24, go_sem, r0, r1, r2]) rfl ?_
  clear r0 r1 r2 u0 u1 u2 s1 s2' s3'
  have AN : ∀ W', Kps (w.heap.size + 2) w3 W' → (⟨a0, c0, ys0, a1, c1, ys1, a2, c2, ys2⟩ : ProgX).At W' := fun W' hK => ⟨keepU K2.out.1 K0.out.2.2.2 hK, keepE K2.out.2.1 K1.out.2.2.2.2 hK, keepF K2.out.2.2.2.2.1 K2.out.2.2.2.2.2 hK⟩
  have z0 : w.heap.size + 2 ≤ W0.drew.heap.size := Nat.le_trans SZ.out HD0.out.size
  have z2 : w.heap.size + 2 ≤ w2.heap.size := Nat.le_trans SZ.out hb2.out.size
  have fin : ∀ W', Kps (w.heap.size + 2) w3 W' → Below w.heap.size w W' → (⟨a0, c0, ys0, a1, c1, ys1, a2, c2, ys2⟩ : ProgX).At W' ∧ CloneOf w W' ⟨a0, c0, ys0, a1, c1, ys1, a2, c2, ys2⟩ ∧ Below w.heap.size w W' := fun W' hK hB => by
   obtain ⟨L0, r1, r2, r3, r4⟩ := RM0.out
   obtain ⟨L2, t1, t2, t3, t4⟩ := RM2.out
   have l2 : L0 ≤ w2.heap.size := Nat.le_trans r3 M1.out
   refine ⟨AN W' hK, ⟨⟨L0, ?_, r2, ⟨N1.out.1.mono r3, fun y hy => (N1.out.2 y hy).mono r3⟩, N2.out.1.mono l2, fun y hy => (N2.out.2 y hy).mono l2⟩, w2, L2, z2, t4, ?_, K1.out.1, K1.out.2.2.2.1, K0.out.2.2.2, K1.out.2.2.2.2, ?_, t2⟩, hB⟩
   · show RoomB W' (w.heap.size + 2) L0 58 5 a0 ys0.length c0
     rw [K0.out.1]
     exact (((r1.on B12.out).on B23.out).mono z0).keep hK
   · refine ⟨Nat.le_trans B23.out.size hK.size, fun b h1 h2 => ?_⟩
     rw [hK.block b h1 (Nat.lt_of_lt_of_le h2 B23.out.size)]
     exact B23.out.block b h2
   · show RoomB W' w2.heap.size L2 45 6 a2 ys2.length c2
     rw [K2.out.2.2.1]
     exact t1.keep ⟨hK.size, fun b h1 h2 => hK.block b (Nat.le_trans z2 h1) h2⟩
  refine ⟨⟨a0, c0, ys0, a1, c1, ys1, a2, c2, ys2⟩, ?_, by simp only [ProgX.d, K0.out.2.1, K1.out.2.2.1, K2.out.2.2.2.1], fin _ ?_ ?_⟩
  · simp [K0.out.1, K1.out.2.1, K2.out.2.2.1]
  · refine Kps.set (a := ⟨w.heap.size + 1, 2, none⟩) ?_ (show w.heap.size + 1 < w.heap.size + 2 by omega) _
    refine Kps.set (a := ⟨w.heap.size + 1, 1, none⟩) ?_ (show w.heap.size + 1 < w.heap.size + 2 by omega) _
    refine Kps.set (a := ⟨w.heap.size + 1, 0, none⟩) ?_ (show w.heap.size + 1 < w.heap.size + 2 by omega) _
    exact Kps.refl _ _
  · refine Below.setCell (p := ⟨w.heap.size + 1, 2, none⟩) ?_ (Nat.le_succ _) _
    refine Below.setCell (p := ⟨w.heap.size + 1, 1, none⟩) ?_ (Nat.le_succ _) _
    refine Below.setCell (p := ⟨w.heap.size + 1, 0, none⟩) ?_ (Nat.le_succ _) _
    exact below_next hb.out hb3.out

end Go.Proofs.YtlppbgmcoknliaaGreatDoor
