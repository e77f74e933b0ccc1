/-
  The walk of list: a set's numbers, as a slice.
-/
import Derived.Test.YtcaibfalhkhleaaDoorRef3
import Derived.Deep.AppendLies
namespace Go.Proofs.YtcaibfalhkhleaaDoor
set_option linter.unusedVariables false
open Go.RowKit Go.Shelf
attribute [local go_sem] Oper.semAt_some

theorem row_of_block {w w' : World} {base : Nat} {e : TypeId} {size : Nat} {v : Value} {n : Nat} {xs : List Value} (h : w.ownsRow base e size v n xs)
    (hb : ∀ k, v.ownBlock = some k → w'.heap[k]? = w.heap[k]?) : w'.ownsRow base e size v n xs := by
  refine ⟨h.1, ?_⟩
  rcases h.2 with hn | ⟨g, cap, cur, rfl, hb', hgg, rest⟩
  · exact .inl hn
  · exact .inr ⟨g, cap, cur, rfl, hb', by rw [hb g rfl]; exact hgg, rest⟩
theorem row_lt {w : World} {base : Nat} {e : TypeId} {size : Nat} {v : Value} {n : Nat} {xs : List Value} (h : w.ownsRow base e size v n xs) {k : Nat} (hk : v.ownBlock = some k) : k < w.heap.size ∧ base ≤ k ∧ ∃ cur, w.heap[k]? = some (.cells cur e (0, 0)) := by
  rcases h.2 with ⟨rfl, _⟩ | ⟨g, cap, cur, rfl, hb', hg, _⟩
  · simp [Value.ownBlock] at hk
  · simp [Value.ownBlock] at hk
    subst hk
    exact ⟨(Array.getElem?_eq_some_iff.1 hg).1, hb', cur, hg⟩

/-- The cells of numbers. -/
def ints (l : List Nat) : List Value := l.map fun (n : Nat) => Value.int .i64 (n : Int)
/-- What the loop of list keeps: in the box N lies a slice of the numbers that were told, whose row is none of the iterator's. -/
def LstI (Wx : World) (base N : Nat) (pre : List Nat) (G : Nat → Prop) (W : World) : Prop :=
  Own1 Wx (fun k => k = N ∨ k = base) G W ∧ (∀ k, G k → k < W.heap.size) ∧ ∃ v, Box W N 22 v ∧ W.ownsRow base 3 1 v pre.length (ints pre) ∧ (∀ k, v.ownBlock = some k → ¬ G k) ∧ ∀ k, v.ownBlock = some k → k = base ∨ Wx.heap.size ≤ k
theorem LstI.sep {Wx : World} {base N : Nat} (hN : N < Wx.heap.size) : Sep (LstI Wx base N) := by
  rintro s G G' W W' ⟨h1, h2, v, hB, hr, hv, hv2⟩ hk hG
  have hNG : ¬ G N := fun e => by have := h1.2 N e; omega
  refine ⟨h1.sep hk hG, fun k h => ?_, v, hB.kept hk hNG, row_of_block hr (fun k e => hk.block k (row_lt hr e).1 (hv k e)), fun k e h => ?_, hv2⟩
  · rcases hG k h with h | h
    · have := h2 k h
      have := hk.size
      omega
    · exact h.2
  · have := (row_lt hr e).1
    rcases hG k h with h | h
    · exact hv k e h
    · omega

/-- 'append' of a row that is read to a row that is owned, in a round: the new row is the old one's own, or new. -/
theorem wpListIn_append_fr {F : Fence} {n : Nat} {P : Program} (w : World) {ops : Array Oper} {rest : List Oper} {o : Oper} {a : Act} {Q : Exit → Act → World → Prop}
    (hgd : o.guard = none) (s x : Operand) (t : TypeId) (ho : o.op = Op.call { callee := Callee.builtin Builtin.append, args := #[s, x], argTypes := #[t, t] })
    (base : Nat) (e : TypeId) (i : TypeInfo) (z : Value) (size bytes : Nat) (ht : P.underlying t = some (.slice e)) (hi : P.info? e = some i) (hz : i.zero = some z) (hsize : i.size = size) (hby : i.bytes = bytes) (hzs : z.cells.size = size) (hsz : 0 < size)
    (v : Value) (k : Nat) (xs : List Value) (hs : a.eval s = v) (hown : w.ownsRow base e size v k xs) (ad : Addr) (m c : Nat) (news : List Value) (hx : a.eval x = .slice (some ad) m c) (hl : news.length = m * size)
    (hc : ∀ j u, news[j]? = some u → w.cell? (ad.add j) = some u) (h1 : ∀ u ∈ news, u.oneCell' = true) (h63 : k + m ≤ maxLen) (hbytes : (k + m) * bytes ≤ 140737488355328) (hbase : base ≤ w.heap.size)
    (h : ∀ v' w', w'.ownsRow base e size v' (k + m) (xs ++ news) → w.grownBy w' v.ownBlock → (v'.ownBlock = v.ownBlock ∨ ∀ j, v'.ownBlock = some j → w.heap.size ≤ j) → wpListIn F n P ops Q rest (a.put o.dst v') w') :
    wpListIn F n P ops Q (o :: rest) a w := by
  obtain ⟨v', w', hr, h2, h3, _, h5⟩ := run_append_own_at (P := P) w base t o.type e i z size bytes ht hi hz hsize hby hzs hsz v k xs hown ad m c news hl hc h1 h63 hbytes hbase
  have h6 : v'.ownBlock = v.ownBlock ∨ ∀ j, v'.ownBlock = some j → w.heap.size ≤ j := by
    rcases h5 with h5 | h5
    · exact .inl h5
    · right
      intro j hj
      rw [h5] at hj
      simp at hj
      omega
  refine wpListIn_plain hgd fun K hK' => ?_
  unfold Oper.wpIn
  refine ⟨by simp [Oper.about, ho, resolve, Target.leads, Sem.run_pure], ?_⟩
  rw [Oper.semAt_plain F _ _ (by rw [ho]; intro c hc'; cases hc')]
  simp [execOp, ho, resolve, invoke, builtin, hs, hx, hr, Result.andThen]
  exact hK' _ _ (h v' w' h2 h3 h6)

set_option maxRecDepth 100000 in
set_option maxHeartbeats 2000000 in
theorem list_in (n : Nat) (hn : Hid (3 ≤ n)) {w : World} {A g b : Nat} {p : Nat → Bool} (hS : SetAt w A g b p) (hT : Tab w) (hb1 : b ≤ 1000) :
    CallsIn Fence.wide n Tryd.prog 14 #[.pointer (some ⟨A, 0, none⟩)] w fun e w' => ∃ ao cap, e = .returned (.slice ao (nums b p).length cap) ∧ LAt w' ao ((nums b p).map fun (n : Nat) => (n : Int)) ∧ Kp (fun _ => False) w w' := by
  refine callsIn_of_wp_marks Tryd.func14 rfl trivial ?_ rfl
  simp only [Tryd.ntmps14, List.size_toArray, List.length_cons, List.length_nil, Nat.reduceAdd, Nat.reduceSub, Array.replicate_succ, Array.replicate_zero, List.push_toArray, List.append_toArray, List.nil_append, List.cons_append]
  have HT := hidIt hT
  have HS := hidIt hS
  clear hT hS
  gi_wp2_with fail
  refine at_wide ((all_any _ _).mono ?_)
  rintro e w' ⟨rfl, rfl⟩
  gi_wp2_with fail
  obtain ⟨Wx, hWx⟩ : ∃ Wx, ((w.alloc (.cells #[] 3)).alloc (.cells #[.slice (some ⟨w.heap.size, 0, none⟩) 0 0] 22)).alloc (.cells #[.pointer (some ⟨A, 0, none⟩)] 28) = Wx := ⟨_, rfl⟩
  rw [hWx]
  have hkx : Kp (fun _ => False) w Wx := by rw [← hWx]; exact (((Kp.refl _ w).alloc _).alloc _).alloc _
  have hzx : Wx.heap.size = w.heap.size + 3 := by rw [← hWx]; simp
  have hb3 : Box Wx (w.heap.size + 1) 22 (.slice (some ⟨w.heap.size, 0, none⟩) 0 0) := by
    rw [← hWx]
    have := heap_new (w.alloc (.cells #[] 3)) (.cells #[.slice (some ⟨w.heap.size, 0, none⟩) 0 0] 22)
    rw [World.size_alloc] at this
    exact (Below.heap_alloc _ _ _ (by rw [World.size_alloc, World.size_alloc]; omega)).trans this
  have hb4 : Box Wx (w.heap.size + 2) 28 (.pointer (some ⟨A, 0, none⟩)) := by
    rw [← hWx]
    have := heap_new ((w.alloc (.cells #[] 3)).alloc (.cells #[.slice (some ⟨w.heap.size, 0, none⟩) 0 0] 22)) (.cells #[.pointer (some ⟨A, 0, none⟩)] 28)
    rw [World.size_alloc, World.size_alloc] at this
    exact this
  have hr0 : Wx.ownsRow w.heap.size 3 1 (.slice (some ⟨w.heap.size, 0, none⟩) 0 0) 0 [] := by
    have h1 : (w.alloc (.cells #[] 3)).ownsRow w.heap.size 3 1 (.slice (some ⟨w.heap.size, 0, none⟩) 0 0) 0 [] := by
      have := World.ownsRow_made (base := w.heap.size) (e := 3) (size := 1) w #[] 0 (Nat.le_refl _) (by simp [maxLen]) (by simp)
      simpa using this
    rw [← hWx]
    exact (h1.alloc _).alloc _
  have hSx := HS.out.grown hkx
  have Hsq := hidIt (all1_seq (n - 1) (w.heap.size + 2) A g b p (by have := hn.out; omega) Wx hb4.cell hSx)
  have h1n : 1 ≤ n := by have := hn.out; omega
  have HTx : Hid (∀ W, Kp (fun k => k = w.heap.size + 1 ∨ k = w.heap.size) Wx W → Tab W ∧ Kp (fun _ => False) w W) := fun W k => by
    have hk2 : Kp (fun _ => False) w W := hkx.trans (k.mono fun i hi => .inr (by omega))
    exact ⟨HT.out.below (hk2.below (Nat.le_refl _) fun _ h => h.elim), hk2⟩
  have H0 : Hid (LstI Wx w.heap.size (w.heap.size + 1) [] (fun _ => False) Wx) := ⟨Own1.start _ _, fun _ h => h.elim, _, hb3, hr0, fun _ _ h => h, fun k e => .inl (by simp [Value.ownBlock] at e; exact e.symm)⟩
  clear hWx hkx hb3 hb4 hr0 hSx HS
  apply rangeG (n := n) h1n (gf := 44) (lb := #[.pointer (some ⟨w.heap.size + 2, 0, none⟩)]) rfl (enters_of Tryd.func44 (by kernel_rfl) rfl) Hsq.out (Below.refl _ _) (fun _ => rfl)
    (LstI Wx w.heap.size (w.heap.size + 1)) (fun _ _ _ _ => False)
    (LstI.sep (by omega)) (fun _ _ _ _ _ _ h _ _ => h) (fun s G W h => (HTx.out W h.1.1).1) H0.out
  case hassign =>
    intro l2 x2 W2 K2 hK2
    have HK2 := hidIt hK2
    clear hK2
    simp only [encN]
    gi_wp2
    exact HK2.out
  case hbody =>
    rintro l2 pre x2 G W2 ⟨hO, hGl, v, hB, hr, hv, hv2⟩ hpre
    have hlen : pre.length < 1000 := by
      have h1 := hpre.length_le
      have h2 := nums_le b p
      simp at h1
      omega
    have c3 := hB.cell
    have z3 := hB.frz
    have hN := hB.lt
    have HI := hidIt (And.intro hO (And.intro hGl (And.intro hB (And.intro hr (And.intro hv hv2)))))
    have hrow := hidIt hr
    have hz2 := hO.1.size
    clear hO hGl hB hr hv hv2 hpre h1n
    obtain ⟨i0, hi, hz0, hz1, hzz⟩ := info_parts Tryd.info3
    gi_wp2_with (gi_at_builtin; go_must (refine wpListIn_append_fr _ rfl _ _ 22 rfl w.heap.size 3 i0 _ 1 8 Tryd.underlying22 hi hz0 hz1 hzz rfl (by decide) _ _ _ rfl (hrow.out.alloc _) ⟨W2.heap.size, 0, none⟩ 1 1 [.int .i64 x2] rfl rfl (cell_one_new _ _ _) (by simp [Value.oneCell']) (by unfold maxLen; omega) (by omega) (by simp; omega) ?_))
    intro v' w1 ho hg hnil
    obtain ⟨g', cap', rfl⟩ := ownsRow_succ ho
    have hNv : ∀ k, v.ownBlock = some k → k ≠ w.heap.size + 1 := fun k e ek => by
      obtain ⟨_, _, cur, hc⟩ := row_lt hrow.out e
      have hb' : W2.heap[w.heap.size + 1]? = _ := HI.out.2.2.1
      rw [ek, hb'] at hc
      simp at hc
    have hkA : Kp (fun k => v.ownBlock = some k) W2 w1 := ⟨hg.os, hg.tape, hg.output, by have := hg.size; simp at this; omega, fun k hk hn => (hg.block k (by simp; omega) (fun e => hn e.symm)).trans (Below.heap_alloc W2 _ k hk)⟩
    have hB1 : Box w1 (w.heap.size + 1) 22 v := HI.out.2.2.1.kept hkA (fun e => hNv _ e rfl)
    have c3' := hB1.cell
    have z3' := hB1.frz
    have hg2 : v.ownBlock = some g' ∨ W2.heap.size ≤ g' := by
      rcases hnil with h | h
      · exact .inl h.symm
      · right
        have := h g' rfl
        omega
    have hg' : ¬ G g' := by
      intro e
      have h1 := HI.out.2.1 g' e
      rcases hg2 with h2 | h2
      · exact HI.out.2.2.2.2.1 g' h2 e
      · omega
    have HF : Hid (leftG G (LstI Wx w.heap.size (w.heap.size + 1)) (fun _ _ _ _ => False) (pre ++ [x2]) W2 .normal ⟨#[], []⟩ (w1.setCell ⟨w.heap.size + 1, 0, none⟩ (.slice (some ⟨g', 0, none⟩) (pre.length + 1) cap'))) := by
      have hkp : Kp (fun k => k = w.heap.size + 1 ∨ v.ownBlock = some k) W2 (w1.setCell ⟨w.heap.size + 1, 0, none⟩ (.slice (some ⟨g', 0, none⟩) (pre.length + 1) cap')) := (hkA.mono fun k e => .inr e).setCell (p := ⟨w.heap.size + 1, 0, none⟩) (.inl (.inl rfl)) _
      have hGN : ∀ k, G k → ¬ (k = w.heap.size + 1 ∨ v.ownBlock = some k) := fun k hG e => by
        rcases e with e | e
        · have := HI.out.1.2 k hG
          omega
        · exact HI.out.2.2.2.2.1 k e hG
      refine ⟨Kept.of_kp hkp hGN, ⟨?_, HI.out.1.2⟩, fun k hG => Nat.lt_of_lt_of_le (HI.out.2.1 k hG) hkp.size, _, hB1.set _, ?_, fun k e => ?_, fun k e => ?_⟩
      · have h1 := HI.out.1.1
        refine ⟨hkp.os.trans h1.os, hkp.tape.trans h1.tape, hkp.output.trans h1.output, Nat.le_trans h1.size hkp.size, fun k hk hn => ?_⟩
        refine (hkp.block k (by omega) (fun e => ?_)).trans (h1.block k hk hn)
        rcases e with e | e
        · exact hn (.inl e)
        · rcases HI.out.2.2.2.2.2 k e with e2 | e2
          · exact hn (.inr e2)
          · omega
      · have := row_of_block (w' := w1.setCell ⟨w.heap.size + 1, 0, none⟩ (.slice (some ⟨g', 0, none⟩) (pre.length + 1) cap')) ho (fun k e => Below.heap_setCell _ _ _ _ (fun e2 => by
          subst e2
          obtain ⟨_, _, cur, hc⟩ := row_lt ho e
          have hb' : w1.heap[w.heap.size + 1]? = _ := hB1
          rw [hb'] at hc
          simp at hc))
        simpa [ints] using this
      · simp [Value.ownBlock] at e
        subst e
        exact hg'
      · simp [Value.ownBlock] at e
        subst e
        rcases hg2 with h2 | h2
        · exact HI.out.2.2.2.2.2 _ h2
        · exact .inr (by omega)
    clear ho hg hnil hkA hB1 hNv hg' hg2 hrow hi hz0 hz1 hzz
    gi_wp2
    exact HF.out
  case hdone =>
    rintro D G W2 hD hGD ⟨hO, hGl, v, hB, hr, hv, hv2⟩ hDo
    obtain ⟨ao, cap, he2, hL⟩ := LAt.of_own hr
    subst he2
    have c3 := hB.cell
    have HF : Hid (∀ W', Kp (fun k => k ∈ [D]) W2 W' → LAt W' ao ((nums b p).map fun (n : Nat) => (n : Int)) ∧ Kp (fun _ => False) w W') := by
      intro W' hk'
      refine ⟨fun j z hj => ?_, ?_⟩
      · obtain ⟨b1, off, e, hc⟩ := hL j z hj
        refine ⟨b1, off, e, hk'.cell hc (fun h => ?_)⟩
        simp at h
        subst h
        simp [World.cell?, hDo] at hc
      · exact (HTx.out W2 hO.1).2.trans (hk'.mono fun i hi => .inr (by simp at hi; omega))
    have HDo := hidIt hDo
    clear hO hGl hB hr hv hv2 hL hDo
    gi_wp2
    refine leaves_marks [D] W2 (by simp) (by simp; exact HDo.out) fun W' hk' => ?_
    exact ⟨_, results_tmp rfl _ _ _, ao, cap, rfl, HF.out W' hk'⟩
  case hstop =>
    rintro D c pre G W2 hD hGD hpre h hDo
    exact h.elim

theorem list_any {w : World} {A g b : Nat} {p : Nat → Bool} (hS : SetAt w A g b p) (hT : Tab w) (hb1 : b ≤ 1000) :
    Calls Tryd.prog 14 #[.pointer (some ⟨A, 0, none⟩)] w fun e w' => ∃ ao cap, e = .returned (.slice ao (nums b p).length cap) ∧ LAt w' ao ((nums b p).map fun (n : Nat) => (n : Int)) ∧ Kp (fun _ => False) w w' :=
  callsIn_wide.1 (list_in 3 (show 3 ≤ 3 by omega) hS hT hb1)
end Go.Proofs.YtcaibfalhkhleaaDoor
