/-
  BitsOrder answers true, whatever it is given.
-/
import Derived.Test.YtcaibfalhkhleaaDoorLaws
namespace Go.Proofs.YtcaibfalhkhleaaDoor
set_option linter.unusedVariables false
open Go.RowKit Go.Shelf
attribute [local go_sem] Oper.semAt_some

/-- What stays in BitsOrder: the set, and the boxes of stop, of the answer and of s; all in blocks below m. -/
structure Od (w : World) (A g b : Nat) (S : Nat → Bool) (P7 : Nat) (stop : Int) (m : Nat) (W : World) : Prop where
  set : SetAt W A g b S
  bel : Below w.heap.size w W
  st : Box W w.heap.size 3 (.int .i64 stop)
  rs : Box W (w.heap.size + 1) 4 (.bool false)
  sp : Box W P7 28 (.pointer (some ⟨A, 0, none⟩))
  lt : A < m ∧ g < m ∧ w.heap.size + 1 < m ∧ P7 < m
theorem Od.old {w W W' : World} {A g b P7 m : Nat} {S : Nat → Bool} {stop : Int} {fp : Nat → Prop} (h : Od w A g b S P7 stop m W) (k : Kp fp W W') (hf : ∀ i, fp i → m ≤ i) : Od w A g b S P7 stop m W' := by
  have hm := h.lt
  have hn : ∀ i, i < m → ¬ fp i := fun i hi e => by have := hf i e; omega
  exact ⟨h.set.kept k (hn _ hm.1) (hn _ hm.2.1), h.bel.trans (k.below h.bel.size fun i hi => by have := hf i hi; omega), h.st.kept k (hn _ (by omega)), h.rs.kept k (hn _ hm.2.2.1), h.sp.kept k (hn _ hm.2.2.2), hm⟩
theorem Od.drewN {w W : World} {A g b P7 m : Nat} {S : Nat → Bool} {stop : Int} (h : Od w A g b S P7 stop m W) (k : Nat) : Od w A g b S P7 stop m (W.drewN k) := h.old (fp := fun _ => False) ((Kp.refl _ W).drewN k) (fun _ h => h.elim)

/-- The last number that was told. -/
def lastN (l : List Nat) : Int := match l.getLast? with
  | none => -1
  | some x => x
theorem nums_rising (b : Nat) (p : Nat → Bool) : (nums b p).Pairwise (· < ·) := List.Pairwise.filter _ List.pairwise_lt_range
/-- What is told next is greater, is in it, and within the bound. -/
theorem next_num {b : Nat} {p : Nat → Bool} {pre : List Nat} {x : Nat} (h : pre ++ [x] <+: nums b p) : lastN pre < x ∧ p x = true ∧ x < b := by
  have hx : x ∈ nums b p := h.subset (by simp)
  refine ⟨?_, (mem_nums.1 hx).2, (mem_nums.1 hx).1⟩
  have hp : (pre ++ [x]).Pairwise (· < ·) := (nums_rising b p).sublist h.sublist
  rw [List.pairwise_append] at hp
  unfold lastN
  cases hl : pre.getLast? with
  | none => simp; omega
  | some y =>
    have := hp.2.2 y (List.mem_of_getLast? hl) x (by simp)
    simp
    omega
theorem lastN_snoc (pre : List Nat) (x : Nat) : lastN (pre ++ [x]) = x := by simp [lastN]

/-- Two boxes that a loop turns. -/
theorem sepBox2 {Wx : World} {N M : Nat} {u v : List Nat → Value} (hN : N < Wx.heap.size) (hM : M < Wx.heap.size) : Sep (fun (pre : List Nat) G W => Own1 Wx (fun k => k = N ∨ k = M) G W ∧ Box W N 3 (u pre) ∧ Box W M 3 (v pre)) := by
  rintro s G G' W W' ⟨h1, h2, h3⟩ hk hG
  exact ⟨h1.sep hk hG, h2.kept hk fun e => by have := h1.2 N e; omega, h3.kept hk fun e => by have := h1.2 M e; omega⟩

set_option maxRecDepth 100000 in
set_option maxHeartbeats 400000 in
theorem order_early (b0 stop : Int) (ao : Option Addr) (n1 c1 : Nat) (w : World) (hT : Tab w) (hn1 : n1 ≤ 9223372036854775807) (h : 1000 < b0 ∨ 60 < n1) :
    Calls Tryd.prog 6 #[.int .i64 b0, .slice ao n1 c1, .int .i64 stop] w fun e w' => e = .returned (.bool true) ∧ Below w.heap.size w w' := by
  have hk0 : Below w.heap.size w ((w.alloc (.cells #[.int .i64 stop] 3)).alloc (.cells #[.bool false] 4)) := ((Below.refl _ w).alloc (Nat.le_refl _) _).alloc (by simp) _
  have ha := hidIt (alive_any _ (hT.below hk0))
  have H0 := hidIt hk0
  clear hT hk0
  have HR0 : Hid (((w.alloc (.cells #[.int .i64 stop] 3)).alloc (.cells #[.bool false] 4)).heap[w.heap.size + 1]? = some (.cells #[.bool false] 4 (0, 0))) := by
    show _ = _
    have := heap_new (w.alloc (.cells #[.int .i64 stop] 3)) (.cells #[.bool false] 4)
    rwa [World.size_alloc] at this
  by_cases h1 : 1000 < b0
  · clear h
    go_enter Tryd.func6, Tryd.ntmps6
    go_wp2_with fail
    refine ha.out.mono ?_
    rintro e w1 ⟨rfl, hB⟩
    have hR : Box w1 (w.heap.size + 1) 4 (.bool false) := (hB.block _ (by simp)).trans HR0.out
    have hc := hR.cell
    have hf := hR.frz
    have hc5 := (hR.set (.bool true)).cell
    have HF : Hid (Below w.heap.size w (w1.setCell ⟨w.heap.size + 1, 0, none⟩ (.bool true))) := (H0.out.trans (hB.mono (by simp; omega))).setCell (p := ⟨w.heap.size + 1, 0, none⟩) (by simp) _
    clear ha hB hR
    go_wp2
    refine bodyPost_ret (v := .bool true) ?_ rfl ⟨rfl, HF.out⟩
    simp [results, Tryd.f6, go_sem, hc5]
  · have h2 : 60 < n1 := by omega
    clear h
    go_enter Tryd.func6, Tryd.ntmps6
    go_wp2_with fail
    refine ha.out.mono ?_
    rintro e w1 ⟨rfl, hB⟩
    have hR : Box w1 (w.heap.size + 1) 4 (.bool false) := (hB.block _ (by simp)).trans HR0.out
    have hc := hR.cell
    have hf := hR.frz
    have hc5 := (hR.set (.bool true)).cell
    have HF : Hid (Below w.heap.size w (w1.setCell ⟨w.heap.size + 1, 0, none⟩ (.bool true))) := (H0.out.trans (hB.mono (by simp; omega))).setCell (p := ⟨w.heap.size + 1, 0, none⟩) (by simp) _
    clear ha hB hR
    go_wp2
    refine bodyPost_ret (v := .bool true) ?_ rfl ⟨rfl, HF.out⟩
    simp [results, Tryd.f6, go_sem, hc5]

theorem at_round {n l : Nat} {P : Program} {f : FuncId} {args : Array Value} {w : World} {R : Ending → World → Prop} (h : Calls P f args w R) : Fence.wide.fn f ∧ (Fence.wide.depth.isSome = true → 1 ≤ n) ∧ CallsIn (Fence.wide.inRound l) (n - 1) P f args w R :=
  ⟨trivial, fun h => by simp [Fence.wide] at h, CallsIn.inRound l (callsIn_wide.2 h)⟩

set_option maxRecDepth 100000 in
set_option maxHeartbeats 4000000 in
theorem order_in (n : Nat) (hn : Hid (3 ≤ n)) (b0 stop : Int) (ao : Option Addr) (z : List Int) (c1 : Nat) (w : World) (hT : Tab w) (h1 : LAt w ao z) (hb : b0 ≤ 1000) (hn1 : z.length ≤ 60) :
    CallsIn Fence.wide n Tryd.prog 6 #[.int .i64 b0, .slice ao z.length c1, .int .i64 stop] w fun e w' => e = .returned (.bool true) ∧ Below w.heap.size w w' := by
  refine callsIn_of_wp_marks Tryd.func6 rfl trivial ?_ rfl
  simp only [Tryd.ntmps6, List.size_toArray, List.length_cons, List.length_nil, Nat.reduceAdd, Nat.reduceSub, Array.replicate_succ, Array.replicate_zero, List.push_toArray, List.append_toArray, List.nil_append, List.cons_append]
  have hk0 : Below w.heap.size w ((w.alloc (.cells #[.int .i64 stop] 3)).alloc (.cells #[.bool false] 4)) := ((Below.refl _ w).alloc (Nat.le_refl _) _).alloc (by simp) _
  have ha := hidIt (alive_any _ (hT.below hk0))
  have H0 := hidIt hk0
  have HR0 : Hid (((w.alloc (.cells #[.int .i64 stop] 3)).alloc (.cells #[.bool false] 4)).heap[w.heap.size + 1]? = some (.cells #[.bool false] 4 (0, 0)) ∧ ((w.alloc (.cells #[.int .i64 stop] 3)).alloc (.cells #[.bool false] 4)).heap[w.heap.size]? = some (.cells #[.int .i64 stop] 3 (0, 0))) := by
    constructor
    · have := heap_new (w.alloc (.cells #[.int .i64 stop] 3)) (.cells #[.bool false] 4)
      rwa [World.size_alloc] at this
    · exact (Below.heap_alloc _ _ _ (by simp)).trans (heap_new w _)
  have HT := hidIt hT
  have H1 := hidIt h1
  obtain ⟨b, hbe⟩ : ∃ b, b = clampB b0 := ⟨_, rfl⟩
  have hbl : b ≤ 1000 := by rw [hbe]; unfold clampB; omega
  obtain ⟨S, hS⟩ : ∃ S, S = ofL b z := ⟨_, rfl⟩
  have HbS := hidIt (And.intro hbe hS)
  clear hT hk0 h1 hbe hS
  gi_wp2_with fail
  refine at_wide (ha.out.mono ?_)
  rintro e w1 ⟨rfl, hB⟩
  have HB : Hid (Below w.heap.size w w1 ∧ Box w1 w.heap.size 3 (.int .i64 stop) ∧ Box w1 (w.heap.size + 1) 4 (.bool false)) := ⟨H0.out.trans (hB.mono (by simp; omega)), (hB.block _ (by simp; omega)).trans HR0.out.2, (hB.block _ (by simp)).trans HR0.out.1⟩
  clear ha hB H0 HR0
  gi_wp2_with fail
  have hc := new_any b0 ao z c1 w1 (H1.out.below HB.out.1) (by omega)
  rw [← HbS.out.1, ← HbS.out.2] at hc
  refine at_wide (hc.mono ?_)
  rintro e w2 ⟨A, g, rfl, hA, hg, hs, hk⟩
  have hz2 : w.heap.size + 1 < w2.heap.size := by have := HB.out.2.2.lt; have := hk.size; omega
  have HD : Hid (SetAt w2 A g b S ∧ Below w.heap.size w w2 ∧ Box w2 w.heap.size 3 (.int .i64 stop) ∧ Box w2 (w.heap.size + 1) 4 (.bool false)) := ⟨hs, bOn0 HB.out.1 hk, HB.out.2.1.kept hk (fun h => h), HB.out.2.2.kept hk (fun h => h)⟩
  clear hc hs hk hA hg HB H1 HbS
  gi_wp2_with fail
  refine at_wide ((all_any _ _).mono ?_)
  rintro e w' ⟨rfl, rfl⟩
  gi_wp2_with fail
  obtain ⟨Wx, hWx⟩ : ∃ Wx, (((w2.alloc (.cells #[.pointer (some ⟨A, 0, none⟩)] 28)).alloc (.cells #[.int .i64 (-1)] 3)).alloc (.cells #[.int .i64 0] 3)).alloc (.cells #[.pointer (some ⟨A, 0, none⟩)] 28) = Wx := ⟨_, rfl⟩
  rw [hWx]
  have hkx : Kp (fun _ => False) w2 Wx := by rw [← hWx]; exact ((((Kp.refl _ w2).alloc _).alloc _).alloc _).alloc _
  have hzx : Wx.heap.size = w2.heap.size + 4 := by rw [← hWx]; simp
  have hb7 : Box Wx w2.heap.size 28 (.pointer (some ⟨A, 0, none⟩)) := by
    rw [← hWx]
    exact (Below.heap_alloc _ _ _ (by rw [World.size_alloc, World.size_alloc, World.size_alloc]; omega)).trans ((Below.heap_alloc _ _ _ (by rw [World.size_alloc, World.size_alloc]; omega)).trans ((Below.heap_alloc _ _ _ (by rw [World.size_alloc]; omega)).trans (heap_new w2 _)))
  have hb8 : Box Wx (w2.heap.size + 1) 3 (.int .i64 (lastN [])) := by
    rw [← hWx]
    have := heap_new (w2.alloc (.cells #[.pointer (some ⟨A, 0, none⟩)] 28)) (.cells #[.int .i64 (-1)] 3)
    rw [World.size_alloc] at this
    exact (Below.heap_alloc _ _ _ (by rw [World.size_alloc, World.size_alloc, World.size_alloc]; omega)).trans ((Below.heap_alloc _ _ _ (by rw [World.size_alloc, World.size_alloc]; omega)).trans this)
  have hb9 : Box Wx (w2.heap.size + 2) 3 (.int .i64 (([] : List Nat).length : Nat)) := by
    rw [← hWx]
    have := heap_new ((w2.alloc (.cells #[.pointer (some ⟨A, 0, none⟩)] 28)).alloc (.cells #[.int .i64 (-1)] 3)) (.cells #[.int .i64 0] 3)
    rw [World.size_alloc, World.size_alloc] at this
    exact (Below.heap_alloc _ _ _ (by rw [World.size_alloc, World.size_alloc, World.size_alloc]; omega)).trans this
  have hb10 : Box Wx (w2.heap.size + 3) 28 (.pointer (some ⟨A, 0, none⟩)) := by
    rw [← hWx]
    have := heap_new (((w2.alloc (.cells #[.pointer (some ⟨A, 0, none⟩)] 28)).alloc (.cells #[.int .i64 (-1)] 3)).alloc (.cells #[.int .i64 0] 3)) (.cells #[.pointer (some ⟨A, 0, none⟩)] 28)
    rw [World.size_alloc, World.size_alloc, World.size_alloc] at this
    exact this
  have hPx := hb10.cell
  have hOx : Od w A g b S w2.heap.size stop (w2.heap.size + 1) Wx := ⟨HD.out.1.grown hkx, bOn0 HD.out.2.1 hkx, HD.out.2.2.1.kept hkx (fun h => h), HD.out.2.2.2.kept hkx (fun h => h), hb7, by have := HD.out.1.ltA; omega, by have := HD.out.1.ltg; omega, by omega, by omega⟩
  have Hsq := hidIt (all1_seq (n - 1) (w2.heap.size + 3) A g b S (by have := hn.out; omega) Wx hPx hOx.set)
  have h1n : 1 ≤ n := by have := hn.out; omega
  have HO := hidIt hOx
  have H89 := hidIt (And.intro hb8 hb9)
  clear hWx hkx hb7 hb8 hb9 hPx hOx HD hb10
  apply rangeG (n := n) h1n (gf := 44) (lb := #[.pointer (some ⟨w2.heap.size + 3, 0, none⟩)]) rfl (enters_of Tryd.func44 (by kernel_rfl) rfl) Hsq.out (Below.refl _ _) (fun _ => rfl)
    (fun pre G W => Own1 Wx (fun k => k = w2.heap.size + 1 ∨ k = w2.heap.size + 2) G W ∧ Box W (w2.heap.size + 1) 3 (.int .i64 (lastN pre)) ∧ Box W (w2.heap.size + 2) 3 (.int .i64 (pre.length : Nat))) (fun _ _ _ _ => False)
    (sepBox2 (u := fun pre => .int .i64 (lastN pre)) (v := fun pre => .int .i64 (pre.length : Nat)) (by omega) (by omega)) (fun _ _ _ _ _ _ h _ _ => h) (fun s G W h => HT.out.below (HO.out.old h.1.1 (fun i hi => by omega)).bel) ⟨Own1.start _ _, H89.out⟩
  case hassign =>
    intro l2 x2 W2 K2 hK2
    have HK2 := hidIt hK2
    clear hK2
    simp only [encN]
    gi_wp2
    exact HK2.out
  case hbody =>
    rintro l2 pre x2 G W2 ⟨hO, hB8, hB9⟩ hpre
    obtain ⟨hn1', hn2', hn3'⟩ := next_num hpre
    have hlen : pre.length < 1000 := by
      have h1 := hpre.length_le
      have h2 := nums_le b S
      simp at h1
      omega
    have hOd := HO.out.old hO.1 (fun i hi => by omega)
    have c7 := hOd.sp.cell
    have c8 := hB8.cell
    have z8 := hB8.frz
    have c9 := hB9.cell
    have z9 := hB9.frz
    have hhas := hidIt (has_any hOd.set x2)
    rw [show hasP S x2 = true from by simp [hasP, hn2']] at hhas
    have hbd := hidIt (fun m => bound_any A b (W2.drewN m) hOd.set.bound)
    have HI := hidIt (And.intro hO (And.intro hB8 hB9))
    have hlo : -1 ≤ lastN pre := by
      unfold lastN
      split <;> omega
    generalize lastN pre = La at *
    obtain ⟨Le, hLe⟩ : ∃ Le, pre.length = Le := ⟨_, rfl⟩
    have HLe := hidIt hLe
    rw [hLe] at c9 HI hlen
    clear hLe
    clear hO hB8 hB9 hOd hpre hn2' h1n
    gi_wp2_with fail
    refine at_round (hhas.out.mono ?_)
    rintro e w' ⟨rfl, m, rfl⟩
    clear hhas
    gi_wp2_with fail
    refine at_round ((hbd.out m).mono ?_)
    rintro e w' ⟨rfl, rfl⟩
    clear hbd
    gi_wp2
    have hkp : Kp (fun k => k = w2.heap.size + 1 ∨ k = w2.heap.size + 2) W2 (((W2.drewN m).setCell ⟨w2.heap.size + 1, 0, none⟩ (.int .i64 x2)).setCell ⟨w2.heap.size + 2, 0, none⟩ (.int .i64 ((Le : Int) + 1))) := (((Kp.refl _ W2).drewN m).setCell (p := ⟨w2.heap.size + 1, 0, none⟩) (.inl (.inl rfl)) _).setCell (p := ⟨w2.heap.size + 2, 0, none⟩) (.inl (.inr rfl)) _
    have b8 : Box ((W2.drewN m).setCell ⟨w2.heap.size + 1, 0, none⟩ (.int .i64 x2)) (w2.heap.size + 1) 3 (.int .i64 x2) := Box.set (show Box (W2.drewN m) (w2.heap.size + 1) 3 _ from HI.out.2.1) _
    have b9 : Box ((W2.drewN m).setCell ⟨w2.heap.size + 1, 0, none⟩ (.int .i64 x2)) (w2.heap.size + 2) 3 (.int .i64 Le) := Box.kept (show Box (W2.drewN m) (w2.heap.size + 2) 3 _ from HI.out.2.2) ((Kp.refl _ _).setG 0 _) (by omega)
    refine ⟨Kept.of_kp hkp (fun k hG e => ?_), ⟨HI.out.1.1.trans' hkp, HI.out.1.2⟩, ?_, ?_⟩
    · have := HI.out.1.2 k hG
      omega
    · rw [lastN_snoc]
      exact b8.kept ((Kp.refl _ _).setG 0 _) (by omega)
    · rw [List.length_append, HLe.out]
      exact b9.set _
  case hdone =>
    rintro D1 G1 W3 hD1 hGD1 ⟨hO1, hB8, hB9⟩ hDo1
    have hOd := HO.out.old hO1.1 (fun i hi => by omega)
    have c7 := hOd.sp.cell
    have hz3 : Wx.heap.size ≤ W3.heap.size := hO1.1.size
    have HO3 := hidIt hOd
    have HB3 : Hid (Box W3 (w2.heap.size + 2) 3 (.int .i64 (cnt b S : Nat)) ∧ W3.heap[D1]? = some (.deferred (some []))) := ⟨hB9, hDo1⟩
    clear hO1 hB8 hB9 hOd hDo1 hGD1 Hsq HO H89
    clear h1n
    gi_wp2_with fail
    refine at_wide ((all_any _ _).mono ?_)
    rintro e w' ⟨rfl, rfl⟩
    clear c7
    gi_wp2_with fail
    obtain ⟨Wy, hWy⟩ : ∃ Wy, W3.alloc (.cells #[.pointer (some ⟨A, 0, none⟩)] 28) = Wy := ⟨_, rfl⟩
    rw [hWy]
    have hky : Kp (fun _ => False) W3 Wy := by rw [← hWy]; exact (Kp.refl _ W3).alloc _
    have hzy : Wy.heap.size = W3.heap.size + 1 := by rw [← hWy]; simp
    have hPy : Wy.cell? ⟨W3.heap.size, 0, none⟩ = some (.pointer (some ⟨A, 0, none⟩)) := by rw [← hWy]; simp
    have HOy := hidIt (HO3.out.old hky (fun _ h => h.elim))
    have HBy : Hid (Box Wy (w2.heap.size + 2) 3 (.int .i64 (cnt b S : Nat)) ∧ Wy.heap[D1]? = some (.deferred (some []))) := ⟨HB3.out.1.kept hky (fun h => h), hky.at HB3.out.2 (fun h => h)⟩
    have Hsq := hidIt (all1_seq (n - 1) W3.heap.size A g b S (by have := hn.out; omega) Wy hPy HOy.out.set)
    have h1n : 1 ≤ n := by have := hn.out; omega
    have hD1z : D1 < Wy.heap.size := (Array.getElem?_eq_some_iff.1 HBy.out.2).1
    clear hWy hky hPy HO3 HB3
    apply rangeG (n := n) h1n (gf := 44) (lb := #[.pointer (some ⟨W3.heap.size, 0, none⟩)]) rfl (enters_of Tryd.func44 (by kernel_rfl) rfl) Hsq.out (Below.refl _ _) (fun _ => rfl)
      (fun pre G W => Own1 Wy (fun _ => False) G W) (fun c pre G W => c = .exit 2 ∧ Own1 Wy (fun _ => False) G W)
      (fun s G G' W W' h hk hG => h.sep hk hG) (fun c s G G' W W' h hk hG => ⟨h.1, h.2.sep hk hG⟩) (fun s G W h => HT.out.below (HOy.out.old h.1 (fun _ h => h.elim)).bel) (Own1.start _ _)
    case hassign =>
      intro l2 x2 W2 K2 hK2
      have HK2 := hidIt hK2
      clear hK2
      simp only [encN]
      gi_wp2
      exact HK2.out
    case hbody =>
      intro l2 pre x2 G W2 hO hpre
      have c5 := (HOy.out.old hO.1 (fun _ h => h.elim)).st.cell
      have HI := hidIt hO
      clear hO hpre h1n
      by_cases hst : (x2 : Int) = stop
      · subst hst
        gi_wp2
        exact ⟨Kept.refl _ _, rfl, HI.out⟩
      · have hne : ((x2 : Int) == stop) = false := by simpa using hst
        gi_wp2
        exact ⟨Kept.refl _ _, HI.out⟩
    case hdone =>
      intro D2 G2 W4 hD2 hGD2 hO2 hDo2
      have hO4 := HOy.out.old hO2.1 (fun _ h => h.elim)
      have HO4 := hidIt hO4
      have HB4 : Hid (Box W4 (w2.heap.size + 2) 3 (.int .i64 (cnt b S : Nat)) ∧ W4.heap[D1]? = some (.deferred (some [])) ∧ W4.heap[D2]? = some (.deferred (some []))) := ⟨HBy.out.1.kept hO2.1 (fun h => h), hO2.1.at HBy.out.2 (fun h => h), hDo2⟩
      clear hO2 hDo2 hGD2 hO4 HOy HBy Hsq h1n
      gi_wp2
      gi_loopw [12, 13] (fun vm vx wr => ∃ j : Nat, j ≤ 1002 ∧ vx = .int .i64 ((j : Int) - 1) ∧ vm = .int .i64 (cnt (j - 1) S : Nat) ∧ Hid (∃ k, wr = W4.drewN k)) (fun _ x _ => 1002 - (intOf x + 1).toNat)
      case atStart => exact ⟨0, by omega, by simp, by simp [cnt_zero], 0, rfl⟩
      case round =>
        obtain ⟨j, hj, rfl, rfl, hdr⟩ := hrel
        obtain ⟨dk, hdk⟩ := hdr.out
        subst hdk
        have hcl := cnt_le (j - 1) S
        by_cases hlt : j ≤ 1001
        · have hhas := hidIt (has_any (HO4.out.drewN dk).set ((j : Int) - 1))
          have c7 := (HO4.out.drewN dk).sp.cell
          have hnx : cnt (j + 1 - 1) S = cnt (j - 1) S + (hasP S ((j : Int) - 1)).toNat := by
            cases j with
            | zero => simp [hasP, cnt_zero]
            | succ j =>
              rw [show j + 1 + 1 - 1 = j + 1 from by omega, show j + 1 - 1 = j from by omega, cnt_succ]
              congr 2
              simp [hasP]
          have HNX := hidIt hnx
          clear hnx hdr
          generalize cnt (j - 1) S = Cm at *
          generalize hasP S ((j : Int) - 1) = hb at *
          cases hb
          · gi_wp2_with fail
            refine at_wide (hhas.out.mono ?_)
            rintro e w' ⟨rfl, m, rfl⟩
            clear hhas
            gi_wp2
            go_roundw
            case rel => exact ⟨j + 1, by omega, by go_num, by rw [HNX.out]; simp, dk + m, by simp⟩
            case measure => simp [intOf]; omega
          · gi_wp2_with fail
            refine at_wide (hhas.out.mono ?_)
            rintro e w' ⟨rfl, m, rfl⟩
            clear hhas
            gi_wp2
            go_roundw
            case rel => exact ⟨j + 1, by omega, by go_num, by rw [HNX.out]; simp, dk + m, by simp⟩
            case measure => simp [intOf]; omega
        · have he : j = 1002 := by omega
          subst he
          have hce : cnt (1002 - 1) S = cnt b S := by
            show (nums 1001 S).length = (nums b S).length
            rw [nums, nums_more HO4.out.set.fits.2 (by omega)]
          rw [hce]
          have hlen := hidIt (fun m => len_cnt (HO4.out.drewN m).set)
          have c7 := (HO4.out.drewN dk).sp.cell
          have c9 : (W4.drewN dk).cell? ⟨w2.heap.size + 2, 0, none⟩ = some (.int .i64 (cnt b S : Nat)) := HB4.out.1.cell
          have z6 : (W4.drewN dk).frozen? ⟨w.heap.size + 1, 0, none⟩ = false := HO4.out.rs.frz
          have c6 : (W4.drewN dk).cell? ⟨w.heap.size + 1, 0, none⟩ = some (.bool false) := HO4.out.rs.cell
          clear hce hcl hdr
          generalize cnt b S = Cn at *
          gi_wp2_with fail
          have HO5 := hidIt (HO4.out.drewN dk)
          have HB5 : Hid ((W4.drewN dk).heap[D1]? = some (.deferred (some [])) ∧ (W4.drewN dk).heap[D2]? = some (.deferred (some []))) := HB4.out.2
          have hln5 : Hid (Calls Tryd.prog 16 #[.pointer (some ⟨A, 0, none⟩)] (W4.drewN dk).drew fun e w' => e = .returned (.int .i64 (Cn : Nat)) ∧ (W4.drewN dk).drew = w') := hlen.out (dk + 1)
          clear hlen HO4 HB4
          generalize W4.drewN dk = W5 at *
          have HN : Hid ([D2, D1].Nodup ∧ (∀ D ∈ [D2, D1], (W5.setCell ⟨w.heap.size + 1, 0, none⟩ (.bool true)).drew.heap[D]? = some (.deferred (some []))) ∧ ∀ W', Kp (fun k => k ∈ [D2, D1]) (W5.setCell ⟨w.heap.size + 1, 0, none⟩ (.bool true)).drew W' → Box W' (w.heap.size + 1) 4 (.bool true) ∧ Below w.heap.size w W') := by
            have hne : ∀ D, D ∈ [D2, D1] → w.heap.size + 1 < D := by
              intro D hD
              simp at hD
              omega
            have hkc : ∀ D, D ∈ [D2, D1] → (W5.setCell ⟨w.heap.size + 1, 0, none⟩ (.bool true)).heap[D]? = W5.heap[D]? := fun D hD => Below.heap_setCell _ _ _ _ (fun e => by have := hne D hD; simp at e; omega)
            refine ⟨by simp; omega, fun D hD => ?_, fun W' hk' => ⟨?_, ?_⟩⟩
            · rw [show ∀ x : World, x.drew.heap = x.heap from fun _ => rfl, hkc D hD]
              simp at hD
              rcases hD with h | h
              · rw [h]; exact HB5.out.2
              · rw [h]; exact HB5.out.1
            · exact Box.kept (show Box (W5.setCell ⟨w.heap.size + 1, 0, none⟩ (.bool true)).drew _ _ _ from HO5.out.rs.set _) hk' (fun h => by have := hne _ h; omega)
            · have h1 : Below w.heap.size w (W5.setCell ⟨w.heap.size + 1, 0, none⟩ (.bool true)).drew := (HO5.out.bel.setCell (p := ⟨w.heap.size + 1, 0, none⟩) (by simp) _).drew
              exact h1.trans (hk'.below h1.size fun k hk => by have := hne k hk; omega)
          have mixed : Tryd.prog.follows .mixedOrders = true := by kernel_rfl
          have h16 : Fence.wide.fn 16 := trivial
          have h1n : 1 ≤ n := by have := hn.out; omega
          rename_i K5 hK5
          refine wpIn_mono (Q := Exit.then K5 (fun _ _ _ => False)) ?_ (fun e a w h => by cases e <;> first | exact h | exact h.elim)
          gi_region_with_o (gi_at_call 16; refine (callsIn_wide.2 hln5.out).mono ?_; rintro e w' ⟨rfl, rfl⟩)
          all_goals
            refine hK5 _ _ ?_
            gi_wp2
            refine leaves_marks [D2, D1] _ HN.out.1 HN.out.2.1 fun W' hk' => ?_
            have hc5 := (HN.out.2.2 W' hk').1.cell
            refine ⟨.bool true, ?_, rfl, (HN.out.2.2 W' hk').2⟩
            simp [results, Tryd.f6, go_sem, hc5]
    case hstop =>
      rintro D2 c pre G2 W4 hD2 hGD2 hpre ⟨rfl, hO2⟩ hDo2
      have hO4 := HOy.out.old hO2.1 (fun _ h => h.elim)
      have HO4 := hidIt hO4
      have HB4 : Hid (Box W4 (w2.heap.size + 2) 3 (.int .i64 (cnt b S : Nat)) ∧ W4.heap[D1]? = some (.deferred (some [])) ∧ W4.heap[D2]? = some (.deferred (some []))) := ⟨HBy.out.1.kept hO2.1 (fun h => h), hO2.1.at HBy.out.2 (fun h => h), hDo2⟩
      clear hO2 hDo2 hGD2 hO4 HOy HBy Hsq h1n
      gi_wp2
      gi_loopw [12, 13] (fun vm vx wr => ∃ j : Nat, j ≤ 1002 ∧ vx = .int .i64 ((j : Int) - 1) ∧ vm = .int .i64 (cnt (j - 1) S : Nat) ∧ Hid (∃ k, wr = W4.drewN k)) (fun _ x _ => 1002 - (intOf x + 1).toNat)
      case atStart => exact ⟨0, by omega, by simp, by simp [cnt_zero], 0, rfl⟩
      case round =>
        obtain ⟨j, hj, rfl, rfl, hdr⟩ := hrel
        obtain ⟨dk, hdk⟩ := hdr.out
        subst hdk
        have hcl := cnt_le (j - 1) S
        by_cases hlt : j ≤ 1001
        · have hhas := hidIt (has_any (HO4.out.drewN dk).set ((j : Int) - 1))
          have c7 := (HO4.out.drewN dk).sp.cell
          have hnx : cnt (j + 1 - 1) S = cnt (j - 1) S + (hasP S ((j : Int) - 1)).toNat := by
            cases j with
            | zero => simp [hasP, cnt_zero]
            | succ j =>
              rw [show j + 1 + 1 - 1 = j + 1 from by omega, show j + 1 - 1 = j from by omega, cnt_succ]
              congr 2
              simp [hasP]
          have HNX := hidIt hnx
          clear hnx hdr
          generalize cnt (j - 1) S = Cm at *
          generalize hasP S ((j : Int) - 1) = hb at *
          cases hb
          · gi_wp2_with fail
            refine at_wide (hhas.out.mono ?_)
            rintro e w' ⟨rfl, m, rfl⟩
            clear hhas
            gi_wp2
            go_roundw
            case rel => exact ⟨j + 1, by omega, by go_num, by rw [HNX.out]; simp, dk + m, by simp⟩
            case measure => simp [intOf]; omega
          · gi_wp2_with fail
            refine at_wide (hhas.out.mono ?_)
            rintro e w' ⟨rfl, m, rfl⟩
            clear hhas
            gi_wp2
            go_roundw
            case rel => exact ⟨j + 1, by omega, by go_num, by rw [HNX.out]; simp, dk + m, by simp⟩
            case measure => simp [intOf]; omega
        · have he : j = 1002 := by omega
          subst he
          have hce : cnt (1002 - 1) S = cnt b S := by
            show (nums 1001 S).length = (nums b S).length
            rw [nums, nums_more HO4.out.set.fits.2 (by omega)]
          rw [hce]
          have hlen := hidIt (fun m => len_cnt (HO4.out.drewN m).set)
          have c7 := (HO4.out.drewN dk).sp.cell
          have c9 : (W4.drewN dk).cell? ⟨w2.heap.size + 2, 0, none⟩ = some (.int .i64 (cnt b S : Nat)) := HB4.out.1.cell
          have z6 : (W4.drewN dk).frozen? ⟨w.heap.size + 1, 0, none⟩ = false := HO4.out.rs.frz
          have c6 : (W4.drewN dk).cell? ⟨w.heap.size + 1, 0, none⟩ = some (.bool false) := HO4.out.rs.cell
          clear hce hcl hdr
          generalize cnt b S = Cn at *
          gi_wp2_with fail
          have HO5 := hidIt (HO4.out.drewN dk)
          have HB5 : Hid ((W4.drewN dk).heap[D1]? = some (.deferred (some [])) ∧ (W4.drewN dk).heap[D2]? = some (.deferred (some []))) := HB4.out.2
          have hln5 : Hid (Calls Tryd.prog 16 #[.pointer (some ⟨A, 0, none⟩)] (W4.drewN dk).drew fun e w' => e = .returned (.int .i64 (Cn : Nat)) ∧ (W4.drewN dk).drew = w') := hlen.out (dk + 1)
          clear hlen HO4 HB4
          generalize W4.drewN dk = W5 at *
          have HN : Hid ([D2, D1].Nodup ∧ (∀ D ∈ [D2, D1], (W5.setCell ⟨w.heap.size + 1, 0, none⟩ (.bool true)).drew.heap[D]? = some (.deferred (some []))) ∧ ∀ W', Kp (fun k => k ∈ [D2, D1]) (W5.setCell ⟨w.heap.size + 1, 0, none⟩ (.bool true)).drew W' → Box W' (w.heap.size + 1) 4 (.bool true) ∧ Below w.heap.size w W') := by
            have hne : ∀ D, D ∈ [D2, D1] → w.heap.size + 1 < D := by
              intro D hD
              simp at hD
              omega
            have hkc : ∀ D, D ∈ [D2, D1] → (W5.setCell ⟨w.heap.size + 1, 0, none⟩ (.bool true)).heap[D]? = W5.heap[D]? := fun D hD => Below.heap_setCell _ _ _ _ (fun e => by have := hne D hD; simp at e; omega)
            refine ⟨by simp; omega, fun D hD => ?_, fun W' hk' => ⟨?_, ?_⟩⟩
            · rw [show ∀ x : World, x.drew.heap = x.heap from fun _ => rfl, hkc D hD]
              simp at hD
              rcases hD with h | h
              · rw [h]; exact HB5.out.2
              · rw [h]; exact HB5.out.1
            · exact Box.kept (show Box (W5.setCell ⟨w.heap.size + 1, 0, none⟩ (.bool true)).drew _ _ _ from HO5.out.rs.set _) hk' (fun h => by have := hne _ h; omega)
            · have h1 : Below w.heap.size w (W5.setCell ⟨w.heap.size + 1, 0, none⟩ (.bool true)).drew := (HO5.out.bel.setCell (p := ⟨w.heap.size + 1, 0, none⟩) (by simp) _).drew
              exact h1.trans (hk'.below h1.size fun k hk => by have := hne k hk; omega)
          have mixed : Tryd.prog.follows .mixedOrders = true := by kernel_rfl
          have h16 : Fence.wide.fn 16 := trivial
          have h1n : 1 ≤ n := by have := hn.out; omega
          rename_i K5 hK5
          refine wpIn_mono (Q := Exit.then K5 (fun _ _ _ => False)) ?_ (fun e a w h => by cases e <;> first | exact h | exact h.elim)
          gi_region_with_o (gi_at_call 16; refine (callsIn_wide.2 hln5.out).mono ?_; rintro e w' ⟨rfl, rfl⟩)
          all_goals
            refine hK5 _ _ ?_
            gi_wp2
            refine leaves_marks [D2, D1] _ HN.out.1 HN.out.2.1 fun W' hk' => ?_
            have hc5 := (HN.out.2.2 W' hk').1.cell
            refine ⟨.bool true, ?_, rfl, (HN.out.2.2 W' hk').2⟩
            simp [results, Tryd.f6, go_sem, hc5]
  case hstop =>
    rintro D c pre G W2 hD hGD hpre h hDo
    exact h.elim
end Go.Proofs.YtcaibfalhkhleaaDoor
