/-
  All, and the iterator that it hands back.
-/
import Derived.Test.YtcaibfalhkhleaaDoorOnes
import Derived.Test.YtcaibfalhkhleaaDoorLaid
namespace Go.Proofs.YtcaibfalhkhleaaDoor
set_option linter.unusedVariables false
open Go.RowKit Go.Shelf
attribute [local go_sem] Oper.semAt_some

set_option maxHeartbeats 400000 in
theorem all_any (A : Nat) (w : World) :
    Calls Tryd.prog 27 #[.pointer (some ⟨A, 0, none⟩)] w fun e w' => e = .returned (.func (.func 44) #[] #[.pointer (some ⟨w.heap.size, 0, none⟩)]) ∧ w.alloc (.cells #[.pointer (some ⟨A, 0, none⟩)] 28) = w' := by
  go_enter Tryd.func27, Tryd.ntmps27
  go_wp2
  go_ret
  exact ⟨rfl, rfl⟩

/-- A mark that a range leaves behind. -/
def mark (D : Nat) : Deferred := { target := .collected D, args := #[] }
theorem leaves_marks {n : Nat} {P : Program} {fn : Func} {tmps : Array Value} {R : Ending → World → Prop} : ∀ (Ds : List Nat) (W : World), Ds.Nodup → (∀ D ∈ Ds, W.heap[D]? = some (.deferred (some []))) →
    (∀ W', Kp (fun k => k ∈ Ds) W W' → LeavesIn Fence.wide n P fn tmps R [] .returning W') → LeavesInM Fence.wide n P fn tmps R (Ds.map mark) .returning W
  | [], W, _, _, h => h W (Kp.refl _ _)
  | D :: Ds, W, hn, ho, h => by
    have hD := ho D (by simp)
    rw [List.nodup_cons] at hn
    refine ⟨by simp, .inl ⟨D, _, rfl, run_takeDeferred hD, ?_⟩⟩
    refine leaves_marks Ds _ hn.2 (fun E hE => ?_) fun W' hk => h W' ?_
    · rw [World.putObj_heap_other (fun e => by subst e; exact hn.1 hE)]
      exact ho E (by simp [hE])
    · exact (kp_put W _ (by simp)).trans' (hk.mono fun k hk => by simp [hk])

/-- The numbers of the first k words. -/
def doneP (p : Nat → Bool) (k : Nat) : List Nat := (List.range k).flatMap (fun i => (bitsOf (wd p i)).map (fun j => 64 * i + j))
theorem done_succ (p : Nat → Bool) (k : Nat) : doneP p (k + 1) = doneP p k ++ (bitsOf (wd p k)).map (fun j => 64 * k + j) := by
  unfold doneP
  rw [List.range_succ, List.flatMap_append]
  simp
theorem done_part (p : Nat → Bool) {k m : Nat} (h : k ≤ m) : doneP p k <+: doneP p m := by
  induction m with
  | zero =>
    obtain rfl : k = 0 := by omega
    exact List.prefix_refl _
  | succ m ih =>
    by_cases hk : k = m + 1
    · subst hk
      exact List.prefix_refl _
    · rw [done_succ]
      exact (ih (by omega)).trans (List.prefix_append _ _)

theorem round_any {m m' l l2 : Nat} {P : Program} {f : FuncId} {tmps : Array Value} {assign body : Code} {w : World} {R : Ending → World → Prop} (h : RoundIn Fence.wide m P l f tmps assign body w R) : RoundIn (Fence.wide.inRound l2) m' P l f tmps assign body w R :=
  ⟨h.1, fun c cs _ => h.2 c cs (fun d hd => by simp [Fence.wide] at hd)⟩

/-- Where the range over the words stands: the numbers of the first k words are told. -/
structure AllSt (l b Y : Nat) (p : Nat → Bool) (J : List Nat → (Nat → Prop) → World → Prop) (k : Nat) (Ds : List Nat) (W : World) : Prop where
  told : J (doneP p k) (fun j => j = Y ∨ j = Y + 1 ∨ j ∈ Ds) W
  box : W.heap[Y]? = some (.cells #[.func (.yield l) #[] #[]] 41 (0, 0))
  row : RowAt W (Y + 1) (nw b) p
  nodup : Ds.Nodup
  marks : ∀ D ∈ Ds, W.heap[D]? = some (.deferred (some []))

/-- What holds within the range over a word's ones: what ranges over the numbers stands behind those of the words ahead and of the ones that are told; the blocks Gb are as they were in W0. -/
def InI (J : List Nat → (Nat → Prop) → World → Prop) (base : List Nat) (k : Nat) (Gb : Nat → Prop) (W0 : World) : List Nat → (Nat → Prop) → World → Prop :=
  fun pre G W => J (base ++ pre.map (fun j => 64 * k + j)) (fun j => Gb j ∨ G j) W ∧ (∀ j, Gb j → W.heap[j]? = W0.heap[j]?) ∧ W0.heap.size ≤ W.heap.size ∧ (∀ j, Gb j → ¬ G j)
theorem InI.sep {J : List Nat → (Nat → Prop) → World → Prop} (hJ : Sep J) {base : List Nat} {k : Nat} {Gb : Nat → Prop} {W0 : World} (hlt : ∀ j, Gb j → j < W0.heap.size) : Sep (InI J base k Gb W0) := by
  rintro s G G' W W' ⟨h1, h2, h3, h4⟩ hk hG
  refine ⟨hJ _ _ _ _ _ h1 (hk.mono fun j h => .inr h) (fun j h => ?_), fun j hj => ?_, Nat.le_trans h3 hk.size, fun j hj h => ?_⟩
  · rcases h with h | h
    · exact .inl (.inl h)
    · rcases hG j h with h | h
      · exact .inl (.inr h)
      · exact .inr h
  · have := hlt j hj
    rw [hk.block j (by omega) (h4 j hj), h2 j hj]
  · have := hlt j hj
    rcases hG j h with h | h
    · exact h4 j hj h
    · omega

set_option maxRecDepth 100000 in
set_option maxHeartbeats 1000000 in
theorem all1_in (n l Bn A g b : Nat) (p : Nat → Bool) (J Jx : List Nat → (Nat → Prop) → World → Prop) (hJ : Sep J) (hJx : Sep Jx) (hK : ∀ s G W, J s G W → Tab W)
    (hY : ∀ pre x₁ G W1, J pre G W1 → pre ++ [x₁] <+: nums b p → YieldAt Fence.wide (n - 1) Tryd.prog l (encN x₁) W1 fun e W' =>
      (e = .returned (.bool true) ∧ J (pre ++ [x₁]) G W' ∧ Kept G W1 W') ∨ (e = .returned (.bool false) ∧ Jx (pre ++ [x₁]) G W' ∧ Kept G W1 W'))
    (W : World) (hBn : W.cell? ⟨Bn, 0, none⟩ = some (.pointer (some ⟨A, 0, none⟩))) (hS : SetAt W A g b p) (h0 : J [] (fun _ => False) W) (h1n : 1 ≤ n) :
    CallsIn Fence.wide n Tryd.prog 44 #[.func (.yield l) #[] #[], .pointer (some ⟨Bn, 0, none⟩)] W fun e W' => (∃ v, e = .returned v) ∧ ((∃ G, J (nums b p) G W') ∨ (∃ pre G, pre <+: nums b p ∧ Jx pre G W')) := by
  refine callsIn_of_wp_marks Tryd.func44 rfl trivial ?_ rfl
  simp only [Tryd.ntmps44, List.size_toArray, List.length_cons, List.length_nil, Nat.reduceAdd, Nat.reduceSub, Array.replicate_succ, Array.replicate_zero, List.push_toArray, List.append_toArray, List.nil_append, List.cons_append]
  have hw := hS.words
  have hnw := hS.fits.nwLe
  have hA := hS.ltA
  have hBl := World.block_lt_of_cell? W _ hBn
  have HD : Hid (doneP p (nw b) = nums b p) := hS.fits.all
  have HS := hidIt hS
  have HY := hidIt hY
  have HK := hidIt hK
  have HJ := hidIt hJ
  have HJx := hidIt hJx
  have H0 := hidIt h0
  clear hY hK h0 hJ hJx hS
  gi_wp2_with fail
  have hks : Kp (fun _ => False) W (W.alloc (.cells #[.func (.yield l) #[] #[]] 41)).drew := ((Kp.refl _ W).alloc _).drew
  have hla := hidIt (laid_any (HS.out.kept hks (fun h => h) (fun h => h)) (nw b) (by omega))
  have mixed : Tryd.prog.follows .mixedOrders = true := by kernel_rfl
  clear HS
  have h34 : Fence.wide.fn 34 := trivial
  rename_i Q1 K1 hK1
  have key : ∀ w', RowAt w' (W.heap.size + 1) (nw b) p → Kp (fun _ => False) (W.alloc (.cells #[.func (.yield l) #[] #[]] 41)).drew w' → K1 { tmps := #[.func (.yield l) #[] #[], .pointer (some ⟨Bn, 0, none⟩), .pointer (some ⟨W.heap.size, 0, none⟩), undef, undef, undef, .pointer (some ⟨A, 0, none⟩), .pointer (some ⟨A, 0, none⟩), .pointer (some ⟨A, 0, none⟩), .pointer (some ⟨A, 1, none⟩), .slice (some ⟨g, 0, none⟩) (nw b) (nw b), .int .i64 (nw b), .slice (some ⟨W.heap.size + 1, 0, none⟩) (nw b) (nw b), .int .i64 (nw b), .int .i64 0, undef, undef, undef, undef, undef, undef, undef, undef, undef, undef, undef, undef, undef, undef, undef], defers := [] } w' := by
    intro w1 hr hk
    have hst : AllSt l b W.heap.size p J 0 [] w1 := by
      have hkw : Kp (fun _ => False) W w1 := ⟨hk.os, hk.tape, hk.output, Nat.le_trans (by simp) hk.size, fun k hk1 hn => (hk.block k (by simp; omega) hn).trans (Below.heap_alloc W _ k hk1)⟩
      refine ⟨HJ.out _ _ _ _ _ H0.out hkw (fun k h => .inr ?_), ?_, hr, List.nodup_nil, by simp⟩
      · have := hr.lt
        simp at h
        omega
      · exact hk.at (k := W.heap.size) (heap_new W _) (fun h => h)
    have Hst := hidIt hst
    have H1n := hidIt h1n
    clear hst hr hk hla hBn hw H0 h1n h34
    refine hK1 _ _ ?_
    clear hK1
    gi_wp2_with fail
    refine wpIn_loop (fun a' w' => ∃ (k : Nat) (Ds : List Nat) (u3 u4 u15 u16 u17 u18 u19 u20 u29 : Value), k ≤ nw b ∧ Hid (AllSt l b W.heap.size p J k Ds w') ∧ W.heap.size ≤ w'.heap.size ∧
      a' = { tmps := #[.func (.yield l) #[] #[], .pointer (some ⟨Bn, 0, none⟩), .pointer (some ⟨W.heap.size, 0, none⟩), u3, u4, undef, .pointer (some ⟨A, 0, none⟩), .pointer (some ⟨A, 0, none⟩), .pointer (some ⟨A, 0, none⟩), .pointer (some ⟨A, 1, none⟩), .slice (some ⟨g, 0, none⟩) (nw b) (nw b), .int .i64 (nw b), .slice (some ⟨W.heap.size + 1, 0, none⟩) (nw b) (nw b), .int .i64 (nw b), .int .i64 k, u15, u16, u17, u18, u19, u20, undef, undef, undef, undef, undef, undef, undef, undef, u29], defers := Ds.map mark })
      (fun a' _ => nw b - (intOf (a'.tmps.getD 14 undef)).toNat) ?_ ?_
    · exact ⟨0, [], _, _, _, _, _, _, _, _, _, Nat.zero_le _, Hst, Nat.le_of_lt (Array.getElem?_eq_some_iff.1 Hst.out.box).1, rfl⟩
    clear Hst
    rintro a' wr ⟨k, Ds, u3, u4, u15, u16, u17, u18, u19, u20, u29, hk, hst, hsz, rfl⟩
    by_cases hlt : k < nw b
    · have hc := hst.out.row.cell hlt
      have hx := wd_lt p k
      have hbx := hst.out.box
      have hrl := hst.out.row.lt
      have hon := hidIt (fun w => ones_any (wd p k) w)
      clear hbx
      gi_wp2_with fail
      refine at_wide ((hon.out _).mono ?_)
      rintro e w2 ⟨rfl, rfl⟩
      clear hon
      gi_wp2_with fail
      obtain ⟨W0, hW0⟩ : ∃ W0, (wr.alloc (.cells #[.int .i64 k] 3)).alloc (.cells #[.int .u64 (wd p k : Nat)] 58) = W0 := ⟨_, rfl⟩
      have hkp0 : Kp (fun _ => False) wr W0 := by rw [← hW0]; exact ((Kp.refl _ wr).alloc _).alloc _
      have hs0 : W0.heap.size = wr.heap.size + 2 := by rw [← hW0]; simp
      have cB : W0.heap[wr.heap.size]? = some (.cells #[.int .i64 k] 3 (0, 0)) := by rw [← hW0]; exact (Below.heap_alloc _ _ _ (by simp)).trans (heap_new wr _)
      have cX : W0.cell? ⟨wr.heap.size + 1, 0, none⟩ = some (.int .u64 (wd p k : Nat)) := by rw [← hW0]; simp
      obtain ⟨Gb, hGb⟩ : ∃ Gb : Nat → Prop, Gb = fun j => j = W.heap.size ∨ j = W.heap.size + 1 ∨ j = wr.heap.size ∨ j ∈ Ds := ⟨_, rfl⟩
      have hltD : ∀ D ∈ Ds, D < wr.heap.size := fun D hD => (Array.getElem?_eq_some_iff.1 (hst.out.marks D hD)).1
      have hltG : ∀ j, Gb j → j < W0.heap.size := by
        intro j hj
        rw [hGb] at hj
        rcases hj with h | h | h | h
        · omega
        · omega
        · omega
        · have := hltD j h
          omega
      have h0 : InI J (doneP p k) k Gb W0 [] (fun _ => False) W0 := by
        refine ⟨?_, fun _ _ => rfl, Nat.le_refl _, fun _ _ h => h⟩
        simp only [List.map_nil, List.append_nil]
        refine HJ.out _ _ _ _ _ hst.out.told (hkp0.mono fun _ h => h.elim) (fun j h => ?_)
        rw [hGb] at h
        rcases h with (h | h | h | h) | h
        · exact .inl (.inl h)
        · exact .inl (.inr (.inl h))
        · exact .inr ⟨by omega, by omega⟩
        · exact .inl (.inr (.inr h))
        · exact h.elim
      rw [hW0]
      have HG1 := hidIt hltG
      have H00 := hidIt h0
      have HcB := hidIt cB
      have HcX := hidIt cX
      have Hk0 := hidIt hkp0
      have HGb := hidIt hGb
      have HlD := hidIt hltD
      have hs0' := hidIt hs0
      clear hltG h0 cB cX hkp0 hGb hltD hs0 hW0
      apply rangeG (n := n) H1n.out (gf := 48) (lb := #[.pointer (some ⟨wr.heap.size + 1, 0, none⟩)]) rfl (enters_of Tryd.func48 (by kernel_rfl) rfl) (ones1_seq (n - 1) (wr.heap.size + 1) (wd p k) hx W0 HcX.out) (Below.refl _ _) (fun _ => rfl)
        (InI J (doneP p k) k Gb W0) (fun c pre G W' => c = .ret ∧ InI Jx (doneP p k) k Gb W0 pre G W') (InI.sep HJ.out HG1.out) (fun c s G G' W W' h hk hG => ⟨h.1, InI.sep HJx.out HG1.out _ _ _ _ _ h.2 hk hG⟩) (fun s G W h => HK.out _ _ _ h.1) H00.out
      case hassign =>
        intro l2 x2 W2 K2 hK2
        have HK2 := hidIt hK2
        clear hK2
        simp only [encN]
        gi_wp2
        exact HK2.out
      case hbody =>
        intro l2 pre x2 G W2 hI hpre
        have hx2 : x2 < 64 := bitsOf_lt (hpre.subset (by simp))
        have hpre2 : (doneP p k ++ pre.map (fun j => 64 * k + j)) ++ [64 * k + x2] <+: nums b p := by
          rw [← HD.out]
          refine List.IsPrefix.trans ?_ (done_part p (show k + 1 ≤ nw b by omega))
          rw [done_succ, List.append_assoc, List.prefix_append_right_inj]
          have := hpre.map (fun j => 64 * k + j)
          simpa using this
        have hGY : Gb W.heap.size := by rw [HGb.out]; exact .inl rfl
        have hGB : Gb wr.heap.size := by rw [HGb.out]; exact .inr (.inr (.inl rfl))
        have cY : W2.cell? ⟨W.heap.size, 0, none⟩ = some (.func (.yield l) #[] #[]) := by
          have : W2.heap[W.heap.size]? = some (.cells #[.func (.yield l) #[] #[]] 41 (0, 0)) := (hI.2.1 _ hGY).trans (Hk0.out.at hst.out.box (fun h => h))
          simp [World.cell?, this]
        have cB : W2.cell? ⟨wr.heap.size, 0, none⟩ = some (.int .i64 k) := by
          have : W2.heap[wr.heap.size]? = some (.cells #[.int .i64 k] 3 (0, 0)) := (hI.2.1 _ hGB).trans HcB.out
          simp [World.cell?, this]
        obtain ⟨fn, tmps, assign, body, hy, hRd⟩ := HY.out _ _ _ _ hI.1 hpre2
        unfold encN at hy
        rw [show ((64 * k + x2 : Nat) : Int) = (k : Int) * 64 + (x2 : Int) from by omega] at hy
        have HR := hidIt hRd
        have HI := hidIt hI
        clear hRd hI hpre hpre2 hGY hGB hc hx hst
        gi_wp2
        refine ⟨fun h => by simp [Fence.wide] at h, round_any (HR.out.mono ?_)⟩
        clear HR hy
        have hJn : Hid (∀ (Jy : List Nat → (Nat → Prop) → World → Prop) W3, Jy ((doneP p k ++ pre.map (fun j => 64 * k + j)) ++ [64 * k + x2]) (fun j => Gb j ∨ G j) W3 → Kept (fun j => Gb j ∨ G j) W2 W3 → Kept G W2 W3 ∧ InI Jy (doneP p k) k Gb W0 (pre ++ [x2]) G W3) := by
          intro Jy W3 hj hkt
          refine ⟨⟨hkt.size, fun j hj1 hG => hkt.block j hj1 (.inr hG)⟩, ?_, fun j hj1 => ?_, Nat.le_trans HI.out.2.2.1 hkt.size, HI.out.2.2.2⟩
          · rw [List.map_append, List.map_singleton, ← List.append_assoc]
            exact hj
          · have hl := HG1.out j hj1
            have := HI.out.2.2.1
            rw [hkt.block j (by omega) (.inl hj1), HI.out.2.1 j hj1]
        clear cY cB
        rintro e W3 (⟨rfl, hJ3, hk3⟩ | ⟨rfl, hJx3, hk3⟩)
        · have HF := hidIt (hJn.out J W3 hJ3 hk3)
          clear hJ3 hk3 hJn HI
          gi_wp2
          exact HF.out
        · have HF := hidIt (hJn.out Jx W3 hJx3 hk3)
          clear hJx3 hk3 hJn HI
          gi_wp2
          exact ⟨HF.out.1, rfl, HF.out.2⟩
      case hdone =>
        intro D G W2 hD hGD hI hDo
        have hs0 := hs0'.out
        have HN : Hid (AllSt l b W.heap.size p J (k + 1) (D :: Ds) W2) := by
          have hGY : Gb W.heap.size := by rw [HGb.out]; exact .inl rfl
          have hGL : Gb (W.heap.size + 1) := by rw [HGb.out]; exact .inr (.inl rfl)
          have hGD2 : ∀ E ∈ Ds, Gb E := fun E hE => by rw [HGb.out]; exact .inr (.inr (.inr hE))
          refine ⟨?_, (hI.2.1 _ hGY).trans (Hk0.out.at hst.out.box (fun h => h)), (hI.2.1 _ hGL).trans (Hk0.out.at hst.out.row (fun h => h)), ?_, ?_⟩
          · rw [done_succ]
            refine HJ.out _ _ _ _ _ hI.1 (Kp.refl _ _) (fun j h => .inl ?_)
            rcases h with h | h | h
            · rw [h]; exact .inl hGY
            · rw [h]; exact .inl hGL
            · rcases List.mem_cons.1 h with h | h
              · rw [h]; exact .inr hGD
              · exact .inl (hGD2 j h)
          · rw [List.nodup_cons]
            exact ⟨fun hm => by have := HlD.out D hm; omega, hst.out.nodup⟩
          · intro E hE
            rcases List.mem_cons.1 hE with h | h
            · rw [h]; exact hDo
            · exact (hI.2.1 _ (hGD2 E h)).trans (Hk0.out.at (hst.out.marks E h) (fun h => h))
        have hsz2 : W.heap.size ≤ W2.heap.size := by have := hI.2.2.1; omega
        clear hI hst hc hx hDo hGD
        gi_wp2
        refine ⟨⟨k + 1, D :: Ds, _, _, _, _, _, _, _, _, _, by omega, HN, hsz2, rfl⟩, ?_⟩
        simp [intOf]
        omega
      case hstop =>
        rintro D c pre G W2 hD hGD hpre ⟨rfl, hI⟩ hDo
        have hs0 := hs0'.out
        have hGD2 : ∀ E ∈ Ds, Gb E := fun E hE => by rw [HGb.out]; exact .inr (.inr (.inr hE))
        have hN : Hid ((D :: Ds).Nodup ∧ (∀ E ∈ D :: Ds, W2.heap[E]? = some (.deferred (some [])))) := by
          refine ⟨?_, ?_⟩
          · rw [List.nodup_cons]
            exact ⟨fun hm => by have := HlD.out D hm; omega, hst.out.nodup⟩
          · intro E hE
            rcases List.mem_cons.1 hE with h | h
            · rw [h]; exact hDo
            · exact (hI.2.1 _ (hGD2 E h)).trans (Hk0.out.at (hst.out.marks E h) (fun h => h))
        have hF : Hid (∀ W', Kp (fun j => j ∈ D :: Ds) W2 W' → ∃ pre G, pre <+: nums b p ∧ Jx pre G W') := by
          intro W' hk'
          refine ⟨_, _, ?_, HJx.out _ _ _ _ _ hI.1 (hk'.mono fun j h => ?_) (fun j h => .inl h)⟩
          · rw [← HD.out]
            refine List.IsPrefix.trans ?_ (done_part p (show k + 1 ≤ nw b by omega))
            rw [done_succ, List.prefix_append_right_inj]
            exact hpre.map _
          · rcases List.mem_cons.1 h with h | h
            · rw [h]; exact .inr hGD
            · exact .inl (hGD2 j h)
        clear hI hst hc hx hDo hGD hGD2
        gi_wp2
        refine leaves_marks (D :: Ds) W2 hN.out.1 hN.out.2 fun W' hk' => ?_
        exact ⟨_, results_none rfl _ _ _, ⟨_, rfl⟩, .inr (hF.out W' hk')⟩
    · have he : k = nw b := by omega
      subst he
      have hF : Hid (∀ W', Kp (fun j => j ∈ Ds) wr W' → ∃ G, J (nums b p) G W') := by
        intro W' hk'
        have h1 := hst.out.told
        rw [HD.out] at h1
        exact ⟨_, HJ.out _ _ _ _ _ h1 (hk'.mono fun j h => .inr (.inr h)) (fun j h => .inl h)⟩
      have hN := hidIt (And.intro hst.out.nodup hst.out.marks)
      clear hst
      gi_wp2
      refine leaves_marks Ds wr hN.out.1 hN.out.2 fun W' hk' => ?_
      exact ⟨_, results_none rfl _ _ _, ⟨_, rfl⟩, .inl (hF.out W' hk')⟩
  refine wpIn_mono (Q := Exit.then K1 (fun _ _ _ => False)) ?_ (fun e a w h => by cases e <;> first | exact h | exact h.elim)
  gi_region_with_o (gi_at_call 34; refine (callsIn_wide.2 hla.out).mono ?_; rintro e w' ⟨rfl, hr, hk⟩)
  all_goals exact key w' (by have h := hr; rw [show ∀ x : World, x.drew.heap = x.heap from fun _ => rfl, World.size_alloc] at h; exact h) hk

theorem all1_seq (n Bn A g b : Nat) (p : Nat → Bool) (h1n : 1 ≤ n) (w : World) (hBn : w.cell? ⟨Bn, 0, none⟩ = some (.pointer (some ⟨A, 0, none⟩))) (hS : SetAt w A g b p) : SeqG n Tryd.prog 44 #[.pointer (some ⟨Bn, 0, none⟩)] encN Tab (nums b p) w :=
  fun l J Jx W hW hJ hJx hK hY h0 => all1_in n l Bn A g b p J Jx hJ hJx hK hY W ((hW.cell (p := ⟨Bn, 0, none⟩) (World.block_lt_of_cell? w _ hBn)).trans hBn) (hS.kept (Kp.of_below hW) (by have := hS.ltA; omega) (by have := hS.ltg; omega)) h0 h1n
end Go.Proofs.YtcaibfalhkhleaaDoor
