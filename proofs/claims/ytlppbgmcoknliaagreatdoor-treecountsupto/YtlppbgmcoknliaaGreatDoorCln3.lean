/-
  The walks of clonePlace and of what Clone calls.
-/
import Derived.Test.YtlppbgmcoknliaaGreatDoorCln2
namespace Go.Proofs.YtlppbgmcoknliaaGreatDoor
set_option linter.unusedVariables false
open Go.RowKit

theorem cs_any (a : Option Addr) (xs : List ByteArray) (c : Nat) (w : World) (h : St w a xs) :
 Calls Tryz.prog 86 #[.slice a xs.length c] w fun e w' => ∃ a' c', e = .returned (.slice a' xs.length c') ∧ xs.length ≤ c' ∧ (St w' a' xs ∧ NewA w.heap.size a' xs.length) ∧ Below w.heap.size w w' := by
 have := clone_string a (strs xs) c w h (by intro u hu; obtain ⟨r, hr, hu⟩ := List.mem_flatten.1 hu; obtain ⟨x, _, rfl⟩ := List.mem_map.1 hr; cases List.mem_singleton.1 hu; rfl)
 rw [strs_len] at this
 refine this.mono fun e w' ⟨a', c', h1, h2, h3, h4⟩ => ⟨a', c', h1, h2, ⟨h3.sl, ?_⟩, h4⟩
 have := h3.new
 rwa [strs_len] at this
theorem cv_any (a : Option Addr) (xs : List VarD) (c : Nat) (w : World) (h : Vrs w a xs) :
 Calls Tryz.prog 68 #[.slice a xs.length c] w fun e w' => ∃ a' c', e = .returned (.slice a' xs.length c') ∧ xs.length ≤ c' ∧ (Vrs w' a' xs ∧ NewA w.heap.size a' xs.length) ∧ Below w.heap.size w w' := by
 have := clone_var a (xs.map VarD.row) c w h (by intro u hu; obtain ⟨r, hr, hu⟩ := List.mem_flatten.1 hu; obtain ⟨x, _, rfl⟩ := List.mem_map.1 hr; simp only [VarD.row, List.mem_cons, List.not_mem_nil, or_false] at hu; rcases hu with rfl | rfl <;> rfl)
 rw [List.length_map] at this
 refine this.mono fun e w' ⟨a', c', h1, h2, h3, h4⟩ => ⟨a', c', h1, h2, ⟨h3.sl, ?_⟩, h4⟩
 have := h3.new
 rwa [List.length_map] at this
theorem cr_any (a : Option Addr) (xs : List ArmD) (c : Nat) (w : World) (h : Ars w a xs) :
 Calls Tryz.prog 180 #[.slice a xs.length c] w fun e w' => ∃ a' c', e = .returned (.slice a' xs.length c') ∧ xs.length ≤ c' ∧ (Ars w' a' xs ∧ NewA w.heap.size a' xs.length) ∧ Below w.heap.size w w' := by
 have := clone_arm a (xs.map ArmD.row) c w h (by intro u hu; obtain ⟨r, hr, hu⟩ := List.mem_flatten.1 hu; obtain ⟨x, _, rfl⟩ := List.mem_map.1 hr; simp only [ArmD.row, List.mem_cons, List.not_mem_nil, or_false] at hu; rcases hu with rfl | rfl | rfl <;> rfl)
 rw [List.length_map] at this
 refine this.mono fun e w' ⟨a', c', h1, h2, h3, h4⟩ => ⟨a', c', h1, h2, ⟨h3.sl, ?_⟩, h4⟩
 have := h3.new
 rwa [List.length_map] at this
theorem keepT {w w' : World} {L : Nat} {a : Option Addr} {xs : List StmtX} (h : Sts w a xs) (hn : NewA L a xs.length ∧ ∀ x ∈ xs, x.New L) (hk : Kps L w w') : Sts w' a xs := ⟨Sl.keep h.1 (by rw [List.length_map]; exact hn.1) hk, fun x hx => (h.2 x hx).keep (hn.2 x hx) hk⟩
theorem keepB {w w' : World} {L : Nat} {a : Option Addr} {xs : List BlockX} (h : Bls w a xs) (hn : NewA L a xs.length ∧ ∀ x ∈ xs, x.New L) (hk : Kps L w w') : Bls w' a xs := ⟨Sl.keep h.1 (by rw [List.length_map]; exact hn.1) hk, fun x hx => (h.2 x hx).keep (hn.2 x hx) hk⟩
theorem keepU {w w' : World} {L : Nat} {a : Option Addr} {xs : List StructX} (h : Strs w a xs) (hn : NewA L a xs.length ∧ ∀ x ∈ xs, x.New L) (hk : Kps L w w') : Strs w' a xs := ⟨Sl.keep h.1 (by rw [List.length_map]; exact hn.1) hk, fun x hx => (h.2 x hx).keep (hn.2 x hx) hk⟩
theorem keepE {w w' : World} {L : Nat} {a : Option Addr} {xs : List EnumX} (h : Ens w a xs) (hn : NewA L a xs.length ∧ ∀ x ∈ xs, x.New L) (hk : Kps L w w') : Ens w' a xs := ⟨Sl.keep h.1 (by rw [List.length_map]; exact hn.1) hk, fun x hx => (h.2 x hx).keep (hn.2 x hx) hk⟩
theorem keepF {w w' : World} {L : Nat} {a : Option Addr} {xs : List FuncX} (h : Fns w a xs) (hn : NewA L a xs.length ∧ ∀ x ∈ xs, x.New L) (hk : Kps L w w') : Fns w' a xs := ⟨Sl.keep h.1 (by rw [List.length_map]; exact hn.1) hk, fun x hx => (h.2 x hx).keep (hn.2 x hx) hk⟩
theorem lt_of_block {w : World} {b : Nat} {o : Obj} (h : w.heap[b]? = some o) : b + 1 ≤ w.heap.size := (Array.getElem?_eq_some_iff.1 h).1

set_option maxHeartbeats 2000000 in
set_option maxRecDepth 100000 in
theorem clone_p (x : PlaceX) (w : World) (hx : x.At w) :
 Calls Tryz.prog 75 #[.agg #[.string x.loc, .slice x.sa x.steps.length x.sc]] w fun e w' => ∃ y : PlaceX, e = .returned (.agg #[.string y.loc, .slice y.sa y.steps.length y.sc]) ∧ y.d = x.d ∧ (y.At w' ∧ y.New w.heap.size) ∧ Below w.heap.size w w' := by
 have c0c : Hid (∀ W, Below w.heap.size w W → Calls Tryz.prog 86 #[.slice x.sa x.steps.length x.sc] W fun e w' => ∃ a' c', e = .returned (.slice a' x.steps.length c') ∧ x.steps.length ≤ c' ∧ (St w' a' x.steps ∧ NewA W.heap.size a' x.steps.length) ∧ Below W.heap.size W w') := hidIt fun W hW => cs_any _ _ _ W (St.on hx hW)
 clear hx
 have hb := hidIt (below_next (below_new w (.cells #[.string x.loc, .slice x.sa x.steps.length x.sc] 24)) (below_new _ (.cells #[.string ⟨#[]⟩, .slice none 0 0] 24)))
 obtain ⟨hh1, hh2⟩ := two_at (w := w) (cs := #[.string x.loc, .slice x.sa x.steps.length x.sc]) (ds := #[.string ⟨#[]⟩, .slice none 0 0]) (t := 24) (u := 24) rfl rfl (Below.refl _ _)
 have H1 := hidIt hh1
 have H2 := hidIt hh2
 clear hh1 hh2
 go_enter Tryz.func75, Tryz.ntmps75
 have SZ := hidIt (lt_of_block H2.out)
 go_wp2_with (go_at_call 86; refine (c0c.out _ hb.out).mono ?_)
 rintro e w0 ⟨a0, c0, rfl, l0, ⟨s0, n0⟩, hq⟩
 have hb := hidIt (below_next hb.out hq)
 have H1 := hidIt (heap_on H1.out hq)
 have H2 := hidIt (heap_on H2.out hq)
 have A0 : Hid (St w0 a0 x.steps ∧ NewA (w.heap.size + 2) a0 x.steps.length) := hidIt ⟨s0, NewA.mono n0 SZ.out⟩
 clear hq c0c s0 n0 SZ  l0
 obtain ⟨p0, p1⟩ := cells_2 H1.out
 have k1 : w0.frozen? ⟨w.heap.size, 1, none⟩ = false := frozen_at H1.out 1
 have r0 : w0.cell? ⟨w.heap.size + 1, 0, none⟩ = some (.string ⟨#[]⟩) := cell_at H2.out 0
 have u0 : w0.frozen? ⟨w.heap.size + 1, 0, none⟩ = false := frozen_at H2.out 0
 have r1 : w0.cell? ⟨w.heap.size + 1, 1, none⟩ = some (.slice none 0 0) := cell_at H2.out 1
 have u1 : w0.frozen? ⟨w.heap.size + 1, 1, none⟩ = false := frozen_at H2.out 1
 go_wp2
 (try simp only [Exit.inBlock, Exit.then])
 refine bodyPost_ret (show _ = Result.ok (.agg #[.string x.loc, .slice a0 x.steps.length c0]) _ by simp [results, Tryz.results75, go_sem, r0, r1]) rfl ?_
 clear p0 r0 u0 p1 r1 u1 k1 H1 H2
 have KF : ∀ W', Kps (w.heap.size + 2) w0 W' → (St W' a0 x.steps) := fun W' hK => keepS A0.out.1 A0.out.2 hK
 have hle : w.heap.size ≤ w.heap.size + 2 := Nat.le_add_right _ _
 have AN : ∀ W', Kps (w.heap.size + 2) w0 W' → ((⟨x.loc, a0, c0, x.steps⟩ : PlaceX).At W' ∧ (⟨x.loc, a0, c0, x.steps⟩ : PlaceX).New w.heap.size) := fun W' hK => by
  have := KF W' hK
  exact ⟨this, A0.out.2.mono hle⟩
 clear KF
 refine ⟨⟨x.loc, a0, c0, x.steps⟩, ?_, rfl, AN _ ?_, ?_⟩
 · exact rfl
 · skip
   refine Kps.set (a := ⟨w.heap.size + 1, 1, none⟩) ?_ (show w.heap.size + 1 < w.heap.size + 2 by omega) _
   refine Kps.set (a := ⟨w.heap.size + 1, 0, none⟩) ?_ (show w.heap.size + 1 < w.heap.size + 2 by omega) _
   refine Kps.set (a := ⟨w.heap.size, 1, none⟩) ?_ (show w.heap.size < w.heap.size + 2 by omega) _
   exact Kps.refl _ _
 · skip
   refine Below.setCell (p := ⟨w.heap.size + 1, 1, none⟩) ?_ (Nat.le_succ _) _
   refine Below.setCell (p := ⟨w.heap.size + 1, 0, none⟩) ?_ (Nat.le_succ _) _
   refine below_put ?_ 1 _
   exact hb.out

set_option maxHeartbeats 2000000 in
set_option maxRecDepth 100000 in
theorem clone_s (x : StmtX) (w : World) (hx : x.At w) :
 Calls Tryz.prog 148 #[.agg #[.int .i64 x.at_, .int .i64 x.kind, .string x.to.loc, .slice x.to.sa x.to.steps.length x.to.sc, .int .i64 x.n, .string x.name, .string x.variant, .slice x.aa x.args.length x.ac]] w fun e w' => ∃ y : StmtX, e = .returned (.agg #[.int .i64 y.at_, .int .i64 y.kind, .string y.to.loc, .slice y.to.sa y.to.steps.length y.to.sc, .int .i64 y.n, .string y.name, .string y.variant, .slice y.aa y.args.length y.ac]) ∧ y.d = x.d ∧ (y.At w' ∧ y.New w.heap.size) ∧ Below w.heap.size w w' := by
 have c0c : Hid (∀ W, Below w.heap.size w W → Calls Tryz.prog 75 #[.agg #[.string x.to.loc, .slice x.to.sa x.to.steps.length x.to.sc]] W fun e w' => ∃ y : PlaceX, e = .returned (.agg #[.string y.loc, .slice y.sa y.steps.length y.sc]) ∧ y.d = x.to.d ∧ (y.At w' ∧ y.New W.heap.size) ∧ Below W.heap.size W w') := hidIt fun W hW => clone_p x.to W (PlaceX.At.on hx.1 hW)
 have c1c : Hid (∀ W, Below w.heap.size w W → Calls Tryz.prog 150 #[.slice x.aa x.args.length x.ac, .func (.func 75) #[] #[]] W fun e w' => ∃ a' c' ys, e = .returned (.slice a' x.args.length c') ∧ ys.length = x.args.length ∧ ys.map PlaceX.d = x.args.map PlaceX.d ∧ (Pls w' a' ys ∧ (NewA W.heap.size a' ys.length ∧ ∀ y ∈ ys, y.New W.heap.size)) ∧ Below W.heap.size W w') := hidIt fun W hW => (anew_place _ _ _ W (hx.2.on hW) fun W2 p hp hW2 => (clone_p p W2 ((PlaceX.At.on (hx.2.2 p hp) hW).on hW2)).mono fun e w1 ⟨y, h1, h2, h3, h4⟩ => ⟨y, h1, h2, h3.1, h3.2, h4⟩).mono fun e w1 ⟨a, c, ys, h1, h2, h3, h4, h5, h6⟩ => ⟨a, c, ys, h1, h2, h3, ⟨h4, h5⟩, h6⟩
 clear hx
 have hb := hidIt (below_next (below_new w (.cells #[.int .i64 x.at_, .int .i64 x.kind, .string x.to.loc, .slice x.to.sa x.to.steps.length x.to.sc, .int .i64 x.n, .string x.name, .string x.variant, .slice x.aa x.args.length x.ac] 68)) (below_new _ (.cells #[.int .i64 0, .int .i64 0, .string ⟨#[]⟩, .slice none 0 0, .int .i64 0, .string ⟨#[]⟩, .string ⟨#[]⟩, .slice none 0 0] 68)))
 obtain ⟨hh1, hh2⟩ := two_at (w := w) (cs := #[.int .i64 x.at_, .int .i64 x.kind, .string x.to.loc, .slice x.to.sa x.to.steps.length x.to.sc, .int .i64 x.n, .string x.name, .string x.variant, .slice x.aa x.args.length x.ac]) (ds := #[.int .i64 0, .int .i64 0, .string ⟨#[]⟩, .slice none 0 0, .int .i64 0, .string ⟨#[]⟩, .string ⟨#[]⟩, .slice none 0 0]) (t := 68) (u := 68) rfl rfl (Below.refl _ _)
 have H1 := hidIt hh1
 have H2 := hidIt hh2
 clear hh1 hh2
 go_enter Tryz.func148, Tryz.ntmps148
 have SZ := hidIt (lt_of_block H2.out)
 go_wp2_with (go_at_call 75; refine (c0c.out _ hb.out).mono ?_)
 rintro e w0 ⟨y0, rfl, d0, ⟨s0, n0⟩, hq⟩
 have hb := hidIt (below_next hb.out hq)
 have H1 := hidIt (heap_on H1.out hq)
 have H2 := hidIt (heap_on H2.out hq)
 have A0 : Hid (y0.At w0 ∧ y0.New (w.heap.size + 2)) := hidIt ⟨s0, PlaceX.New.mono n0 SZ.out⟩
 have D0 := hidIt d0
 clear hq c0c s0 n0 SZ d0 
 obtain ⟨p0, p1, p2, p3, p4, p5, p6, p7⟩ := cells_8 H1.out
 have k2 : w0.frozen? ⟨w.heap.size, 2, none⟩ = false := frozen_at H1.out 2
 have k3 : w0.frozen? ⟨w.heap.size, 3, none⟩ = false := frozen_at H1.out 3
 have H2 : Hid ((w0.setCell ⟨w.heap.size, 2, none⟩ (.string y0.loc)).heap[w.heap.size + 1]? = some (.cells #[.int .i64 0, .int .i64 0, .string ⟨#[]⟩, .slice none 0 0, .int .i64 0, .string ⟨#[]⟩, .string ⟨#[]⟩, .slice none 0 0] 68 (0, 0))) := hidIt ((Below.heap_setCell _ _ _ _ (by show w.heap.size + 1 ≠ w.heap.size; omega)).trans H2.out)
 have H1 : Hid ((w0.setCell ⟨w.heap.size, 2, none⟩ (.string y0.loc)).heap[w.heap.size]? = some (.cells #[.int .i64 x.at_, .int .i64 x.kind, .string y0.loc, .slice x.to.sa x.to.steps.length x.to.sc, .int .i64 x.n, .string x.name, .string x.variant, .slice x.aa x.args.length x.ac] 68 (0, 0))) := hidIt (by rw [block_set H1.out]; rfl)
 have hb := hidIt (below_put hb.out 2 (.string y0.loc))
 have H2 : Hid (((w0.setCell ⟨w.heap.size, 2, none⟩ (.string y0.loc)).setCell ⟨w.heap.size, 3, none⟩ (.slice y0.sa y0.steps.length y0.sc)).heap[w.heap.size + 1]? = some (.cells #[.int .i64 0, .int .i64 0, .string ⟨#[]⟩, .slice none 0 0, .int .i64 0, .string ⟨#[]⟩, .string ⟨#[]⟩, .slice none 0 0] 68 (0, 0))) := hidIt ((Below.heap_setCell _ _ _ _ (by show w.heap.size + 1 ≠ w.heap.size; omega)).trans H2.out)
 have H1 : Hid (((w0.setCell ⟨w.heap.size, 2, none⟩ (.string y0.loc)).setCell ⟨w.heap.size, 3, none⟩ (.slice y0.sa y0.steps.length y0.sc)).heap[w.heap.size]? = some (.cells #[.int .i64 x.at_, .int .i64 x.kind, .string y0.loc, .slice y0.sa y0.steps.length y0.sc, .int .i64 x.n, .string x.name, .string x.variant, .slice x.aa x.args.length x.ac] 68 (0, 0))) := hidIt (by rw [block_set H1.out]; rfl)
 have hb := hidIt (below_put hb.out 3 (.slice y0.sa y0.steps.length y0.sc))
 have HK : Hid (Kps (w.heap.size + 2) w0 ((w0.setCell ⟨w.heap.size, 2, none⟩ (.string y0.loc)).setCell ⟨w.heap.size, 3, none⟩ (.slice y0.sa y0.steps.length y0.sc))) := hidIt (Kps.set (Kps.set (Kps.refl _ _) (show w.heap.size < w.heap.size + 2 by omega) _) (show w.heap.size < w.heap.size + 2 by omega) _)
 have SZ := hidIt (lt_of_block H2.out)
 go_wp2_with (go_at_call 150; refine (c1c.out _ hb.out).mono ?_)
 rintro e w1 ⟨a1, c1, ys1, rfl, l1, d1, ⟨s1, n1⟩, hq⟩
 have hb := hidIt (below_next hb.out hq)
 have H1 := hidIt (heap_on H1.out hq)
 have H2 := hidIt (heap_on H2.out hq)
 have A0 : Hid (y0.At w1 ∧ y0.New (w.heap.size + 2)) := hidIt ⟨PlaceX.At.on (PlaceX.At.keep A0.out.1 A0.out.2 HK.out) hq, A0.out.2⟩
 have A1 : Hid (Pls w1 a1 ys1 ∧ (NewA (w.heap.size + 2) a1 ys1.length ∧ ∀ y ∈ ys1, y.New (w.heap.size + 2))) := hidIt ⟨s1, And.intro (n1.1.mono SZ.out) fun y hy => (n1.2 y hy).mono SZ.out⟩
 have L1 := hidIt l1
 have D1 := hidIt d1
 clear hq c1c s1 n1 SZ HK l1 d1 
 obtain ⟨p0, p1, p2, p3, p4, p5, p6, p7⟩ := cells_8 H1.out
 have k7 : w1.frozen? ⟨w.heap.size, 7, none⟩ = false := frozen_at H1.out 7
 have r0 : w1.cell? ⟨w.heap.size + 1, 0, none⟩ = some (.int .i64 0) := cell_at H2.out 0
 have u0 : w1.frozen? ⟨w.heap.size + 1, 0, none⟩ = false := frozen_at H2.out 0
 have r1 : w1.cell? ⟨w.heap.size + 1, 1, none⟩ = some (.int .i64 0) := cell_at H2.out 1
 have u1 : w1.frozen? ⟨w.heap.size + 1, 1, none⟩ = false := frozen_at H2.out 1
 have r2 : w1.cell? ⟨w.heap.size + 1, 2, none⟩ = some (.string ⟨#[]⟩) := cell_at H2.out 2
 have u2 : w1.frozen? ⟨w.heap.size + 1, 2, none⟩ = false := frozen_at H2.out 2
 have r3 : w1.cell? ⟨w.heap.size + 1, 3, none⟩ = some (.slice none 0 0) := cell_at H2.out 3
 have u3 : w1.frozen? ⟨w.heap.size + 1, 3, none⟩ = false := frozen_at H2.out 3
 have r4 : w1.cell? ⟨w.heap.size + 1, 4, none⟩ = some (.int .i64 0) := cell_at H2.out 4
 have u4 : w1.frozen? ⟨w.heap.size + 1, 4, none⟩ = false := frozen_at H2.out 4
 have r5 : w1.cell? ⟨w.heap.size + 1, 5, none⟩ = some (.string ⟨#[]⟩) := cell_at H2.out 5
 have u5 : w1.frozen? ⟨w.heap.size + 1, 5, none⟩ = false := frozen_at H2.out 5
 have r6 : w1.cell? ⟨w.heap.size + 1, 6, none⟩ = some (.string ⟨#[]⟩) := cell_at H2.out 6
 have u6 : w1.frozen? ⟨w.heap.size + 1, 6, none⟩ = false := frozen_at H2.out 6
 have r7 : w1.cell? ⟨w.heap.size + 1, 7, none⟩ = some (.slice none 0 0) := cell_at H2.out 7
 have u7 : w1.frozen? ⟨w.heap.size + 1, 7, none⟩ = false := frozen_at H2.out 7
 go_wp2
 (try simp only [Exit.inBlock, Exit.then])
 refine bodyPost_ret (show _ = Result.ok (.agg #[.int .i64 x.at_, .int .i64 x.kind, .string y0.loc, .slice y0.sa y0.steps.length y0.sc, .int .i64 x.n, .string x.name, .string x.variant, .slice a1 x.args.length c1]) _ by simp [results, Tryz.results148, go_sem, r0, r1, r2, r3, r4, r5, r6, r7]) rfl ?_
 clear p0 r0 u0 p1 r1 u1 p2 r2 u2 p3 r3 u3 p4 r4 u4 p5 r5 u5 p6 r6 u6 p7 r7 u7 k7 H1 H2
 have KF : ∀ W', Kps (w.heap.size + 2) w1 W' → (y0.At W') ∧ (Pls W' a1 ys1) := fun W' hK => ⟨PlaceX.At.keep A0.out.1 A0.out.2 hK, keepP A1.out.1 A1.out.2 hK⟩
 have hle : w.heap.size ≤ w.heap.size + 2 := Nat.le_add_right _ _
 have AN : ∀ W', Kps (w.heap.size + 2) w1 W' → ((⟨x.at_, x.kind, y0, x.n, x.name, x.variant, a1, c1, ys1⟩ : StmtX).At W' ∧ (⟨x.at_, x.kind, y0, x.n, x.name, x.variant, a1, c1, ys1⟩ : StmtX).New w.heap.size) := fun W' hK => by
  have := KF W' hK
  exact ⟨⟨this.1, this.2⟩, ⟨A0.out.2.mono hle, ⟨A1.out.2.1.mono hle, fun y hy => (A1.out.2.2 y hy).mono hle⟩⟩⟩
 clear KF
 refine ⟨⟨x.at_, x.kind, y0, x.n, x.name, x.variant, a1, c1, ys1⟩, ?_, by simp only [StmtX.d, D0.out, D1.out], AN _ ?_, ?_⟩
 · exact by simp [L1.out]
 · skip
   refine Kps.set (a := ⟨w.heap.size + 1, 7, none⟩) ?_ (show w.heap.size + 1 < w.heap.size + 2 by omega) _
   refine Kps.set (a := ⟨w.heap.size + 1, 6, none⟩) ?_ (show w.heap.size + 1 < w.heap.size + 2 by omega) _
   refine Kps.set (a := ⟨w.heap.size + 1, 5, none⟩) ?_ (show w.heap.size + 1 < w.heap.size + 2 by omega) _
   refine Kps.set (a := ⟨w.heap.size + 1, 4, none⟩) ?_ (show w.heap.size + 1 < w.heap.size + 2 by omega) _
   refine Kps.set (a := ⟨w.heap.size + 1, 3, none⟩) ?_ (show w.heap.size + 1 < w.heap.size + 2 by omega) _
   refine Kps.set (a := ⟨w.heap.size + 1, 2, none⟩) ?_ (show w.heap.size + 1 < w.heap.size + 2 by omega) _
   refine Kps.set (a := ⟨w.heap.size + 1, 1, none⟩) ?_ (show w.heap.size + 1 < w.heap.size + 2 by omega) _
   refine Kps.set (a := ⟨w.heap.size + 1, 0, none⟩) ?_ (show w.heap.size + 1 < w.heap.size + 2 by omega) _
   refine Kps.set (a := ⟨w.heap.size, 7, none⟩) ?_ (show w.heap.size < w.heap.size + 2 by omega) _
   exact Kps.refl _ _
 · skip
   refine Below.setCell (p := ⟨w.heap.size + 1, 7, none⟩) ?_ (Nat.le_succ _) _
   refine Below.setCell (p := ⟨w.heap.size + 1, 6, none⟩) ?_ (Nat.le_succ _) _
   refine Below.setCell (p := ⟨w.heap.size + 1, 5, none⟩) ?_ (Nat.le_succ _) _
   refine Below.setCell (p := ⟨w.heap.size + 1, 4, none⟩) ?_ (Nat.le_succ _) _
   refine Below.setCell (p := ⟨w.heap.size + 1, 3, none⟩) ?_ (Nat.le_succ _) _
   refine Below.setCell (p := ⟨w.heap.size + 1, 2, none⟩) ?_ (Nat.le_succ _) _
   refine Below.setCell (p := ⟨w.heap.size + 1, 1, none⟩) ?_ (Nat.le_succ _) _
   refine Below.setCell (p := ⟨w.heap.size + 1, 0, none⟩) ?_ (Nat.le_succ _) _
   refine below_put ?_ 7 _
   exact hb.out

set_option maxHeartbeats 2000000 in
set_option maxRecDepth 100000 in
theorem clone_t (x : TermX) (w : World) (hx : x.At w) :
 Calls Tryz.prog 149 #[.agg #[.int .i64 x.at_, .int .i64 x.kind, .string x.to.loc, .slice x.to.sa x.to.steps.length x.to.sc, .string x.name, .slice x.aa x.args.length x.ac, .slice x.ba x.blocks.length x.bc, .slice x.ra x.arms.length x.rc]] w fun e w' => ∃ y : TermX, e = .returned (.agg #[.int .i64 y.at_, .int .i64 y.kind, .string y.to.loc, .slice y.to.sa y.to.steps.length y.to.sc, .string y.name, .slice y.aa y.args.length y.ac, .slice y.ba y.blocks.length y.bc, .slice y.ra y.arms.length y.rc]) ∧ y.d = x.d ∧ (y.At w' ∧ y.New w.heap.size) ∧ Below w.heap.size w w' := by
 have c0c : Hid (∀ W, Below w.heap.size w W → Calls Tryz.prog 75 #[.agg #[.string x.to.loc, .slice x.to.sa x.to.steps.length x.to.sc]] W fun e w' => ∃ y : PlaceX, e = .returned (.agg #[.string y.loc, .slice y.sa y.steps.length y.sc]) ∧ y.d = x.to.d ∧ (y.At w' ∧ y.New W.heap.size) ∧ Below W.heap.size W w') := hidIt fun W hW => clone_p x.to W (PlaceX.At.on hx.1 hW)
 have c1c : Hid (∀ W, Below w.heap.size w W → Calls Tryz.prog 150 #[.slice x.aa x.args.length x.ac, .func (.func 75) #[] #[]] W fun e w' => ∃ a' c' ys, e = .returned (.slice a' x.args.length c') ∧ ys.length = x.args.length ∧ ys.map PlaceX.d = x.args.map PlaceX.d ∧ (Pls w' a' ys ∧ (NewA W.heap.size a' ys.length ∧ ∀ y ∈ ys, y.New W.heap.size)) ∧ Below W.heap.size W w') := hidIt fun W hW => (anew_place _ _ _ W (hx.2.1.on hW) fun W2 p hp hW2 => (clone_p p W2 ((PlaceX.At.on (hx.2.1.2 p hp) hW).on hW2)).mono fun e w1 ⟨y, h1, h2, h3, h4⟩ => ⟨y, h1, h2, h3.1, h3.2, h4⟩).mono fun e w1 ⟨a, c, ys, h1, h2, h3, h4, h5, h6⟩ => ⟨a, c, ys, h1, h2, h3, ⟨h4, h5⟩, h6⟩
 have c2c : Hid (∀ W, Below w.heap.size w W → Calls Tryz.prog 86 #[.slice x.ba x.blocks.length x.bc] W fun e w' => ∃ a' c', e = .returned (.slice a' x.blocks.length c') ∧ x.blocks.length ≤ c' ∧ (St w' a' x.blocks ∧ NewA W.heap.size a' x.blocks.length) ∧ Below W.heap.size W w') := hidIt fun W hW => cs_any _ _ _ W (hx.2.2.1.on hW)
 have c3c : Hid (∀ W, Below w.heap.size w W → Calls Tryz.prog 180 #[.slice x.ra x.arms.length x.rc] W fun e w' => ∃ a' c', e = .returned (.slice a' x.arms.length c') ∧ x.arms.length ≤ c' ∧ (Ars w' a' x.arms ∧ NewA W.heap.size a' x.arms.length) ∧ Below W.heap.size W w') := hidIt fun W hW => cr_any _ _ _ W (hx.2.2.2.on hW)
 clear hx
 have hb := hidIt (below_next (below_new w (.cells #[.int .i64 x.at_, .int .i64 x.kind, .string x.to.loc, .slice x.to.sa x.to.steps.length x.to.sc, .string x.name, .slice x.aa x.args.length x.ac, .slice x.ba x.blocks.length x.bc, .slice x.ra x.arms.length x.rc] 61)) (below_new _ (.cells #[.int .i64 0, .int .i64 0, .string ⟨#[]⟩, .slice none 0 0, .string ⟨#[]⟩, .slice none 0 0, .slice none 0 0, .slice none 0 0] 61)))
 obtain ⟨hh1, hh2⟩ := two_at (w := w) (cs := #[.int .i64 x.at_, .int .i64 x.kind, .string x.to.loc, .slice x.to.sa x.to.steps.length x.to.sc, .string x.name, .slice x.aa x.args.length x.ac, .slice x.ba x.blocks.length x.bc, .slice x.ra x.arms.length x.rc]) (ds := #[.int .i64 0, .int .i64 0, .string ⟨#[]⟩, .slice none 0 0, .string ⟨#[]⟩, .slice none 0 0, .slice none 0 0, .slice none 0 0]) (t := 61) (u := 61) rfl rfl (Below.refl _ _)
 have H1 := hidIt hh1
 have H2 := hidIt hh2
 clear hh1 hh2
 go_enter Tryz.func149, Tryz.ntmps149
 have SZ := hidIt (lt_of_block H2.out)
 go_wp2_with (go_at_call 75; refine (c0c.out _ hb.out).mono ?_)
 rintro e w0 ⟨y0, rfl, d0, ⟨s0, n0⟩, hq⟩
 have hb := hidIt (below_next hb.out hq)
 have H1 := hidIt (heap_on H1.out hq)
 have H2 := hidIt (heap_on H2.out hq)
 have A0 : Hid (y0.At w0 ∧ y0.New (w.heap.size + 2)) := hidIt ⟨s0, PlaceX.New.mono n0 SZ.out⟩
 have D0 := hidIt d0
 clear hq c0c s0 n0 SZ d0 
 obtain ⟨p0, p1, p2, p3, p4, p5, p6, p7⟩ := cells_8 H1.out
 have k2 : w0.frozen? ⟨w.heap.size, 2, none⟩ = false := frozen_at H1.out 2
 have k3 : w0.frozen? ⟨w.heap.size, 3, none⟩ = false := frozen_at H1.out 3
 have H2 : Hid ((w0.setCell ⟨w.heap.size, 2, none⟩ (.string y0.loc)).heap[w.heap.size + 1]? = some (.cells #[.int .i64 0, .int .i64 0, .string ⟨#[]⟩, .slice none 0 0, .string ⟨#[]⟩, .slice none 0 0, .slice none 0 0, .slice none 0 0] 61 (0, 0))) := hidIt ((Below.heap_setCell _ _ _ _ (by show w.heap.size + 1 ≠ w.heap.size; omega)).trans H2.out)
 have H1 : Hid ((w0.setCell ⟨w.heap.size, 2, none⟩ (.string y0.loc)).heap[w.heap.size]? = some (.cells #[.int .i64 x.at_, .int .i64 x.kind, .string y0.loc, .slice x.to.sa x.to.steps.length x.to.sc, .string x.name, .slice x.aa x.args.length x.ac, .slice x.ba x.blocks.length x.bc, .slice x.ra x.arms.length x.rc] 61 (0, 0))) := hidIt (by rw [block_set H1.out]; rfl)
 have hb := hidIt (below_put hb.out 2 (.string y0.loc))
 have H2 : Hid (((w0.setCell ⟨w.heap.size, 2, none⟩ (.string y0.loc)).setCell ⟨w.heap.size, 3, none⟩ (.slice y0.sa y0.steps.length y0.sc)).heap[w.heap.size + 1]? = some (.cells #[.int .i64 0, .int .i64 0, .string ⟨#[]⟩, .slice none 0 0, .string ⟨#[]⟩, .slice none 0 0, .slice none 0 0, .slice none 0 0] 61 (0, 0))) := hidIt ((Below.heap_setCell _ _ _ _ (by show w.heap.size + 1 ≠ w.heap.size; omega)).trans H2.out)
 have H1 : Hid (((w0.setCell ⟨w.heap.size, 2, none⟩ (.string y0.loc)).setCell ⟨w.heap.size, 3, none⟩ (.slice y0.sa y0.steps.length y0.sc)).heap[w.heap.size]? = some (.cells #[.int .i64 x.at_, .int .i64 x.kind, .string y0.loc, .slice y0.sa y0.steps.length y0.sc, .string x.name, .slice x.aa x.args.length x.ac, .slice x.ba x.blocks.length x.bc, .slice x.ra x.arms.length x.rc] 61 (0, 0))) := hidIt (by rw [block_set H1.out]; rfl)
 have hb := hidIt (below_put hb.out 3 (.slice y0.sa y0.steps.length y0.sc))
 have HK : Hid (Kps (w.heap.size + 2) w0 ((w0.setCell ⟨w.heap.size, 2, none⟩ (.string y0.loc)).setCell ⟨w.heap.size, 3, none⟩ (.slice y0.sa y0.steps.length y0.sc))) := hidIt (Kps.set (Kps.set (Kps.refl _ _) (show w.heap.size < w.heap.size + 2 by omega) _) (show w.heap.size < w.heap.size + 2 by omega) _)
 have SZ := hidIt (lt_of_block H2.out)
 go_wp2_with (go_at_call 150; refine (c1c.out _ hb.out).mono ?_)
 rintro e w1 ⟨a1, c1, ys1, rfl, l1, d1, ⟨s1, n1⟩, hq⟩
 have hb := hidIt (below_next hb.out hq)
 have H1 := hidIt (heap_on H1.out hq)
 have H2 := hidIt (heap_on H2.out hq)
 have A0 : Hid (y0.At w1 ∧ y0.New (w.heap.size + 2)) := hidIt ⟨PlaceX.At.on (PlaceX.At.keep A0.out.1 A0.out.2 HK.out) hq, A0.out.2⟩
 have A1 : Hid (Pls w1 a1 ys1 ∧ (NewA (w.heap.size + 2) a1 ys1.length ∧ ∀ y ∈ ys1, y.New (w.heap.size + 2))) := hidIt ⟨s1, And.intro (n1.1.mono SZ.out) fun y hy => (n1.2 y hy).mono SZ.out⟩
 have L1 := hidIt l1
 have D1 := hidIt d1
 clear hq c1c s1 n1 SZ HK l1 d1 
 obtain ⟨p0, p1, p2, p3, p4, p5, p6, p7⟩ := cells_8 H1.out
 have k5 : w1.frozen? ⟨w.heap.size, 5, none⟩ = false := frozen_at H1.out 5
 have H2 : Hid ((w1.setCell ⟨w.heap.size, 5, none⟩ (.slice a1 x.args.length c1)).heap[w.heap.size + 1]? = some (.cells #[.int .i64 0, .int .i64 0, .string ⟨#[]⟩, .slice none 0 0, .string ⟨#[]⟩, .slice none 0 0, .slice none 0 0, .slice none 0 0] 61 (0, 0))) := hidIt ((Below.heap_setCell _ _ _ _ (by show w.heap.size + 1 ≠ w.heap.size; omega)).trans H2.out)
 have H1 : Hid ((w1.setCell ⟨w.heap.size, 5, none⟩ (.slice a1 x.args.length c1)).heap[w.heap.size]? = some (.cells #[.int .i64 x.at_, .int .i64 x.kind, .string y0.loc, .slice y0.sa y0.steps.length y0.sc, .string x.name, .slice a1 x.args.length c1, .slice x.ba x.blocks.length x.bc, .slice x.ra x.arms.length x.rc] 61 (0, 0))) := hidIt (by rw [block_set H1.out]; rfl)
 have hb := hidIt (below_put hb.out 5 (.slice a1 x.args.length c1))
 have HK : Hid (Kps (w.heap.size + 2) w1 (w1.setCell ⟨w.heap.size, 5, none⟩ (.slice a1 x.args.length c1))) := hidIt (Kps.set (Kps.refl _ _) (show w.heap.size < w.heap.size + 2 by omega) _)
 have SZ := hidIt (lt_of_block H2.out)
 go_wp2_with (go_at_call 86; refine (c2c.out _ hb.out).mono ?_)
 rintro e w2 ⟨a2, c2, rfl, l2, ⟨s2, n2⟩, hq⟩
 have hb := hidIt (below_next hb.out hq)
 have H1 := hidIt (heap_on H1.out hq)
 have H2 := hidIt (heap_on H2.out hq)
 have A0 : Hid (y0.At w2 ∧ y0.New (w.heap.size + 2)) := hidIt ⟨PlaceX.At.on (PlaceX.At.keep A0.out.1 A0.out.2 HK.out) hq, A0.out.2⟩
 have A1 : Hid (Pls w2 a1 ys1 ∧ (NewA (w.heap.size + 2) a1 ys1.length ∧ ∀ y ∈ ys1, y.New (w.heap.size + 2))) := hidIt ⟨Pls.on (keepP A1.out.1 A1.out.2 HK.out) hq, A1.out.2⟩
 have A2 : Hid (St w2 a2 x.blocks ∧ NewA (w.heap.size + 2) a2 x.blocks.length) := hidIt ⟨s2, NewA.mono n2 SZ.out⟩
 clear hq c2c s2 n2 SZ HK  l2
 obtain ⟨p0, p1, p2, p3, p4, p5, p6, p7⟩ := cells_8 H1.out
 have k6 : w2.frozen? ⟨w.heap.size, 6, none⟩ = false := frozen_at H1.out 6
 have H2 : Hid ((w2.setCell ⟨w.heap.size, 6, none⟩ (.slice a2 x.blocks.length c2)).heap[w.heap.size + 1]? = some (.cells #[.int .i64 0, .int .i64 0, .string ⟨#[]⟩, .slice none 0 0, .string ⟨#[]⟩, .slice none 0 0, .slice none 0 0, .slice none 0 0] 61 (0, 0))) := hidIt ((Below.heap_setCell _ _ _ _ (by show w.heap.size + 1 ≠ w.heap.size; omega)).trans H2.out)
 have H1 : Hid ((w2.setCell ⟨w.heap.size, 6, none⟩ (.slice a2 x.blocks.length c2)).heap[w.heap.size]? = some (.cells #[.int .i64 x.at_, .int .i64 x.kind, .string y0.loc, .slice y0.sa y0.steps.length y0.sc, .string x.name, .slice a1 x.args.length c1, .slice a2 x.blocks.length c2, .slice x.ra x.arms.length x.rc] 61 (0, 0))) := hidIt (by rw [block_set H1.out]; rfl)
 have hb := hidIt (below_put hb.out 6 (.slice a2 x.blocks.length c2))
 have HK : Hid (Kps (w.heap.size + 2) w2 (w2.setCell ⟨w.heap.size, 6, none⟩ (.slice a2 x.blocks.length c2))) := hidIt (Kps.set (Kps.refl _ _) (show w.heap.size < w.heap.size + 2 by omega) _)
 have SZ := hidIt (lt_of_block H2.out)
 go_wp2_with (go_at_call 180; refine (c3c.out _ hb.out).mono ?_)
 rintro e w3 ⟨a3, c3, rfl, l3, ⟨s3, n3⟩, hq⟩
 have hb := hidIt (below_next hb.out hq)
 have H1 := hidIt (heap_on H1.out hq)
 have H2 := hidIt (heap_on H2.out hq)
 have A0 : Hid (y0.At w3 ∧ y0.New (w.heap.size + 2)) := hidIt ⟨PlaceX.At.on (PlaceX.At.keep A0.out.1 A0.out.2 HK.out) hq, A0.out.2⟩
 have A1 : Hid (Pls w3 a1 ys1 ∧ (NewA (w.heap.size + 2) a1 ys1.length ∧ ∀ y ∈ ys1, y.New (w.heap.size + 2))) := hidIt ⟨Pls.on (keepP A1.out.1 A1.out.2 HK.out) hq, A1.out.2⟩
 have A2 : Hid (St w3 a2 x.blocks ∧ NewA (w.heap.size + 2) a2 x.blocks.length) := hidIt ⟨St.on (keepS A2.out.1 A2.out.2 HK.out) hq, A2.out.2⟩
 have A3 : Hid (Ars w3 a3 x.arms ∧ NewA (w.heap.size + 2) a3 x.arms.length) := hidIt ⟨s3, NewA.mono n3 SZ.out⟩
 clear hq c3c s3 n3 SZ HK  l3
 obtain ⟨p0, p1, p2, p3, p4, p5, p6, p7⟩ := cells_8 H1.out
 have k7 : w3.frozen? ⟨w.heap.size, 7, none⟩ = false := frozen_at H1.out 7
 have r0 : w3.cell? ⟨w.heap.size + 1, 0, none⟩ = some (.int .i64 0) := cell_at H2.out 0
 have u0 : w3.frozen? ⟨w.heap.size + 1, 0, none⟩ = false := frozen_at H2.out 0
 have r1 : w3.cell? ⟨w.heap.size + 1, 1, none⟩ = some (.int .i64 0) := cell_at H2.out 1
 have u1 : w3.frozen? ⟨w.heap.size + 1, 1, none⟩ = false := frozen_at H2.out 1
 have r2 : w3.cell? ⟨w.heap.size + 1, 2, none⟩ = some (.string ⟨#[]⟩) := cell_at H2.out 2
 have u2 : w3.frozen? ⟨w.heap.size + 1, 2, none⟩ = false := frozen_at H2.out 2
 have r3 : w3.cell? ⟨w.heap.size + 1, 3, none⟩ = some (.slice none 0 0) := cell_at H2.out 3
 have u3 : w3.frozen? ⟨w.heap.size + 1, 3, none⟩ = false := frozen_at H2.out 3
 have r4 : w3.cell? ⟨w.heap.size + 1, 4, none⟩ = some (.string ⟨#[]⟩) := cell_at H2.out 4
 have u4 : w3.frozen? ⟨w.heap.size + 1, 4, none⟩ = false := frozen_at H2.out 4
 have r5 : w3.cell? ⟨w.heap.size + 1, 5, none⟩ = some (.slice none 0 0) := cell_at H2.out 5
 have u5 : w3.frozen? ⟨w.heap.size + 1, 5, none⟩ = false := frozen_at H2.out 5
 have r6 : w3.cell? ⟨w.heap.size + 1, 6, none⟩ = some (.slice none 0 0) := cell_at H2.out 6
 have u6 : w3.frozen? ⟨w.heap.size + 1, 6, none⟩ = false := frozen_at H2.out 6
 have r7 : w3.cell? ⟨w.heap.size + 1, 7, none⟩ = some (.slice none 0 0) := cell_at H2.out 7
 have u7 : w3.frozen? ⟨w.heap.size + 1, 7, none⟩ = false := frozen_at H2.out 7
 go_wp2
 (try simp only [Exit.inBlock, Exit.then])
 refine bodyPost_ret (show _ = Result.ok (.agg #[.int .i64 x.at_, .int .i64 x.kind, .string y0.loc, .slice y0.sa y0.steps.length y0.sc, .string x.name, .slice a1 x.args.length c1, .slice a2 x.blocks.length c2, .slice a3 x.arms.length c3]) _ by simp [results, Tryz.results149, go_sem, r0, r1, r2, r3, r4, r5, r6, r7]) rfl ?_
 clear p0 r0 u0 p1 r1 u1 p2 r2 u2 p3 r3 u3 p4 r4 u4 p5 r5 u5 p6 r6 u6 p7 r7 u7 k7 H1 H2
 have KF : ∀ W', Kps (w.heap.size + 2) w3 W' → (y0.At W') ∧ (Pls W' a1 ys1) ∧ (St W' a2 x.blocks) ∧ (Ars W' a3 x.arms) := fun W' hK => ⟨PlaceX.At.keep A0.out.1 A0.out.2 hK, keepP A1.out.1 A1.out.2 hK, keepS A2.out.1 A2.out.2 hK, keepR A3.out.1 A3.out.2 hK⟩
 have hle : w.heap.size ≤ w.heap.size + 2 := Nat.le_add_right _ _
 have AN : ∀ W', Kps (w.heap.size + 2) w3 W' → ((⟨x.at_, x.kind, y0, x.name, a1, c1, ys1, a2, c2, x.blocks, a3, c3, x.arms⟩ : TermX).At W' ∧ (⟨x.at_, x.kind, y0, x.name, a1, c1, ys1, a2, c2, x.blocks, a3, c3, x.arms⟩ : TermX).New w.heap.size) := fun W' hK => by
  have := KF W' hK
  exact ⟨⟨this.1, this.2.1, this.2.2.1, this.2.2.2⟩, ⟨A0.out.2.mono hle, ⟨A1.out.2.1.mono hle, fun y hy => (A1.out.2.2 y hy).mono hle⟩, A2.out.2.mono hle, A3.out.2.mono hle⟩⟩
 clear KF
 refine ⟨⟨x.at_, x.kind, y0, x.name, a1, c1, ys1, a2, c2, x.blocks, a3, c3, x.arms⟩, ?_, by simp only [TermX.d, D0.out, D1.out], AN _ ?_, ?_⟩
 · exact by simp [L1.out]
 · skip
   refine Kps.set (a := ⟨w.heap.size + 1, 7, none⟩) ?_ (show w.heap.size + 1 < w.heap.size + 2 by omega) _
   refine Kps.set (a := ⟨w.heap.size + 1, 6, none⟩) ?_ (show w.heap.size + 1 < w.heap.size + 2 by omega) _
   refine Kps.set (a := ⟨w.heap.size + 1, 5, none⟩) ?_ (show w.heap.size + 1 < w.heap.size + 2 by omega) _
   refine Kps.set (a := ⟨w.heap.size + 1, 4, none⟩) ?_ (show w.heap.size + 1 < w.heap.size + 2 by omega) _
   refine Kps.set (a := ⟨w.heap.size + 1, 3, none⟩) ?_ (show w.heap.size + 1 < w.heap.size + 2 by omega) _
   refine Kps.set (a := ⟨w.heap.size + 1, 2, none⟩) ?_ (show w.heap.size + 1 < w.heap.size + 2 by omega) _
   refine Kps.set (a := ⟨w.heap.size + 1, 1, none⟩) ?_ (show w.heap.size + 1 < w.heap.size + 2 by omega) _
   refine Kps.set (a := ⟨w.heap.size + 1, 0, none⟩) ?_ (show w.heap.size + 1 < w.heap.size + 2 by omega) _
   refine Kps.set (a := ⟨w.heap.size, 7, none⟩) ?_ (show w.heap.size < w.heap.size + 2 by omega) _
   exact Kps.refl _ _
 · skip
   refine Below.setCell (p := ⟨w.heap.size + 1, 7, none⟩) ?_ (Nat.le_succ _) _
   refine Below.setCell (p := ⟨w.heap.size + 1, 6, none⟩) ?_ (Nat.le_succ _) _
   refine Below.setCell (p := ⟨w.heap.size + 1, 5, none⟩) ?_ (Nat.le_succ _) _
   refine Below.setCell (p := ⟨w.heap.size + 1, 4, none⟩) ?_ (Nat.le_succ _) _
   refine Below.setCell (p := ⟨w.heap.size + 1, 3, none⟩) ?_ (Nat.le_succ _) _
   refine Below.setCell (p := ⟨w.heap.size + 1, 2, none⟩) ?_ (Nat.le_succ _) _
   refine Below.setCell (p := ⟨w.heap.size + 1, 1, none⟩) ?_ (Nat.le_succ _) _
   refine Below.setCell (p := ⟨w.heap.size + 1, 0, none⟩) ?_ (Nat.le_succ _) _
   refine below_put ?_ 7 _
   exact hb.out

end Go.Proofs.YtlppbgmcoknliaaGreatDoor
