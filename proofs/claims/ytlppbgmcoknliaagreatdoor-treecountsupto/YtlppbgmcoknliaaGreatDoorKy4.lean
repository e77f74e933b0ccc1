/-
  The walk of Key: a program as one text.
-/
import Derived.Test.YtlppbgmcoknliaaGreatDoorKyk
namespace Go.Proofs.YtlppbgmcoknliaaGreatDoor
set_option linter.unusedVariables false
open Go.RowKit

/-- Memory has grown, and these blocks are as they were. -/
def Kept (w : World) (L : List (Nat × Obj)) (W : World) : Prop := Below w.heap.size w W ∧ ∀ x ∈ L, W.heap[x.1]? = some x.2
theorem Kept.on {w W W' : World} {L : List (Nat × Obj)} (h : Kept w L W) (hb : Below W.heap.size W W') : Kept w L W' := ⟨below_next h.1 hb, fun x hx => heap_on (h.2 x hx) hb⟩
theorem Kept.new {w W : World} {L : List (Nat × Obj)} (h : Kept w L W) (cs : Array Value) (t : TypeId) : Kept w ((W.heap.size, Obj.cells cs t (0, 0)) :: L) (W.alloc (.cells cs t (0, 0))) := by
 refine ⟨below_next h.1 (below_new W _), fun x hx => ?_⟩
 rcases List.mem_cons.1 hx with rfl | hx
 · exact heap_alloc_new W _
 · exact heap_on (h.2 x hx) (below_new W _)
theorem Kept.get {w W : World} {L : List (Nat × Obj)} (h : Kept w L W) (i : Nat) {b : Nat} {o : Obj} (hi : L[i]? = some (b, o)) : W.heap[b]? = some o := h.2 _ (List.mem_of_getElem? hi)
theorem Kept.tail {w W : World} {x : Nat × Obj} {L : List (Nat × Obj)} (h : Kept w (x :: L) W) : Kept w L W := ⟨h.1, fun y hy => h.2 y (List.mem_cons_of_mem _ hy)⟩
theorem Kept.drew {w W : World} {L : List (Nat × Obj)} (h : Kept w L W) : Kept w L W.drew := h.on (Below.refl _ W).drew
theorem sl_one' {W : World} {B : Nat} {p : PlaceX} {t : TypeId} (h : W.heap[B]? = some (.cells #[.string p.loc, .slice p.sa p.steps.length p.sc] t (0, 0))) : Sl W 2 (some ⟨B, 0, none⟩) ([p].map PlaceX.row) := by
 refine ⟨fun r hr => ?_, by simp, .inr ⟨B, 0, rfl, (Array.getElem?_eq_some_iff.1 h).1, fun j r i v hj hi => ?_⟩⟩
 · cases List.mem_singleton.1 hr; rfl
 · cases j with
   | succ j => simp at hj
   | zero =>
    simp at hj
    subst hj
    rw [cell_at h, show 0 + 0 * 2 + i = i by omega, List.getElem?_toArray]
    exact hi
theorem bs_lit (b : UInt8) : (⟨#[b]⟩ : ByteArray) = bs [b] := rfl

theorem ok_nums {w : World} {p : ProgX} (h : p.Ok w) : p.d.Nums := by
 intro f hf
 obtain ⟨x, hx, rfl⟩ := List.mem_map.1 hf
 intro b hb
 obtain ⟨y, hy, rfl⟩ := List.mem_map.1 hb
 obtain ⟨h1, h2, h3⟩ := (h.2.1 x hx).2.1 y hy
 refine ⟨fun s hs => ?_, bounds_i64 h3.2.2⟩
 obtain ⟨z, hz, rfl⟩ := List.mem_map.1 hs
 exact ⟨bounds_i64 (h2 z hz).2.2.1, bounds_i64 (h2 z hz).2.2.2⟩
set_option maxHeartbeats 20000000 in
set_option maxRecDepth 100000 in
theorem key_prog (p : ProgX) (w : World) (hp : p.Ok w) (hz : p.d.sz ≤ 1048576) :
 Calls Tryz.prog 22 #[.agg #[.slice p.sa p.structs.length p.sc, .slice p.ea p.enums.length p.ec, .slice p.fa p.funcs.length p.fc]] w fun e w' => e = .returned (.string (bs (progK p.d))) ∧ Below w.heap.size w w' := by
 have HT : Hid ((progK p.d).length ≤ 400000000) := hidIt (by have := progK_sz p.d hz (ok_nums hp); omega)
 have HP := hidIt hp
 have HZ := hidIt hz
 have hb1 : p.structs.length ≤ 1048576 := by have := hp.1.1.1.big; rwa [List.length_map] at this
 have hb2 : p.enums.length ≤ 1048576 := by have := hp.1.2.1.1.big; rwa [List.length_map] at this
 have hb3 : p.funcs.length ≤ 1048576 := by have := hp.1.2.2.1.big; rwa [List.length_map] at this
 have L1 : Hid (p.d.structs.length = p.structs.length) := hidIt (List.length_map _)
 have L2 : Hid (p.d.enums.length = p.enums.length) := hidIt (List.length_map _)
 have L3 : Hid (p.d.funcs.length = p.funcs.length) := hidIt (List.length_map _)
 have D1 : Hid (∀ W, Below w.heap.size w W → Calls Tryz.prog 53 #[.int .u64 p.structs.length] W fun e w' => e = .returned (.string (bs (decL p.structs.length))) ∧ Below W.heap.size W w') := hidIt fun W _ => digits_below _ (by omega) W
 have D2 : Hid (∀ W, Below w.heap.size w W → Calls Tryz.prog 53 #[.int .u64 p.enums.length] W fun e w' => e = .returned (.string (bs (decL p.enums.length))) ∧ Below W.heap.size W w') := hidIt fun W _ => digits_below _ (by omega) W
 have D3 : Hid (∀ W, Below w.heap.size w W → Calls Tryz.prog 53 #[.int .u64 p.funcs.length] W fun e w' => e = .returned (.string (bs (decL p.funcs.length))) ∧ Below W.heap.size W w') := hidIt fun W _ => digits_below _ (by omega) W
 clear hp hz
 obtain ⟨sa, sc, ss, ea, ec, es, fa, fc, fs⟩ := p
 obtain ⟨P, hP⟩ : ∃ P : ProgD, (⟨sa, sc, ss, ea, ec, es, fa, fc, fs⟩ : ProgX).d = P := ⟨_, rfl⟩
 have HPd := hidIt hP
 simp only at *
 rw [hP] at HT HZ L1 L2 L3 ⊢
 clear hP
 obtain ⟨n1, e1⟩ : ∃ n, ss.length = n := ⟨_, rfl⟩
 obtain ⟨n2, e2⟩ : ∃ n, es.length = n := ⟨_, rfl⟩
 obtain ⟨n3, e3⟩ : ∃ n, fs.length = n := ⟨_, rfl⟩
 rw [e1] at L1 D1 hb1 ⊢
 rw [e2] at L2 D2 hb2 ⊢
 rw [e3] at L3 D3 hb3 ⊢
 have N1 := hidIt e1
 have N2 := hidIt e2
 have N3 := hidIt e3
 clear e1 e2 e3
 have K0 : Hid (Kept w [(w.heap.size, Obj.cells #[.slice sa n1 sc, .slice ea n2 ec, .slice fa n3 fc] 36 (0, 0))] (w.alloc (.cells #[.slice sa n1 sc, .slice ea n2 ec, .slice fa n3 fc] 36 (0, 0)))) := hidIt (Kept.new (L := []) ⟨Below.refl _ _, fun x hx => by cases hx⟩ _ _)
 have E0 : Hid (bs (decL n1) ++ ⟨#[115]⟩ = bs (txS P 0)) := hidIt (by
  unfold txS
  rw [bs_lit, app_bs, L1.out, List.take_zero, List.flatMap_nil])
 have z0 : ¬ 9223372036854775807 < (bs (decL n1)).size + 1 := by rw [bs_size]; have := decL_len20 n1 (by omega); omega
 generalize bs (decL n1) = S0 at D1 E0 z0
 go_enter Tryz.func22, Tryz.ntmps22
 go_wp2_with (go_at_call 53; refine (D1.out _ K0.out.1).mono ?_; rintro e w1 ⟨rfl, hq⟩; have K1 := hidIt (K0.out.on hq); clear hq K0)
 go_loopg [3, 4] n1 (fun g s3 s4 wr => ∃ k : Nat, ∃ t : ByteArray, k ≤ n1 ∧ n1 - k ≤ g ∧ s3 = .string t ∧ s4 = .int .i64 k ∧ Hid (t = bs (txS P k) ∧ Kept w [(w.heap.size, Obj.cells #[.slice sa n1 sc, .slice ea n2 ec, .slice fa n3 fc] 36 (0, 0))] wr))
 case atStart => exact ⟨0, _, Nat.zero_le _, by omega, rfl, rfl, hidIt ⟨E0.out, K1.out⟩⟩
 case round =>
  clear E0 z0 D1 K1
  obtain ⟨k, t, hk, hg, rfl, rfl, R⟩ := hrel
  have p0 : wr.cell? ⟨w.heap.size, 0, none⟩ = some (.slice sa n1 sc) := cell_at (R.out.2.get 0 rfl) 0
  by_cases hlt : k < n1
  · as_aux_lemma =>
     obtain ⟨x, hx⟩ : ∃ x, ss[k]? = some x := ⟨_, List.getElem?_eq_getElem (by rw [N1.out]; exact hlt)⟩
     obtain ⟨b1, o1, rfl, g1⟩ := Sl.cell HP.out.1.1.1 (j := k) (r := x.row) (by rw [List.getElem?_map]; rw [hx]; rfl)
     have g1 := g1 wr R.out.2.1
     have HX := hidIt hx
     have XD : Hid (P.structs[k]? = some x.d) := hidIt (by rw [← HPd.out]; show (ss.map StructX.d)[k]? = _; rw [List.getElem?_map, HX.out]; rfl)
     have XZ : Hid (x.d.sz ≤ 1048576) := hidIt (by
      have h1 : x.d.sz ≤ szL StructD.sz P.structs := szL_mem (f := StructD.sz) (List.mem_of_getElem? XD.out)
      have h2 := HZ.out
      unfold ProgD.sz at h2
      omega)
     clear hx
     have p1 := g1 0 _ rfl
     have p2 := g1 1 _ rfl
     have p3 := g1 2 _ rfl
     have p4 := g1 3 _ rfl
     have p5 := g1 4 _ rfl
     rw [Nat.add_zero] at p1
     clear g1
     go_upto_region 6 with fail
     clear p0 p1 p2 p3 p4 p5
     have HK := hidIt (R.out.2.new #[.int .i64 x.at_, .string x.name, .bool x.safe, .bool x.hook, .slice x.fa x.fields.length x.fc] 58)
     have C0 : Hid (∀ W, Below w.heap.size w W → Calls Tryz.prog 54 #[.string x.name] W fun e w' => e = .returned (.string (bs (keyS x.name))) ∧ Below W.heap.size W w') := hidIt (fun W _ => key_any x.name (fit_str (n := 1048576) (by have := XZ.out; unfold StructX.d StructD.sz at this; simp only at this; omega) (Nat.le_refl _)) W)
     have C1 : Hid (∀ W, Below w.heap.size w W → Calls Tryz.prog 55 #[.bool x.safe] W fun e w' => e = .returned (.string (bs (flagL x.safe))) ∧ Below W.heap.size W w') := hidIt (fun W _ => flag_below _ W)
     have C2 : Hid (∀ W, Below w.heap.size w W → Calls Tryz.prog 55 #[.bool x.hook] W fun e w' => e = .returned (.string (bs (flagL x.hook))) ∧ Below W.heap.size W w') := hidIt (fun W _ => flag_below _ W)
     have C3 : Hid (∀ W, Below w.heap.size w W → Calls Tryz.prog 56 #[.slice x.fa x.fields.length x.fc] W fun e w' => e = .returned (.string (bs (keyL 123 varK x.fields))) ∧ Below W.heap.size W w') := hidIt (fun W hW => varKeys_any _ _ _ W (Vrs.on (HP.out.1.1.2 x (List.mem_of_getElem? HX.out)) hW) (by have := XZ.out; unfold StructX.d StructD.sz at this; simp only at this; omega))
     have E1 : Hid (t ++ (bs (keyS x.name) ++ bs (flagL x.safe) ++ bs (flagL x.hook) ++ bs (keyL 123 varK x.fields)) = bs (txS P (k + 1))) := hidIt (by
      rw [R.out.1, txS_next XD.out]; simp only [app_bs, structK, StructX.d, List.append_assoc])
     have hsz : t.size + (bs (keyS x.name) ++ bs (flagL x.safe) ++ bs (flagL x.hook) ++ bs (keyL 123 varK x.fields)).size ≤ 400000000 := by rw [← ByteArray.size_append, E1.out, bs_size]; exact Nat.le_trans (txS_len P (k + 1)) HT.out
     simp only [ByteArray.size_append] at hsz
     obtain ⟨S0, hS0⟩ : ∃ S, bs (keyS x.name) = S := ⟨_, rfl⟩
     rw [hS0] at C0 E1 hsz
     obtain ⟨S1, hS1⟩ : ∃ S, bs (flagL x.safe) = S := ⟨_, rfl⟩
     rw [hS1] at C1 E1 hsz
     obtain ⟨S2, hS2⟩ : ∃ S, bs (flagL x.hook) = S := ⟨_, rfl⟩
     rw [hS2] at C2 E1 hsz
     obtain ⟨S3, hS3⟩ : ∃ S, bs (keyL 123 varK x.fields) = S := ⟨_, rfl⟩
     rw [hS3] at C3 E1 hsz
     clear hS0 hS1 hS2 hS3
     have z0 : ¬ 9223372036854775807 < S0.size + S1.size := by omega
     have z1 : ¬ 9223372036854775807 < S0.size + S1.size + S2.size := by omega
     have z2 : ¬ 9223372036854775807 < S0.size + S1.size + S2.size + S3.size := by omega
     have z3 : ¬ 9223372036854775807 < t.size + (S0.size + S1.size + S2.size + S3.size) := by omega
     clear hsz
     obtain ⟨B1, eB⟩ : ∃ B1, B1 = wr.heap.size := ⟨_, rfl⟩
     rw [← eB] at HK ⊢
     clear eB
     generalize wr.alloc (.cells #[.int .i64 x.at_, .string x.name, .bool x.safe, .bool x.hook, .slice x.fa x.fields.length x.fc] 58) = W1 at HK ⊢
     have sw : W1.cell? ⟨B1, 1, none⟩ = some (.string x.name) ∧ W1.cell? ⟨B1, 2, none⟩ = some (.bool x.safe) ∧ W1.cell? ⟨B1, 3, none⟩ = some (.bool x.hook) ∧ W1.cell? ⟨B1, 4, none⟩ = some (.slice x.fa x.fields.length x.fc) := ⟨cell_at (HK.out.get 0 rfl) 1, cell_at (HK.out.get 0 rfl) 2, cell_at (HK.out.get 0 rfl) 3, cell_at (HK.out.get 0 rfl) 4⟩
     have HK := hidIt HK.out.drew
     have K1 : Hid True := hidIt trivial
     go_wp2_with fail
     go_region_held3 (fun W => W.cell? ⟨B1, 1, none⟩ = some (.string x.name) ∧ W.cell? ⟨B1, 2, none⟩ = some (.bool x.safe) ∧ W.cell? ⟨B1, 3, none⟩ = some (.bool x.hook) ∧ W.cell? ⟨B1, 4, none⟩ = some (.slice x.fa x.fields.length x.fc)) (go_keep)
      (first
      | (go_at_call 54; refine (C0.out _ HK.out.1).mono ?_; rintro e y ⟨rfl, hq⟩; have HK := hidIt (HK.out.on hq); have sS : y.cell? ⟨B1, 1, none⟩ = some (.string x.name) ∧ y.cell? ⟨B1, 2, none⟩ = some (.bool x.safe) ∧ y.cell? ⟨B1, 3, none⟩ = some (.bool x.hook) ∧ y.cell? ⟨B1, 4, none⟩ = some (.slice x.fa x.fields.length x.fc) := ⟨cell_at (HK.out.get 0 rfl) 1, cell_at (HK.out.get 0 rfl) 2, cell_at (HK.out.get 0 rfl) 3, cell_at (HK.out.get 0 rfl) 4⟩; clear hq)
      | (go_at_call 55; have tk := K1; clear tk K1; refine (C1.out _ HK.out.1).mono ?_; rintro e y ⟨rfl, hq⟩; have HK := hidIt (HK.out.on hq); have sS : y.cell? ⟨B1, 1, none⟩ = some (.string x.name) ∧ y.cell? ⟨B1, 2, none⟩ = some (.bool x.safe) ∧ y.cell? ⟨B1, 3, none⟩ = some (.bool x.hook) ∧ y.cell? ⟨B1, 4, none⟩ = some (.slice x.fa x.fields.length x.fc) := ⟨cell_at (HK.out.get 0 rfl) 1, cell_at (HK.out.get 0 rfl) 2, cell_at (HK.out.get 0 rfl) 3, cell_at (HK.out.get 0 rfl) 4⟩; clear hq)
      | (go_at_call 55; refine (C2.out _ HK.out.1).mono ?_; rintro e y ⟨rfl, hq⟩; have HK := hidIt (HK.out.on hq); have sS : y.cell? ⟨B1, 1, none⟩ = some (.string x.name) ∧ y.cell? ⟨B1, 2, none⟩ = some (.bool x.safe) ∧ y.cell? ⟨B1, 3, none⟩ = some (.bool x.hook) ∧ y.cell? ⟨B1, 4, none⟩ = some (.slice x.fa x.fields.length x.fc) := ⟨cell_at (HK.out.get 0 rfl) 1, cell_at (HK.out.get 0 rfl) 2, cell_at (HK.out.get 0 rfl) 3, cell_at (HK.out.get 0 rfl) 4⟩; clear hq)
      | (go_at_call 56; refine (C3.out _ HK.out.1).mono ?_; rintro e y ⟨rfl, hq⟩; have HK := hidIt (HK.out.on hq); have sS : y.cell? ⟨B1, 1, none⟩ = some (.string x.name) ∧ y.cell? ⟨B1, 2, none⟩ = some (.bool x.safe) ∧ y.cell? ⟨B1, 3, none⟩ = some (.bool x.hook) ∧ y.cell? ⟨B1, 4, none⟩ = some (.slice x.fa x.fields.length x.fc) := ⟨cell_at (HK.out.get 0 rfl) 1, cell_at (HK.out.get 0 rfl) 2, cell_at (HK.out.get 0 rfl) 3, cell_at (HK.out.get 0 rfl) 4⟩; clear hq))
     go_wp2
     go_roundg (n1 - (k + 1))
     case measure => omega
     case rel => exact ⟨k + 1, _, by omega, by omega, rfl, by go_num, hidIt ⟨E1.out, HK.out.tail⟩⟩
  · have : k = n1 := by omega
    subst this
    as_aux_lemma =>
     have p1 : wr.cell? ⟨w.heap.size, 1, none⟩ = some (.slice ea n2 ec) := cell_at (R.out.2.get 0 rfl) 1
     have E0 : Hid (t ++ (bs (decL n2) ++ ⟨#[101]⟩) = bs (txE P 0)) := hidIt (by
      rw [txE_zero, R.out.1, L1.out, L2.out, bs_lit, app_bs, app_bs])
     have hsz : t.size + ((bs (decL n2)).size + 1) ≤ 400000000 := by
      have h1 := txE_len P 0
      have h2 := HT.out
      rw [← bs_size, ← E0.out, ByteArray.size_append, ByteArray.size_append] at h1
      exact Nat.le_trans h1 h2
     obtain ⟨S0, hS0⟩ : ∃ S, bs (decL n2) = S := ⟨_, rfl⟩
     rw [hS0] at D2 E0 hsz
     have z0 : ¬ 9223372036854775807 < S0.size + 1 := by omega
     have z1 : ¬ 9223372036854775807 < t.size + (S0.size + 1) := by omega
     clear hS0 hsz
     have HK := hidIt R.out.2
     go_wp2_with (go_at_call 53; refine (D2.out _ HK.out.1).mono ?_; rintro e w2 ⟨rfl, hq⟩; have HK := hidIt (HK.out.on hq); clear hq)
     go_loopg [3, 6] n2 (fun g s3 s6 wr => ∃ j : Nat, ∃ t : ByteArray, j ≤ n2 ∧ n2 - j ≤ g ∧ s3 = .string t ∧ s6 = .int .i64 j ∧ Hid (t = bs (txE P j) ∧ Kept w [(w.heap.size, Obj.cells #[.slice sa k sc, .slice ea n2 ec, .slice fa n3 fc] 36 (0, 0))] wr))
     case atStart => exact ⟨0, _, Nat.zero_le _, by omega, rfl, rfl, hidIt ⟨E0.out, HK.out⟩⟩
     case round =>
      clear E0 z0 z1 D2 HK p0 p1 R
      obtain ⟨j, t, hj, hg2, rfl, rfl, R⟩ := hrel
      have p0 : wr.cell? ⟨w.heap.size, 1, none⟩ = some (.slice ea n2 ec) := cell_at (R.out.2.get 0 rfl) 1
      by_cases hlt : j < n2
      · as_aux_lemma =>
         obtain ⟨x, hx⟩ : ∃ x, es[j]? = some x := ⟨_, List.getElem?_eq_getElem (by rw [N2.out]; exact hlt)⟩
         obtain ⟨b1, o1, rfl, g1⟩ := Sl.cell HP.out.1.2.1.1 (j := j) (r := x.row) (by rw [List.getElem?_map]; rw [hx]; rfl)
         have G1 : Hid (∀ W, Kept w [(w.heap.size, Obj.cells #[.slice sa k sc, .slice (some ⟨b1, o1, none⟩) n2 ec, .slice fa n3 fc] 36 (0, 0))] W → W.cell? ⟨w.heap.size, 1, none⟩ = some (.slice (some ⟨b1, o1, none⟩) n2 ec) ∧ W.cell? ⟨b1, o1 + j * 3 + 1, none⟩ = some (.string x.name) ∧ W.cell? ⟨b1, o1 + j * 3 + 2, none⟩ = some (.slice x.va x.variants.length x.vc)) := hidIt (fun W hW => ⟨cell_at (hW.get 0 rfl) 1, g1 W hW.1 1 _ rfl, g1 W hW.1 2 _ rfl⟩)
         have HX := hidIt hx
         have XD : Hid (P.enums[j]? = some x.d) := hidIt (by rw [← HPd.out]; show (es.map EnumX.d)[j]? = _; rw [List.getElem?_map, HX.out]; rfl)
         have XZ : Hid (x.d.sz ≤ 1048576) := hidIt (by
          have h1 : x.d.sz ≤ szL EnumD.sz P.enums := szL_mem (f := EnumD.sz) (List.mem_of_getElem? XD.out)
          have h2 := HZ.out
          unfold ProgD.sz at h2
          omega)
         clear hx g1
         have C0 : Hid (∀ W, Below w.heap.size w W → Calls Tryz.prog 54 #[.string x.name] W fun e w' => e = .returned (.string (bs (keyS x.name))) ∧ Below W.heap.size W w') := hidIt (fun W _ => key_any x.name (fit_str (n := 1048576) (by have := XZ.out; unfold EnumX.d EnumD.sz at this; simp only at this; omega) (Nat.le_refl _)) W)
         have C1 : Hid (∀ W, Below w.heap.size w W → Calls Tryz.prog 56 #[.slice x.va x.variants.length x.vc] W fun e w' => e = .returned (.string (bs (keyL 123 varK x.variants))) ∧ Below W.heap.size W w') := hidIt (fun W hW => varKeys_any _ _ _ W (Vrs.on (HP.out.1.2.1.2 x (List.mem_of_getElem? HX.out)) hW) (by have := XZ.out; unfold EnumX.d EnumD.sz at this; simp only at this; omega))
         have E1 : Hid (t ++ (bs (keyS x.name) ++ bs (keyL 123 varK x.variants)) = bs (txE P (j + 1))) := hidIt (by
          rw [R.out.1, txE_next XD.out]; simp only [app_bs, enumK, EnumX.d])
         have hsz : t.size + (bs (keyS x.name) ++ bs (keyL 123 varK x.variants)).size ≤ 400000000 := by rw [← ByteArray.size_append, E1.out, bs_size]; exact Nat.le_trans (txE_len P (j + 1)) HT.out
         simp only [ByteArray.size_append] at hsz
         obtain ⟨S0, hS0⟩ : ∃ S, bs (keyS x.name) = S := ⟨_, rfl⟩
         rw [hS0] at C0 E1 hsz
         obtain ⟨S1, hS1⟩ : ∃ S, bs (keyL 123 varK x.variants) = S := ⟨_, rfl⟩
         rw [hS1] at C1 E1 hsz
         clear hS0 hS1
         have z0 : ¬ 9223372036854775807 < S0.size + S1.size := by omega
         have z1 : ¬ 9223372036854775807 < t.size + (S0.size + S1.size) := by omega
         clear hsz
         have sw := G1.out _ R.out.2
         have HK := hidIt R.out.2.drew
         clear p0
         go_wp2_with fail
         go_region_held3 (fun W => W.cell? ⟨w.heap.size, 1, none⟩ = some (.slice (some ⟨b1, o1, none⟩) n2 ec) ∧ W.cell? ⟨b1, o1 + j * 3 + 1, none⟩ = some (.string x.name) ∧ W.cell? ⟨b1, o1 + j * 3 + 2, none⟩ = some (.slice x.va x.variants.length x.vc)) (go_keep)
          (first
          | (go_at_call 54; refine (C0.out _ HK.out.1).mono ?_; rintro e y ⟨rfl, hq⟩; have HK := hidIt (HK.out.on hq); have sS : y.cell? ⟨w.heap.size, 1, none⟩ = some (.slice (some ⟨b1, o1, none⟩) n2 ec) ∧ y.cell? ⟨b1, o1 + j * 3 + 1, none⟩ = some (.string x.name) ∧ y.cell? ⟨b1, o1 + j * 3 + 2, none⟩ = some (.slice x.va x.variants.length x.vc) := G1.out _ HK.out; clear hq)
          | (go_at_call 56; refine (C1.out _ HK.out.1).mono ?_; rintro e y ⟨rfl, hq⟩; have HK := hidIt (HK.out.on hq); have sS : y.cell? ⟨w.heap.size, 1, none⟩ = some (.slice (some ⟨b1, o1, none⟩) n2 ec) ∧ y.cell? ⟨b1, o1 + j * 3 + 1, none⟩ = some (.string x.name) ∧ y.cell? ⟨b1, o1 + j * 3 + 2, none⟩ = some (.slice x.va x.variants.length x.vc) := G1.out _ HK.out; clear hq))
         go_wp2
         go_roundg (n2 - (j + 1))
         case measure => omega
         case rel => exact ⟨j + 1, _, by omega, by omega, rfl, by go_num, hidIt ⟨E1.out, HK.out⟩⟩
      · have : j = n2 := by omega
        subst this
        as_aux_lemma =>
         have p1 : wr.cell? ⟨w.heap.size, 2, none⟩ = some (.slice fa n3 fc) := cell_at (R.out.2.get 0 rfl) 2
         have E0 : Hid (t ++ (bs (decL n3) ++ ⟨#[102]⟩) = bs (txF P 0)) := hidIt (by
          rw [txF_zero, R.out.1, L2.out, L3.out, bs_lit, app_bs, app_bs])
         have hsz : t.size + ((bs (decL n3)).size + 1) ≤ 400000000 := by
          have h1 := txF_len P 0
          have h2 := HT.out
          rw [← bs_size, ← E0.out, ByteArray.size_append, ByteArray.size_append] at h1
          exact Nat.le_trans h1 h2
         obtain ⟨S0, hS0⟩ : ∃ S, bs (decL n3) = S := ⟨_, rfl⟩
         rw [hS0] at D3 E0 hsz
         have z0 : ¬ 9223372036854775807 < S0.size + 1 := by omega
         have z1 : ¬ 9223372036854775807 < t.size + (S0.size + 1) := by omega
         clear hS0 hsz
         have HK := hidIt R.out.2
         go_wp2_with (go_at_call 53; refine (D3.out _ HK.out.1).mono ?_; rintro e w2 ⟨rfl, hq⟩; have HK := hidIt (HK.out.on hq); clear hq)
         go_loopg [3, 7] n3 (fun g s3 s7 wr => ∃ i : Nat, ∃ t : ByteArray, i ≤ n3 ∧ n3 - i ≤ g ∧ s3 = .string t ∧ s7 = .int .i64 i ∧ Hid (t = bs (txF P i) ∧ Kept w [(w.heap.size, Obj.cells #[.slice sa k sc, .slice ea j ec, .slice fa n3 fc] 36 (0, 0))] wr))
         case atStart => exact ⟨0, _, Nat.zero_le _, by omega, rfl, rfl, hidIt ⟨E0.out, HK.out⟩⟩
         case round =>
          clear E0 z0 z1 D3 HK p0 p1 R
          obtain ⟨i, t, hi, hg3, rfl, rfl, R⟩ := hrel
          have p0 : wr.cell? ⟨w.heap.size, 2, none⟩ = some (.slice fa n3 fc) := cell_at (R.out.2.get 0 rfl) 2
          by_cases hlt : i < n3
          · as_aux_lemma =>
             obtain ⟨x, hx⟩ : ∃ x, fs[i]? = some x := ⟨_, List.getElem?_eq_getElem (by rw [N3.out]; exact hlt)⟩
             obtain ⟨xa, xn, xpa, xpc, xps, xla, xlc, xls, xr, xba, xbc, xbs⟩ := x
             obtain ⟨b1, o1, rfl, g1⟩ := Sl.cell HP.out.1.2.2.1 (j := i) (r := (⟨xa, xn, xpa, xpc, xps, xla, xlc, xls, xr, xba, xbc, xbs⟩ : FuncX).row) (by rw [List.getElem?_map]; rw [hx]; rfl)
             have g1 := g1 wr R.out.2.1
             have XO : Hid ((⟨xa, xn, xpa, xpc, xps, xla, xlc, xls, xr, xba, xbc, xbs⟩ : FuncX).Ok w) := hidIt (HP.out.2.1 _ (List.mem_of_getElem? hx))
             obtain ⟨X, hX⟩ : ∃ X : FuncD, (⟨xa, xn, xpa, xpc, xps, xla, xlc, xls, xr, xba, xbc, xbs⟩ : FuncX).d = X := ⟨_, rfl⟩
             have XD : Hid (P.funcs[i]? = some X) := hidIt (by rw [← HPd.out, ← hX]; show (fs.map FuncX.d)[i]? = _; rw [List.getElem?_map, hx]; rfl)
             have XZ : Hid ((⟨xa, xn, xps, xls, xr, xbs.map BlockX.d⟩ : FuncD).sz ≤ 1048576) := hidIt (by
              have h0 : (⟨xa, xn, xps, xls, xr, xbs.map BlockX.d⟩ : FuncD) = X := hX
              rw [h0]
              have h1 : X.sz ≤ szL FuncD.sz P.funcs := szL_mem (f := FuncD.sz) (List.mem_of_getElem? XD.out)
              have h2 := HZ.out
              unfold ProgD.sz at h2
              omega)
             have NB : xbs.length ≤ 1048576 := by have := XO.out.1.2.2.1.big; rwa [List.length_map] at this
             have XK : Hid (funcK X = keyS xn ++ (keyL 123 varK xps ++ (keyL 123 varK xls ++ (keyS xr ++ (decL xbs.length ++ 98 :: (xbs.map BlockX.d).flatMap blockK))))) := hidIt (by rw [← hX]; unfold funcK FuncX.d keyL; simp only [List.length_map])
             clear hx hX
             obtain ⟨nb, hnb⟩ : ∃ n, xbs.length = n := ⟨_, rfl⟩
             rw [hnb] at XK NB
             have N4 := hidIt hnb
             have p1 := g1 0 _ rfl
             have p2 := g1 1 _ rfl
             have p3 := g1 2 _ rfl
             have p4 := g1 3 _ rfl
             have p5 := g1 4 _ rfl
             have p6 := g1 5 _ rfl
             rw [Nat.add_zero] at p1
             simp only [hnb] at p6
             clear g1 hnb
             obtain ⟨P1, hP1⟩ : ∃ P1, txF P i ++ (keyS xn ++ (keyL 123 varK xps ++ (keyL 123 varK xls ++ (keyS xr ++ (decL nb ++ [98]))))) = P1 := ⟨_, rfl⟩
             have HP1F : Hid (P1 ++ (xbs.map BlockX.d).flatMap blockK = txF P (i + 1)) := hidIt (by rw [txF_next XD.out, XK.out, ← hP1]; simp only [List.append_assoc, List.cons_append, List.nil_append])
             have HP1Z : Hid (P1.length + ((xbs.map BlockX.d).flatMap blockK).length ≤ 400000000) := hidIt (le_of_append HP1F.out (Nat.le_trans (txF_len P (i + 1)) HT.out))
             have hP1 := hidIt hP1
             clear p0
             have p0 : wr.cell? ⟨w.heap.size, 2, none⟩ = some (.slice (some ⟨b1, o1, none⟩) n3 fc) := cell_at (R.out.2.get 0 rfl) 2
             go_wp2_with fail
             clear p0 p1 p2 p3 p4 p5 p6
             have HK := hidIt (R.out.2.new #[.int .i64 xa, .string xn, .slice xpa xps.length xpc, .slice xla xls.length xlc, .string xr, .slice xba nb xbc] 45)
             obtain ⟨B1, eB⟩ : ∃ B1, B1 = wr.heap.size := ⟨_, rfl⟩
             rw [← eB] at HK ⊢
             clear eB
             generalize wr.alloc (.cells #[.int .i64 xa, .string xn, .slice xpa xps.length xpc, .slice xla xls.length xlc, .string xr, .slice xba nb xbc] 45) = W1 at HK ⊢
             go_cut [3] (fun s3 wx => ∃ t, s3 = .string t ∧ Hid (t = bs (P1) ∧ Kept w [(B1, Obj.cells #[.int .i64 xa, .string xn, .slice xpa xps.length xpc, .slice xla xls.length xlc, .string xr, .slice xba nb xbc] 45 (0, 0)), (w.heap.size, Obj.cells #[.slice sa k sc, .slice ea j ec, .slice (some ⟨b1, o1, none⟩) n3 fc] 36 (0, 0))] wx))
             case first =>
              as_aux_lemma =>
               clear HPd HZ HP1F XD XK N1 N2 N3 N4 HT L1 L2 L3
               have hwu : IntKind.u64.wrap (nb : Int) = (nb : Int) := IntWalk.u64_in _ (by omega)
               have C0 : Hid (∀ W, Below w.heap.size w W → Calls Tryz.prog 54 #[.string xn] W fun e w' => e = .returned (.string (bs (keyS xn))) ∧ Below W.heap.size W w') := hidIt (fun W _ => key_any xn (fit_str (n := 1048576) (by have := XZ.out; unfold FuncD.sz at this; simp only at this; omega) (Nat.le_refl _)) W)
               have C1 : Hid (∀ W, Below w.heap.size w W → Calls Tryz.prog 56 #[.slice xpa xps.length xpc] W fun e w' => e = .returned (.string (bs (keyL 123 varK xps))) ∧ Below W.heap.size W w') := hidIt (fun W hW => varKeys_any _ _ _ W (Vrs.on XO.out.1.1 hW) (by have := XZ.out; unfold FuncD.sz at this; simp only at this; omega))
               have C2 : Hid (∀ W, Below w.heap.size w W → Calls Tryz.prog 56 #[.slice xla xls.length xlc] W fun e w' => e = .returned (.string (bs (keyL 123 varK xls))) ∧ Below W.heap.size W w') := hidIt (fun W hW => varKeys_any _ _ _ W (Vrs.on XO.out.1.2.1 hW) (by have := XZ.out; unfold FuncD.sz at this; simp only at this; omega))
               have C3 : Hid (∀ W, Below w.heap.size w W → Calls Tryz.prog 54 #[.string xr] W fun e w' => e = .returned (.string (bs (keyS xr))) ∧ Below W.heap.size W w') := hidIt (fun W _ => key_any xr (fit_str (n := 1048576) (by have := XZ.out; unfold FuncD.sz at this; simp only at this; omega) (Nat.le_refl _)) W)
               have C4 : Hid (∀ W, Below w.heap.size w W → Calls Tryz.prog 53 #[.int .u64 nb] W fun e w' => e = .returned (.string (bs (decL nb))) ∧ Below W.heap.size W w') := hidIt (fun W _ => digits_below _ (by omega) W)
               have E1 : Hid (t ++ (bs (keyS xn) ++ bs (keyL 123 varK xps) ++ bs (keyL 123 varK xls) ++ bs (keyS xr) ++ bs (decL nb) ++ ⟨#[98]⟩) = bs (P1)) := hidIt (by
                rw [R.out.1, bs_lit]; simp only [app_bs, List.append_assoc]; rw [hP1.out])
               have hsz : t.size + (bs (keyS xn) ++ bs (keyL 123 varK xps) ++ bs (keyL 123 varK xls) ++ bs (keyS xr) ++ bs (decL nb) ++ ⟨#[98]⟩).size ≤ 400000000 := by rw [← ByteArray.size_append, E1.out, bs_size]; have := HP1Z.out; omega
               simp only [ByteArray.size_append] at hsz
               obtain ⟨S0, hS0⟩ : ∃ S, bs (keyS xn) = S := ⟨_, rfl⟩
               rw [hS0] at C0 E1 hsz
               obtain ⟨S1, hS1⟩ : ∃ S, bs (keyL 123 varK xps) = S := ⟨_, rfl⟩
               rw [hS1] at C1 E1 hsz
               obtain ⟨S2, hS2⟩ : ∃ S, bs (keyL 123 varK xls) = S := ⟨_, rfl⟩
               rw [hS2] at C2 E1 hsz
               obtain ⟨S3, hS3⟩ : ∃ S, bs (keyS xr) = S := ⟨_, rfl⟩
               rw [hS3] at C3 E1 hsz
               obtain ⟨S4, hS4⟩ : ∃ S, bs (decL nb) = S := ⟨_, rfl⟩
               rw [hS4] at C4 E1 hsz
               clear hS0 hS1 hS2 hS3 hS4
               have hl98 : (⟨#[98]⟩ : ByteArray).size = 1 := rfl
               rw [hl98] at hsz
               clear hl98
               have z0 : ¬ 9223372036854775807 < S0.size + S1.size := by omega
               have z1 : ¬ 9223372036854775807 < S0.size + S1.size + S2.size := by omega
               have z2 : ¬ 9223372036854775807 < S0.size + S1.size + S2.size + S3.size := by omega
               have z3 : ¬ 9223372036854775807 < S0.size + S1.size + S2.size + S3.size + S4.size := by omega
               have z4 : ¬ 9223372036854775807 < S0.size + S1.size + S2.size + S3.size + S4.size + 1 := by omega
               have z5 : ¬ 9223372036854775807 < t.size + (S0.size + S1.size + S2.size + S3.size + S4.size + 1) := by omega
               clear hsz
               have sw : W1.cell? ⟨B1, 1, none⟩ = some (.string xn) ∧ W1.cell? ⟨B1, 2, none⟩ = some (.slice xpa xps.length xpc) ∧ W1.cell? ⟨B1, 3, none⟩ = some (.slice xla xls.length xlc) ∧ W1.cell? ⟨B1, 4, none⟩ = some (.string xr) ∧ W1.cell? ⟨B1, 5, none⟩ = some (.slice xba nb xbc) := ⟨cell_at (HK.out.get 0 rfl) 1, cell_at (HK.out.get 0 rfl) 2, cell_at (HK.out.get 0 rfl) 3, cell_at (HK.out.get 0 rfl) 4, cell_at (HK.out.get 0 rfl) 5⟩
               have HK := hidIt HK.out.drew
               have K0 : Hid True := hidIt trivial
               have K1 : Hid True := hidIt trivial
               go_region_held3 (fun W => W.cell? ⟨B1, 1, none⟩ = some (.string xn) ∧ W.cell? ⟨B1, 2, none⟩ = some (.slice xpa xps.length xpc) ∧ W.cell? ⟨B1, 3, none⟩ = some (.slice xla xls.length xlc) ∧ W.cell? ⟨B1, 4, none⟩ = some (.string xr) ∧ W.cell? ⟨B1, 5, none⟩ = some (.slice xba nb xbc)) (go_keep)
                (first
                | (go_at_call 54; have tk := K0; clear tk K0; refine (C0.out _ HK.out.1).mono ?_; rintro e y ⟨rfl, hq⟩; have HK := hidIt (HK.out.on hq); have sS : y.cell? ⟨B1, 1, none⟩ = some (.string xn) ∧ y.cell? ⟨B1, 2, none⟩ = some (.slice xpa xps.length xpc) ∧ y.cell? ⟨B1, 3, none⟩ = some (.slice xla xls.length xlc) ∧ y.cell? ⟨B1, 4, none⟩ = some (.string xr) ∧ y.cell? ⟨B1, 5, none⟩ = some (.slice xba nb xbc) := ⟨cell_at (HK.out.get 0 rfl) 1, cell_at (HK.out.get 0 rfl) 2, cell_at (HK.out.get 0 rfl) 3, cell_at (HK.out.get 0 rfl) 4, cell_at (HK.out.get 0 rfl) 5⟩; clear hq)
                | (go_at_call 56; have tk := K1; clear tk K1; refine (C1.out _ HK.out.1).mono ?_; rintro e y ⟨rfl, hq⟩; have HK := hidIt (HK.out.on hq); have sS : y.cell? ⟨B1, 1, none⟩ = some (.string xn) ∧ y.cell? ⟨B1, 2, none⟩ = some (.slice xpa xps.length xpc) ∧ y.cell? ⟨B1, 3, none⟩ = some (.slice xla xls.length xlc) ∧ y.cell? ⟨B1, 4, none⟩ = some (.string xr) ∧ y.cell? ⟨B1, 5, none⟩ = some (.slice xba nb xbc) := ⟨cell_at (HK.out.get 0 rfl) 1, cell_at (HK.out.get 0 rfl) 2, cell_at (HK.out.get 0 rfl) 3, cell_at (HK.out.get 0 rfl) 4, cell_at (HK.out.get 0 rfl) 5⟩; clear hq)
                | (go_at_call 56; refine (C2.out _ HK.out.1).mono ?_; rintro e y ⟨rfl, hq⟩; have HK := hidIt (HK.out.on hq); have sS : y.cell? ⟨B1, 1, none⟩ = some (.string xn) ∧ y.cell? ⟨B1, 2, none⟩ = some (.slice xpa xps.length xpc) ∧ y.cell? ⟨B1, 3, none⟩ = some (.slice xla xls.length xlc) ∧ y.cell? ⟨B1, 4, none⟩ = some (.string xr) ∧ y.cell? ⟨B1, 5, none⟩ = some (.slice xba nb xbc) := ⟨cell_at (HK.out.get 0 rfl) 1, cell_at (HK.out.get 0 rfl) 2, cell_at (HK.out.get 0 rfl) 3, cell_at (HK.out.get 0 rfl) 4, cell_at (HK.out.get 0 rfl) 5⟩; clear hq)
                | (go_at_call 54; refine (C3.out _ HK.out.1).mono ?_; rintro e y ⟨rfl, hq⟩; have HK := hidIt (HK.out.on hq); have sS : y.cell? ⟨B1, 1, none⟩ = some (.string xn) ∧ y.cell? ⟨B1, 2, none⟩ = some (.slice xpa xps.length xpc) ∧ y.cell? ⟨B1, 3, none⟩ = some (.slice xla xls.length xlc) ∧ y.cell? ⟨B1, 4, none⟩ = some (.string xr) ∧ y.cell? ⟨B1, 5, none⟩ = some (.slice xba nb xbc) := ⟨cell_at (HK.out.get 0 rfl) 1, cell_at (HK.out.get 0 rfl) 2, cell_at (HK.out.get 0 rfl) 3, cell_at (HK.out.get 0 rfl) 4, cell_at (HK.out.get 0 rfl) 5⟩; clear hq)
                | (go_at_call 53; refine (C4.out _ HK.out.1).mono ?_; rintro e y ⟨rfl, hq⟩; have HK := hidIt (HK.out.on hq); have sS : y.cell? ⟨B1, 1, none⟩ = some (.string xn) ∧ y.cell? ⟨B1, 2, none⟩ = some (.slice xpa xps.length xpc) ∧ y.cell? ⟨B1, 3, none⟩ = some (.slice xla xls.length xlc) ∧ y.cell? ⟨B1, 4, none⟩ = some (.string xr) ∧ y.cell? ⟨B1, 5, none⟩ = some (.slice xba nb xbc) := ⟨cell_at (HK.out.get 0 rfl) 1, cell_at (HK.out.get 0 rfl) 2, cell_at (HK.out.get 0 rfl) 3, cell_at (HK.out.get 0 rfl) 4, cell_at (HK.out.get 0 rfl) 5⟩; clear hq))
               all_goals (go_wp2; go_meet; exact ⟨_, rfl, hidIt ⟨E1.out, by first | exact HK.out | exact HK.out.tail⟩⟩)
             case rest =>
              obtain ⟨t1, rfl, HC⟩ := hcut
              clear HK
              as_aux_lemma =>
               go_wp2_with fail
               go_loopg [3, 9] nb (fun g s3 s9 wr => ∃ a : Nat, ∃ t : ByteArray, a ≤ nb ∧ nb - a ≤ g ∧ s3 = .string t ∧ s9 = .int .i64 a ∧ Hid (t = bs (P1 ++ ((xbs.map BlockX.d).take a).flatMap blockK) ∧ Kept w [(B1, Obj.cells #[.int .i64 xa, .string xn, .slice xpa xps.length xpc, .slice xla xls.length xlc, .string xr, .slice xba nb xbc] 45 (0, 0)), (w.heap.size, Obj.cells #[.slice sa k sc, .slice ea j ec, .slice (some ⟨b1, o1, none⟩) n3 fc] 36 (0, 0))] wr))
               case atStart => exact ⟨0, _, Nat.zero_le _, by omega, rfl, rfl, hidIt ⟨by rw [HC.out.1, List.take_zero, List.flatMap_nil, List.append_nil], HC.out.2⟩⟩
               case round =>
                clear HC R
                obtain ⟨a, t, ha, hg4, rfl, rfl, R⟩ := hrel
                have p0 : wr.cell? ⟨B1, 5, none⟩ = some (.slice xba nb xbc) := cell_at (R.out.2.get 0 rfl) 5
                by_cases hlt4 : a < nb
                · as_aux_lemma =>
                   obtain ⟨y, hy⟩ : ∃ y, xbs[a]? = some y := ⟨_, List.getElem?_eq_getElem (by rw [N4.out]; exact hlt4)⟩
                   obtain ⟨b2, o2, rfl, g8⟩ := Sl.cell XO.out.1.2.2.1 (j := a) (r := y.row) (by rw [List.getElem?_map]; rw [hy]; rfl)
                   have g9 := g8 wr R.out.2.1
                   clear g8
                   have YO : Hid (y.Ok w) := hidIt (XO.out.2.1 _ (List.mem_of_getElem? hy))
                   have YD : Hid ((xbs.map BlockX.d)[a]? = some y.d) := hidIt (by rw [List.getElem?_map, hy]; rfl)
                   have YZ : Hid (y.d.sz ≤ 1048576) := hidIt (by
                    have h1 : y.d.sz ≤ szL BlockD.sz (xbs.map BlockX.d) := szL_mem (f := BlockD.sz) (List.mem_of_getElem? YD.out)
                    have h2 := XZ.out
                    unfold FuncD.sz at h2
                    simp only at h2
                    omega)
                   clear hy
                   obtain ⟨ya, yn, ysa, ysc, yss, tm⟩ := y
                   obtain ⟨tat, tk, ⟨tl, tsa, tsc, tst⟩, tn, taa, tac, tas, tba, tbc, tbs, tra, trc, trs⟩ := tm
                   have NS : yss.length ≤ 1048576 := by have := YO.out.1.1.1.big; rwa [List.length_map] at this
                   have NR : trs.length ≤ 1048576 := by have := YO.out.1.2.2.2.2.big; rwa [List.length_map] at this
                   have p1 := g9 0 _ rfl
                   have p2 := g9 1 _ rfl
                   have p3 := g9 2 _ rfl
                   have p4 := g9 3 _ rfl
                   have p5 := g9 4 _ rfl
                   have p6 := g9 5 _ rfl
                   have p7 := g9 6 _ rfl
                   have p8 := g9 7 _ rfl
                   have p9 := g9 8 _ rfl
                   have p10 := g9 9 _ rfl
                   have p11 := g9 10 _ rfl
                   rw [Nat.add_zero] at p1
                   obtain ⟨ns, hns⟩ : ∃ n, yss.length = n := ⟨_, rfl⟩
                   obtain ⟨tsn, htsn⟩ : ∃ n, tst.length = n := ⟨_, rfl⟩
                   obtain ⟨tan, htan⟩ : ∃ n, tas.length = n := ⟨_, rfl⟩
                   obtain ⟨tbn, htbn⟩ : ∃ n, tbs.length = n := ⟨_, rfl⟩
                   obtain ⟨trn, htrn⟩ : ∃ n, trs.length = n := ⟨_, rfl⟩
                   simp only [hns] at p3
                   simp only [htsn] at p7
                   simp only [htan] at p9
                   simp only [htbn] at p10
                   simp only [htrn] at p11
                   have N5 := hidIt hns
                   have N6 := hidIt htsn
                   have N7 := hidIt htan
                   have N8 := hidIt htbn
                   have N9 := hidIt htrn
                   rw [hns] at NS
                   rw [htrn] at NR
                   clear g9 hns htsn htan htbn htrn
                   clear p0
                   have p0 : wr.cell? ⟨B1, 5, none⟩ = some (.slice (some ⟨b2, o2, none⟩) nb xbc) := cell_at (R.out.2.get 0 rfl) 5
                   obtain ⟨P2, hP2⟩ : ∃ P2, P1 ++ (((xbs.map BlockX.d).take a).flatMap blockK ++ (keyS yn ++ (decL ns ++ [116]))) = P2 := ⟨_, rfl⟩
                   obtain ⟨TK, hTK⟩ : ∃ T, termK (⟨tat, tk, ⟨tl, tst⟩, tn, tas.map PlaceX.d, tbs, trs⟩ : TermD) = T := ⟨_, rfl⟩
                   have HTK := hidIt hTK
                   have HP2F : Hid (P2 ++ ((yss.map StmtX.d).flatMap stmtK ++ TK) = P1 ++ ((xbs.map BlockX.d).take (a + 1)).flatMap blockK) := hidIt (by
                    rw [flat_next blockK _ _ _ YD.out, ← hP2, ← hTK]
                    unfold blockK BlockX.d keyL
                    simp only [List.length_map, N5.out, TermX.d, PlaceX.d, List.append_assoc, List.cons_append, List.nil_append])
                   have HP2Z : Hid (P2.length + ((yss.map StmtX.d).flatMap stmtK ++ TK).length ≤ 400000000) := hidIt (le_of_append HP2F.out (by
                    have h1 := HP1Z.out
                    have h2 := flat_len_take blockK (xbs.map BlockX.d) (a + 1)
                    rw [List.length_append]
                    omega))
                   have hP2 := hidIt hP2
                   clear hTK
                   go_wp2_with fail
                   clear p0 p1 p2 p3 p4 p5 p6 p7 p8 p9 p10 p11
                   have HK := hidIt (R.out.2.new #[.int .i64 ya, .string yn, .slice ysa ns ysc, .int .i64 tat, .int .i64 tk, .string tl, .slice tsa tsn tsc, .string tn, .slice taa tan tac, .slice tba tbn tbc, .slice tra trn trc] 64)
                   obtain ⟨B2, eB⟩ : ∃ B2, B2 = wr.heap.size := ⟨_, rfl⟩
                   rw [← eB] at HK ⊢
                   clear eB
                   generalize wr.alloc (.cells #[.int .i64 ya, .string yn, .slice ysa ns ysc, .int .i64 tat, .int .i64 tk, .string tl, .slice tsa tsn tsc, .string tn, .slice taa tan tac, .slice tba tbn tbc, .slice tra trn trc] 64) = W1 at HK ⊢
                   go_cut [3] (fun s3 wx => ∃ t, s3 = .string t ∧ Hid (t = bs (P2) ∧ Kept w [(B2, Obj.cells #[.int .i64 ya, .string yn, .slice ysa ns ysc, .int .i64 tat, .int .i64 tk, .string tl, .slice tsa tsn tsc, .string tn, .slice taa tan tac, .slice tba tbn tbc, .slice tra trn trc] 64 (0, 0)), (B1, Obj.cells #[.int .i64 xa, .string xn, .slice xpa xps.length xpc, .slice xla xls.length xlc, .string xr, .slice (some ⟨b2, o2, none⟩) nb xbc] 45 (0, 0)), (w.heap.size, Obj.cells #[.slice sa k sc, .slice ea j ec, .slice (some ⟨b1, o1, none⟩) n3 fc] 36 (0, 0))] wx))
                   case first =>
                    as_aux_lemma =>
                     clear HPd HZ HP1F HP1Z hP1 XD XK N1 N2 N3 N4 N5 N6 N7 N8 N9 HT L1 L2 L3 HTK HP2F
                     have hwu2 : IntKind.u64.wrap (ns : Int) = (ns : Int) := IntWalk.u64_in _ (by omega)
                     have C0 : Hid (∀ W, Below w.heap.size w W → Calls Tryz.prog 54 #[.string yn] W fun e w' => e = .returned (.string (bs (keyS yn))) ∧ Below W.heap.size W w') := hidIt (fun W _ => key_any yn (fit_str (n := 1048576) (by have h2 : szS yn + _ + _ + 1 ≤ 1048576 := YZ.out; omega) (Nat.le_refl _)) W)
                     have C1 : Hid (∀ W, Below w.heap.size w W → Calls Tryz.prog 53 #[.int .u64 ns] W fun e w' => e = .returned (.string (bs (decL ns))) ∧ Below W.heap.size W w') := hidIt (fun W _ => digits_below _ (by omega) W)
                     have E1 : Hid (t ++ (bs (keyS yn) ++ bs (decL ns) ++ ⟨#[116]⟩) = bs (P2)) := hidIt (by
                      rw [R.out.1, bs_lit]; simp only [app_bs]; rw [← hP2.out]; try simp only [List.append_assoc])
                     have hsz : t.size + (bs (keyS yn) ++ bs (decL ns) ++ ⟨#[116]⟩).size ≤ 400000000 := by rw [← ByteArray.size_append, E1.out, bs_size]; have := HP2Z.out; omega
                     simp only [ByteArray.size_append] at hsz
                     obtain ⟨S0, hS0⟩ : ∃ S, bs (keyS yn) = S := ⟨_, rfl⟩
                     rw [hS0] at C0 E1 hsz
                     obtain ⟨S1, hS1⟩ : ∃ S, bs (decL ns) = S := ⟨_, rfl⟩
                     rw [hS1] at C1 E1 hsz
                     clear hS0 hS1
                     have hl116 : (⟨#[116]⟩ : ByteArray).size = 1 := rfl
                     rw [hl116] at hsz
                     clear hl116
                     have z0 : ¬ 9223372036854775807 < S0.size + S1.size := by omega
                     have z1 : ¬ 9223372036854775807 < S0.size + S1.size + 1 := by omega
                     have z2 : ¬ 9223372036854775807 < t.size + (S0.size + S1.size + 1) := by omega
                     clear hsz
                     have sw : W1.cell? ⟨B2, 1, none⟩ = some (.string yn) ∧ W1.cell? ⟨B2, 2, none⟩ = some (.slice ysa ns ysc) := ⟨cell_at (HK.out.get 0 rfl) 1, cell_at (HK.out.get 0 rfl) 2⟩
                     have HK := hidIt HK.out.drew
                     go_region_held3 (fun W => W.cell? ⟨B2, 1, none⟩ = some (.string yn) ∧ W.cell? ⟨B2, 2, none⟩ = some (.slice ysa ns ysc)) (go_keep)
                      (first
                      | (go_at_call 54; refine (C0.out _ HK.out.1).mono ?_; rintro e y ⟨rfl, hq⟩; have HK := hidIt (HK.out.on hq); have sS : y.cell? ⟨B2, 1, none⟩ = some (.string yn) ∧ y.cell? ⟨B2, 2, none⟩ = some (.slice ysa ns ysc) := ⟨cell_at (HK.out.get 0 rfl) 1, cell_at (HK.out.get 0 rfl) 2⟩; clear hq)
                      | (go_at_call 53; refine (C1.out _ HK.out.1).mono ?_; rintro e y ⟨rfl, hq⟩; have HK := hidIt (HK.out.on hq); have sS : y.cell? ⟨B2, 1, none⟩ = some (.string yn) ∧ y.cell? ⟨B2, 2, none⟩ = some (.slice ysa ns ysc) := ⟨cell_at (HK.out.get 0 rfl) 1, cell_at (HK.out.get 0 rfl) 2⟩; clear hq))
                     all_goals (go_wp2; go_meet; exact ⟨_, rfl, hidIt ⟨E1.out, by first | exact HK.out | exact HK.out.tail⟩⟩)
                   case rest =>
                    obtain ⟨t1, rfl, HC⟩ := hcut
                    clear HK
                    as_aux_lemma =>
                     go_wp2_with fail
                     go_loopg [3, 11] ns (fun g s3 s11 wr => ∃ c : Nat, ∃ t : ByteArray, c ≤ ns ∧ ns - c ≤ g ∧ s3 = .string t ∧ s11 = .int .i64 c ∧ Hid (t = bs (P2 ++ ((yss.map StmtX.d).take c).flatMap stmtK) ∧ Kept w [(B2, Obj.cells #[.int .i64 ya, .string yn, .slice ysa ns ysc, .int .i64 tat, .int .i64 tk, .string tl, .slice tsa tsn tsc, .string tn, .slice taa tan tac, .slice tba tbn tbc, .slice tra trn trc] 64 (0, 0)), (B1, Obj.cells #[.int .i64 xa, .string xn, .slice xpa xps.length xpc, .slice xla xls.length xlc, .string xr, .slice (some ⟨b2, o2, none⟩) nb xbc] 45 (0, 0)), (w.heap.size, Obj.cells #[.slice sa k sc, .slice ea j ec, .slice (some ⟨b1, o1, none⟩) n3 fc] 36 (0, 0))] wr))
                     case atStart => exact ⟨0, _, Nat.zero_le _, by omega, rfl, rfl, hidIt ⟨by rw [HC.out.1, List.take_zero, List.flatMap_nil, List.append_nil], HC.out.2⟩⟩
                     case round =>
                      clear HC R
                      obtain ⟨c, t, hc, hg5, rfl, rfl, R⟩ := hrel
                      have p0 : wr.cell? ⟨B2, 2, none⟩ = some (.slice ysa ns ysc) := cell_at (R.out.2.get 0 rfl) 2
                      by_cases hlt5 : c < ns
                      · as_aux_lemma =>
                         obtain ⟨z, hz⟩ : ∃ z, yss[c]? = some z := ⟨_, List.getElem?_eq_getElem (by rw [N5.out]; exact hlt5)⟩
                         obtain ⟨b3, o3, rfl, g8⟩ := Sl.cell YO.out.1.1.1 (j := c) (r := z.row) (by rw [List.getElem?_map]; rw [hz]; rfl)
                         have g9 := g8 wr R.out.2.1
                         clear g8
                         have ZO : Hid (z.Ok w) := hidIt (YO.out.2.1 _ (List.mem_of_getElem? hz))
                         have ZD : Hid ((yss.map StmtX.d)[c]? = some z.d) := hidIt (by rw [List.getElem?_map, hz]; rfl)
                         have ZZ : Hid (z.d.sz ≤ 1048576) := hidIt (by
                          have h1 : z.d.sz ≤ szL StmtD.sz (yss.map StmtX.d) := szL_mem (f := StmtD.sz) (List.mem_of_getElem? ZD.out)
                          have h2 : szS yn + szL StmtD.sz (yss.map StmtX.d) + _ + 1 ≤ 1048576 := YZ.out
                          omega)
                         clear hz
                         obtain ⟨zat, zk, ⟨zl, zsa, zsc, zst⟩, zn, znm, zv, zaa, zac, zas⟩ := z
                         have p1 := g9 0 _ rfl
                         have p2 := g9 1 _ rfl
                         have p3 := g9 2 _ rfl
                         have p4 := g9 3 _ rfl
                         have p5 := g9 4 _ rfl
                         have p6 := g9 5 _ rfl
                         have p7 := g9 6 _ rfl
                         have p8 := g9 7 _ rfl
                         rw [Nat.add_zero] at p1
                         obtain ⟨zsn, hzsn⟩ : ∃ n, zst.length = n := ⟨_, rfl⟩
                         obtain ⟨zan, hzan⟩ : ∃ n, zas.length = n := ⟨_, rfl⟩
                         simp only [hzsn] at p4
                         simp only [hzan] at p8
                         have M1 := hidIt hzsn
                         have M2 := hidIt hzan
                         clear g9 hzsn hzan p0
                         have p0 : wr.cell? ⟨B2, 2, none⟩ = some (.slice (some ⟨b3, o3, none⟩) ns ysc) := cell_at (R.out.2.get 0 rfl) 2
                         go_wp2_with fail
                         clear p0 p1 p2 p3 p4 p5 p6 p7 p8
                         have HK := hidIt (R.out.2.new #[.int .i64 zat, .int .i64 zk, .string zl, .slice zsa zsn zsc, .int .i64 zn, .string znm, .string zv, .slice zaa zan zac] 68)
                         obtain ⟨B3, eB⟩ : ∃ B3, B3 = wr.heap.size := ⟨_, rfl⟩
                         rw [← eB] at HK ⊢
                         clear eB
                         generalize wr.alloc (.cells #[.int .i64 zat, .int .i64 zk, .string zl, .slice zsa zsn zsc, .int .i64 zn, .string znm, .string zv, .slice zaa zan zac] 68) = W1 at HK ⊢
                         clear HPd HZ HP1F HP1Z hP1 hP2 XD XK XO XZ YD YZ YO N1 N2 N3 N4 N6 N7 N8 N9 HT L1 L2 L3 HTK HP2F
                         have C0 : Hid (∀ W, Below w.heap.size w W → Calls Tryz.prog 57 #[.int .i64 zk] W fun e w' => e = .returned (.string (bs (numK zk))) ∧ Below W.heap.size W w') := hidIt (fun W _ => numb_below zk ZO.out.2.2.1 W)
                         have C1 : Hid (∀ W B, Below w.heap.size w W → W.heap[B]? = some (.cells #[.string zl, .slice zsa zsn zsc] 24 (0, 0)) → Calls Tryz.prog 58 #[.slice (some ⟨B, 0, none⟩) 1 1] W fun e w' => e = .returned (.string (bs (keyL 40 placeK [⟨zl, zst⟩]))) ∧ Below W.heap.size W w') := hidIt (fun W B hW hB => by
                          have := placeKeys_any (some ⟨B, 0, none⟩) [(⟨zl, zsa, zsc, zst⟩ : PlaceX)] 1 W ⟨sl_one' (p := ⟨zl, zsa, zsc, zst⟩) (by rw [← M1.out] at hB; exact hB), fun q hq => by cases List.mem_singleton.1 hq; exact St.on ZO.out.1.1 hW⟩ (by have h2 : (⟨zl, zst⟩ : PlaceD).sz + szS znm + szS zv + szL PlaceD.sz (zas.map PlaceX.d) + 1 ≤ 1048576 := ZZ.out; show (⟨zl, zst⟩ : PlaceD).sz + 0 ≤ _; omega)
                          exact this)
                         have C2 : Hid (∀ W, Below w.heap.size w W → Calls Tryz.prog 57 #[.int .i64 zn] W fun e w' => e = .returned (.string (bs (numK zn))) ∧ Below W.heap.size W w') := hidIt (fun W _ => numb_below zn ZO.out.2.2.2 W)
                         have C3 : Hid (∀ W, Below w.heap.size w W → Calls Tryz.prog 54 #[.string znm] W fun e w' => e = .returned (.string (bs (keyS znm))) ∧ Below W.heap.size W w') := hidIt (fun W _ => key_any znm (fit_str (n := 1048576) (by have h2 : (⟨zl, zst⟩ : PlaceD).sz + szS znm + szS zv + _ + 1 ≤ 1048576 := ZZ.out; omega) (Nat.le_refl _)) W)
                         have C4 : Hid (∀ W, Below w.heap.size w W → Calls Tryz.prog 54 #[.string zv] W fun e w' => e = .returned (.string (bs (keyS zv))) ∧ Below W.heap.size W w') := hidIt (fun W _ => key_any zv (fit_str (n := 1048576) (by have h2 : (⟨zl, zst⟩ : PlaceD).sz + szS znm + szS zv + _ + 1 ≤ 1048576 := ZZ.out; omega) (Nat.le_refl _)) W)
                         have C5 : Hid (∀ W, Below w.heap.size w W → Calls Tryz.prog 58 #[.slice zaa zan zac] W fun e w' => e = .returned (.string (bs (keyL 40 placeK (zas.map PlaceX.d)))) ∧ Below W.heap.size W w') := hidIt (fun W hW => by have := placeKeys_any zaa zas zac W (Pls.on ZO.out.1.2 hW) (by have h2 : (⟨zl, zst⟩ : PlaceD).sz + szS znm + szS zv + szL PlaceD.sz (zas.map PlaceX.d) + 1 ≤ 1048576 := ZZ.out; omega); rwa [M2.out] at this)
                         have E1 : Hid (t ++ (bs (numK zk) ++ bs (keyL 40 placeK [(⟨zl, zst⟩ : PlaceD)]) ++ bs (numK zn) ++ ⟨#[59]⟩ ++ bs (keyS znm) ++ bs (keyS zv) ++ bs (keyL 40 placeK (zas.map PlaceX.d))) = bs (P2 ++ ((yss.map StmtX.d).take (c + 1)).flatMap stmtK)) := hidIt (by
                          rw [R.out.1, bs_lit, flat_next stmtK _ _ _ ZD.out]; simp only [app_bs, stmtK, StmtX.d, PlaceX.d, List.append_assoc, List.cons_append, List.nil_append])
                         have hsz : t.size + (bs (numK zk) ++ bs (keyL 40 placeK [(⟨zl, zst⟩ : PlaceD)]) ++ bs (numK zn) ++ ⟨#[59]⟩ ++ bs (keyS znm) ++ bs (keyS zv) ++ bs (keyL 40 placeK (zas.map PlaceX.d))).size ≤ 400000000 := by rw [← ByteArray.size_append, E1.out, bs_size]; have h1 := HP2Z.out; have h2 := flat_len_take stmtK (yss.map StmtX.d) (c + 1); rw [List.length_append] at h1 ⊢; omega
                         simp only [ByteArray.size_append] at hsz
                         obtain ⟨S0, hS0⟩ : ∃ S, bs (numK zk) = S := ⟨_, rfl⟩
                         rw [hS0] at C0 E1 hsz
                         obtain ⟨S1, hS1⟩ : ∃ S, bs (keyL 40 placeK [(⟨zl, zst⟩ : PlaceD)]) = S := ⟨_, rfl⟩
                         rw [hS1] at C1 E1 hsz
                         obtain ⟨S2, hS2⟩ : ∃ S, bs (numK zn) = S := ⟨_, rfl⟩
                         rw [hS2] at C2 E1 hsz
                         obtain ⟨S3, hS3⟩ : ∃ S, bs (keyS znm) = S := ⟨_, rfl⟩
                         rw [hS3] at C3 E1 hsz
                         obtain ⟨S4, hS4⟩ : ∃ S, bs (keyS zv) = S := ⟨_, rfl⟩
                         rw [hS4] at C4 E1 hsz
                         obtain ⟨S5, hS5⟩ : ∃ S, bs (keyL 40 placeK (zas.map PlaceX.d)) = S := ⟨_, rfl⟩
                         rw [hS5] at C5 E1 hsz
                         clear hS0 hS1 hS2 hS3 hS4 hS5
                         have hl59 : (⟨#[59]⟩ : ByteArray).size = 1 := rfl
                         rw [hl59] at hsz
                         clear hl59
                         have z0 : ¬ 9223372036854775807 < S0.size + S1.size := by omega
                         have z1 : ¬ 9223372036854775807 < S0.size + S1.size + S2.size := by omega
                         have z2 : ¬ 9223372036854775807 < S0.size + S1.size + S2.size + 1 := by omega
                         have z3 : ¬ 9223372036854775807 < S0.size + S1.size + S2.size + 1 + S3.size := by omega
                         have z4 : ¬ 9223372036854775807 < S0.size + S1.size + S2.size + 1 + S3.size + S4.size := by omega
                         have z5 : ¬ 9223372036854775807 < S0.size + S1.size + S2.size + 1 + S3.size + S4.size + S5.size := by omega
                         have z6 : ¬ 9223372036854775807 < t.size + (S0.size + S1.size + S2.size + 1 + S3.size + S4.size + S5.size) := by omega
                         clear hsz
                         have sw : W1.cell? ⟨B3, 1, none⟩ = some (.int .i64 zk) ∧ W1.cell? ⟨B3, 2, none⟩ = some (.string zl) ∧ W1.cell? ⟨B3, 3, none⟩ = some (.slice zsa zsn zsc) ∧ W1.cell? ⟨B3, 4, none⟩ = some (.int .i64 zn) ∧ W1.cell? ⟨B3, 5, none⟩ = some (.string znm) ∧ W1.cell? ⟨B3, 6, none⟩ = some (.string zv) ∧ W1.cell? ⟨B3, 7, none⟩ = some (.slice zaa zan zac) := ⟨cell_at (HK.out.get 0 rfl) 1, cell_at (HK.out.get 0 rfl) 2, cell_at (HK.out.get 0 rfl) 3, cell_at (HK.out.get 0 rfl) 4, cell_at (HK.out.get 0 rfl) 5, cell_at (HK.out.get 0 rfl) 6, cell_at (HK.out.get 0 rfl) 7⟩
                         have HK := hidIt HK.out.drew
                         have K0 : Hid True := hidIt trivial
                         have K1 : Hid True := hidIt trivial
                         have K3 : Hid True := hidIt trivial
                         go_region_held3 (fun W => W.cell? ⟨B3, 1, none⟩ = some (.int .i64 zk) ∧ W.cell? ⟨B3, 2, none⟩ = some (.string zl) ∧ W.cell? ⟨B3, 3, none⟩ = some (.slice zsa zsn zsc) ∧ W.cell? ⟨B3, 4, none⟩ = some (.int .i64 zn) ∧ W.cell? ⟨B3, 5, none⟩ = some (.string znm) ∧ W.cell? ⟨B3, 6, none⟩ = some (.string zv) ∧ W.cell? ⟨B3, 7, none⟩ = some (.slice zaa zan zac)) (first | go_keep | exact ⟨cell_at ((HK.out.new _ _).get 1 rfl) 1, cell_at ((HK.out.new _ _).get 1 rfl) 2, cell_at ((HK.out.new _ _).get 1 rfl) 3, cell_at ((HK.out.new _ _).get 1 rfl) 4, cell_at ((HK.out.new _ _).get 1 rfl) 5, cell_at ((HK.out.new _ _).get 1 rfl) 6, cell_at ((HK.out.new _ _).get 1 rfl) 7⟩ )
                          (first
                          | (go_at_call 57; have tk := K0; clear tk K0; refine (C0.out _ HK.out.1).mono ?_; rintro e y ⟨rfl, hq⟩; have HK := hidIt (HK.out.on hq); have sS : y.cell? ⟨B3, 1, none⟩ = some (.int .i64 zk) ∧ y.cell? ⟨B3, 2, none⟩ = some (.string zl) ∧ y.cell? ⟨B3, 3, none⟩ = some (.slice zsa zsn zsc) ∧ y.cell? ⟨B3, 4, none⟩ = some (.int .i64 zn) ∧ y.cell? ⟨B3, 5, none⟩ = some (.string znm) ∧ y.cell? ⟨B3, 6, none⟩ = some (.string zv) ∧ y.cell? ⟨B3, 7, none⟩ = some (.slice zaa zan zac) := ⟨cell_at (HK.out.get 0 rfl) 1, cell_at (HK.out.get 0 rfl) 2, cell_at (HK.out.get 0 rfl) 3, cell_at (HK.out.get 0 rfl) 4, cell_at (HK.out.get 0 rfl) 5, cell_at (HK.out.get 0 rfl) 6, cell_at (HK.out.get 0 rfl) 7⟩; clear hq)
                          | (go_at_call 57; have tk := K0; clear tk K0; refine (C0.out _ (HK.out.new _ _).1).mono ?_; rintro e y ⟨rfl, hq⟩; have HA := hidIt ((HK.out.new _ _).on hq); clear HK; have sS : y.cell? ⟨B3, 1, none⟩ = some (.int .i64 zk) ∧ y.cell? ⟨B3, 2, none⟩ = some (.string zl) ∧ y.cell? ⟨B3, 3, none⟩ = some (.slice zsa zsn zsc) ∧ y.cell? ⟨B3, 4, none⟩ = some (.int .i64 zn) ∧ y.cell? ⟨B3, 5, none⟩ = some (.string znm) ∧ y.cell? ⟨B3, 6, none⟩ = some (.string zv) ∧ y.cell? ⟨B3, 7, none⟩ = some (.slice zaa zan zac) := ⟨cell_at (HA.out.get 1 rfl) 1, cell_at (HA.out.get 1 rfl) 2, cell_at (HA.out.get 1 rfl) 3, cell_at (HA.out.get 1 rfl) 4, cell_at (HA.out.get 1 rfl) 5, cell_at (HA.out.get 1 rfl) 6, cell_at (HA.out.get 1 rfl) 7⟩; clear hq)
                          | (go_at_call 58; have tk := K1; clear tk K1; refine (C1.out _ _ HA.out.1 (HA.out.get 0 rfl)).mono ?_; rintro e y ⟨rfl, hq⟩; have HA := hidIt (HA.out.on hq); have sS : y.cell? ⟨B3, 1, none⟩ = some (.int .i64 zk) ∧ y.cell? ⟨B3, 2, none⟩ = some (.string zl) ∧ y.cell? ⟨B3, 3, none⟩ = some (.slice zsa zsn zsc) ∧ y.cell? ⟨B3, 4, none⟩ = some (.int .i64 zn) ∧ y.cell? ⟨B3, 5, none⟩ = some (.string znm) ∧ y.cell? ⟨B3, 6, none⟩ = some (.string zv) ∧ y.cell? ⟨B3, 7, none⟩ = some (.slice zaa zan zac) := ⟨cell_at (HA.out.get 1 rfl) 1, cell_at (HA.out.get 1 rfl) 2, cell_at (HA.out.get 1 rfl) 3, cell_at (HA.out.get 1 rfl) 4, cell_at (HA.out.get 1 rfl) 5, cell_at (HA.out.get 1 rfl) 6, cell_at (HA.out.get 1 rfl) 7⟩; clear hq)
                          | (go_at_call 58; have tk := K1; clear tk K1; refine (C1.out _ _ (HK.out.new _ _).1 ((HK.out.new _ _).get 0 rfl)).mono ?_; rintro e y ⟨rfl, hq⟩; have HA := hidIt ((HK.out.new _ _).on hq); clear HK; have sS : y.cell? ⟨B3, 1, none⟩ = some (.int .i64 zk) ∧ y.cell? ⟨B3, 2, none⟩ = some (.string zl) ∧ y.cell? ⟨B3, 3, none⟩ = some (.slice zsa zsn zsc) ∧ y.cell? ⟨B3, 4, none⟩ = some (.int .i64 zn) ∧ y.cell? ⟨B3, 5, none⟩ = some (.string znm) ∧ y.cell? ⟨B3, 6, none⟩ = some (.string zv) ∧ y.cell? ⟨B3, 7, none⟩ = some (.slice zaa zan zac) := ⟨cell_at (HA.out.get 1 rfl) 1, cell_at (HA.out.get 1 rfl) 2, cell_at (HA.out.get 1 rfl) 3, cell_at (HA.out.get 1 rfl) 4, cell_at (HA.out.get 1 rfl) 5, cell_at (HA.out.get 1 rfl) 6, cell_at (HA.out.get 1 rfl) 7⟩; clear hq)
                          | (go_at_call 57; refine (C2.out _ HA.out.1).mono ?_; rintro e y ⟨rfl, hq⟩; have HA := hidIt (HA.out.on hq); have sS : y.cell? ⟨B3, 1, none⟩ = some (.int .i64 zk) ∧ y.cell? ⟨B3, 2, none⟩ = some (.string zl) ∧ y.cell? ⟨B3, 3, none⟩ = some (.slice zsa zsn zsc) ∧ y.cell? ⟨B3, 4, none⟩ = some (.int .i64 zn) ∧ y.cell? ⟨B3, 5, none⟩ = some (.string znm) ∧ y.cell? ⟨B3, 6, none⟩ = some (.string zv) ∧ y.cell? ⟨B3, 7, none⟩ = some (.slice zaa zan zac) := ⟨cell_at (HA.out.get 1 rfl) 1, cell_at (HA.out.get 1 rfl) 2, cell_at (HA.out.get 1 rfl) 3, cell_at (HA.out.get 1 rfl) 4, cell_at (HA.out.get 1 rfl) 5, cell_at (HA.out.get 1 rfl) 6, cell_at (HA.out.get 1 rfl) 7⟩; clear hq)
                          | (go_at_call 54; have tk := K3; clear tk K3; refine (C3.out _ HA.out.1).mono ?_; rintro e y ⟨rfl, hq⟩; have HA := hidIt (HA.out.on hq); have sS : y.cell? ⟨B3, 1, none⟩ = some (.int .i64 zk) ∧ y.cell? ⟨B3, 2, none⟩ = some (.string zl) ∧ y.cell? ⟨B3, 3, none⟩ = some (.slice zsa zsn zsc) ∧ y.cell? ⟨B3, 4, none⟩ = some (.int .i64 zn) ∧ y.cell? ⟨B3, 5, none⟩ = some (.string znm) ∧ y.cell? ⟨B3, 6, none⟩ = some (.string zv) ∧ y.cell? ⟨B3, 7, none⟩ = some (.slice zaa zan zac) := ⟨cell_at (HA.out.get 1 rfl) 1, cell_at (HA.out.get 1 rfl) 2, cell_at (HA.out.get 1 rfl) 3, cell_at (HA.out.get 1 rfl) 4, cell_at (HA.out.get 1 rfl) 5, cell_at (HA.out.get 1 rfl) 6, cell_at (HA.out.get 1 rfl) 7⟩; clear hq)
                          | (go_at_call 54; refine (C4.out _ HA.out.1).mono ?_; rintro e y ⟨rfl, hq⟩; have HA := hidIt (HA.out.on hq); have sS : y.cell? ⟨B3, 1, none⟩ = some (.int .i64 zk) ∧ y.cell? ⟨B3, 2, none⟩ = some (.string zl) ∧ y.cell? ⟨B3, 3, none⟩ = some (.slice zsa zsn zsc) ∧ y.cell? ⟨B3, 4, none⟩ = some (.int .i64 zn) ∧ y.cell? ⟨B3, 5, none⟩ = some (.string znm) ∧ y.cell? ⟨B3, 6, none⟩ = some (.string zv) ∧ y.cell? ⟨B3, 7, none⟩ = some (.slice zaa zan zac) := ⟨cell_at (HA.out.get 1 rfl) 1, cell_at (HA.out.get 1 rfl) 2, cell_at (HA.out.get 1 rfl) 3, cell_at (HA.out.get 1 rfl) 4, cell_at (HA.out.get 1 rfl) 5, cell_at (HA.out.get 1 rfl) 6, cell_at (HA.out.get 1 rfl) 7⟩; clear hq)
                          | (go_at_call 58; refine (C5.out _ HA.out.1).mono ?_; rintro e y ⟨rfl, hq⟩; have HA := hidIt (HA.out.on hq); have sS : y.cell? ⟨B3, 1, none⟩ = some (.int .i64 zk) ∧ y.cell? ⟨B3, 2, none⟩ = some (.string zl) ∧ y.cell? ⟨B3, 3, none⟩ = some (.slice zsa zsn zsc) ∧ y.cell? ⟨B3, 4, none⟩ = some (.int .i64 zn) ∧ y.cell? ⟨B3, 5, none⟩ = some (.string znm) ∧ y.cell? ⟨B3, 6, none⟩ = some (.string zv) ∧ y.cell? ⟨B3, 7, none⟩ = some (.slice zaa zan zac) := ⟨cell_at (HA.out.get 1 rfl) 1, cell_at (HA.out.get 1 rfl) 2, cell_at (HA.out.get 1 rfl) 3, cell_at (HA.out.get 1 rfl) 4, cell_at (HA.out.get 1 rfl) 5, cell_at (HA.out.get 1 rfl) 6, cell_at (HA.out.get 1 rfl) 7⟩; clear hq))
                         all_goals go_wp2
                         all_goals go_roundg (ns - (c + 1))
                         all_goals first
                          | (case measure => omega)
                          | (case rel => exact ⟨c + 1, _, by omega, by omega, rfl, by go_num, hidIt ⟨E1.out, HA.out.tail.tail⟩⟩)
                      · have : c = ns := by omega
                        subst this
                        as_aux_lemma =>
                         have TO : Hid ((⟨tat, tk, ⟨tl, tsa, tsc, tst⟩, tn, taa, tac, tas, tba, tbc, tbs, tra, trc, trs⟩ : TermX).Ok w) := hidIt YO.out.2.2
                         have TZ : Hid ((⟨tat, tk, ⟨tl, tst⟩, tn, tas.map PlaceX.d, tbs, trs⟩ : TermD).sz ≤ 1048576) := hidIt (by
                          have h2 : szS yn + szL StmtD.sz (yss.map StmtX.d) + (⟨tat, tk, ⟨tl, tst⟩, tn, tas.map PlaceX.d, tbs, trs⟩ : TermD).sz + 1 ≤ 1048576 := YZ.out
                          omega)
                         obtain ⟨-, -, -, p3, p4, p5, p6, p7, p8, p9, p10⟩ := cells_11 (R.out.2.get 0 rfl)
                         obtain ⟨P3, hP3⟩ : ∃ P3, P2 ++ ((yss.map StmtX.d).flatMap stmtK ++ (numK tk ++ (keyL 40 placeK [(⟨tl, tst⟩ : PlaceD)] ++ (keyS tn ++ (keyL 40 placeK (tas.map PlaceX.d) ++ (keyL 91 keyS tbs ++ (decL trn ++ [97]))))))) = P3 := ⟨_, rfl⟩
                         have HP3F : Hid (P3 ++ trs.flatMap armK = P1 ++ ((xbs.map BlockX.d).take (a + 1)).flatMap blockK) := hidIt (by
                          rw [← HP2F.out, ← HTK.out, ← hP3]
                          unfold termK
                          simp only [keyL, N9.out, List.append_assoc, List.cons_append, List.nil_append])
                         have HP3Z : Hid (P3.length + (trs.flatMap armK).length ≤ 400000000) := hidIt (le_of_append HP3F.out (by
                          have h1 := HP1Z.out
                          have h2 := flat_len_take blockK (xbs.map BlockX.d) (a + 1)
                          rw [List.length_append]
                          omega))
                         have hP3 := hidIt hP3
                         go_wp2_with fail
                         clear p0 p3 p4 p5 p6 p7 p8 p9 p10
                         have HK := hidIt (R.out.2.new #[.int .i64 tat, .int .i64 tk, .string tl, .slice tsa tsn tsc, .string tn, .slice taa tan tac, .slice tba tbn tbc, .slice tra trn trc] 61)
                         obtain ⟨B3, eB⟩ : ∃ B3, B3 = wr.heap.size := ⟨_, rfl⟩
                         rw [← eB] at HK ⊢
                         clear eB
                         generalize wr.alloc (.cells #[.int .i64 tat, .int .i64 tk, .string tl, .slice tsa tsn tsc, .string tn, .slice taa tan tac, .slice tba tbn tbc, .slice tra trn trc] 61) = W1 at HK ⊢
                         go_cut [3] (fun s3 wx => ∃ t, s3 = .string t ∧ Hid (t = bs P3 ∧ Kept w [(B3, Obj.cells #[.int .i64 tat, .int .i64 tk, .string tl, .slice tsa tsn tsc, .string tn, .slice taa tan tac, .slice tba tbn tbc, .slice tra trn trc] 61 (0, 0)), (B2, Obj.cells #[.int .i64 ya, .string yn, .slice ysa c ysc, .int .i64 tat, .int .i64 tk, .string tl, .slice tsa tsn tsc, .string tn, .slice taa tan tac, .slice tba tbn tbc, .slice tra trn trc] 64 (0, 0)), (B1, Obj.cells #[.int .i64 xa, .string xn, .slice xpa xps.length xpc, .slice xla xls.length xlc, .string xr, .slice (some ⟨b2, o2, none⟩) nb xbc] 45 (0, 0)), (w.heap.size, Obj.cells #[.slice sa k sc, .slice ea j ec, .slice (some ⟨b1, o1, none⟩) n3 fc] 36 (0, 0))] wx))
                         case first =>
                          as_aux_lemma =>
                           clear HPd HZ HP1F HP1Z hP1 hP2 XD XK XO XZ YD YZ YO N1 N2 N3 N4 N9 HT L1 L2 L3 HTK HP2F HP3F
                           have C0 : Hid (∀ W, Below w.heap.size w W → Calls Tryz.prog 57 #[.int .i64 tk] W fun e w' => e = .returned (.string (bs (numK tk))) ∧ Below W.heap.size W w') := hidIt (fun W _ => numb_below tk TO.out.2.2 W)
                           have C1 : Hid (∀ W B, Below w.heap.size w W → W.heap[B]? = some (.cells #[.string tl, .slice tsa tsn tsc] 24 (0, 0)) → Calls Tryz.prog 58 #[.slice (some ⟨B, 0, none⟩) 1 1] W fun e w' => e = .returned (.string (bs (keyL 40 placeK [⟨tl, tst⟩]))) ∧ Below W.heap.size W w') := hidIt (fun W B hW hB => by
                            have := placeKeys_any (some ⟨B, 0, none⟩) [(⟨tl, tsa, tsc, tst⟩ : PlaceX)] 1 W ⟨sl_one' (p := ⟨tl, tsa, tsc, tst⟩) (by rw [← N6.out] at hB; exact hB), fun q hq => by cases List.mem_singleton.1 hq; exact St.on TO.out.1.1 hW⟩ (by have h2 : (⟨tl, tst⟩ : PlaceD).sz + szS tn + szL PlaceD.sz (tas.map PlaceX.d) + szL szS tbs + szL ArmD.sz trs + 1 ≤ 1048576 := TZ.out; show (⟨tl, tst⟩ : PlaceD).sz + 0 ≤ _; omega)
                            exact this)
                           have C2 : Hid (∀ W, Below w.heap.size w W → Calls Tryz.prog 54 #[.string tn] W fun e w' => e = .returned (.string (bs (keyS tn))) ∧ Below W.heap.size W w') := hidIt (fun W _ => key_any tn (fit_str (n := 1048576) (by have h2 : (⟨tl, tst⟩ : PlaceD).sz + szS tn + szL PlaceD.sz (tas.map PlaceX.d) + szL szS tbs + szL ArmD.sz trs + 1 ≤ 1048576 := TZ.out; omega) (Nat.le_refl _)) W)
                           have C3 : Hid (∀ W, Below w.heap.size w W → Calls Tryz.prog 58 #[.slice taa tan tac] W fun e w' => e = .returned (.string (bs (keyL 40 placeK (tas.map PlaceX.d)))) ∧ Below W.heap.size W w') := hidIt (fun W hW => by have := placeKeys_any taa tas tac W (Pls.on TO.out.1.2.1 hW) (by have h2 : (⟨tl, tst⟩ : PlaceD).sz + szS tn + szL PlaceD.sz (tas.map PlaceX.d) + szL szS tbs + szL ArmD.sz trs + 1 ≤ 1048576 := TZ.out; omega); rwa [N7.out] at this)
                           have C4 : Hid (∀ W, Below w.heap.size w W → Calls Tryz.prog 59 #[.slice tba tbn tbc] W fun e w' => e = .returned (.string (bs (keyL 91 keyS tbs))) ∧ Below W.heap.size W w') := hidIt (fun W hW => by have := keys_any tba tbs tbc W (St.on TO.out.1.2.2.1 hW) (by have h2 : (⟨tl, tst⟩ : PlaceD).sz + szS tn + szL PlaceD.sz (tas.map PlaceX.d) + szL szS tbs + szL ArmD.sz trs + 1 ≤ 1048576 := TZ.out; omega); rwa [N8.out] at this)
                           have C5 : Hid (∀ W, Below w.heap.size w W → Calls Tryz.prog 53 #[.int .u64 trn] W fun e w' => e = .returned (.string (bs (decL trn))) ∧ Below W.heap.size W w') := hidIt (fun W _ => digits_below _ (by omega) W)
                           have E1 : Hid (t ++ (bs (numK tk) ++ bs (keyL 40 placeK [(⟨tl, tst⟩ : PlaceD)]) ++ bs (keyS tn) ++ bs (keyL 40 placeK (tas.map PlaceX.d)) ++ bs (keyL 91 keyS tbs) ++ bs (decL trn) ++ ⟨#[97]⟩) = bs (P3)) := hidIt (by
                            rw [R.out.1, bs_lit]; simp only [app_bs]; rw [← hP3.out, List.take_of_length_le (l := yss.map StmtX.d) (by rw [List.length_map, N5.out]; exact Nat.le_refl _)]; try simp only [List.append_assoc])
                           have hsz : t.size + (bs (numK tk) ++ bs (keyL 40 placeK [(⟨tl, tst⟩ : PlaceD)]) ++ bs (keyS tn) ++ bs (keyL 40 placeK (tas.map PlaceX.d)) ++ bs (keyL 91 keyS tbs) ++ bs (decL trn) ++ ⟨#[97]⟩).size ≤ 400000000 := by rw [← ByteArray.size_append, E1.out, bs_size]; have h1 := HP3Z.out; omega
                           simp only [ByteArray.size_append] at hsz
                           obtain ⟨S0, hS0⟩ : ∃ S, bs (numK tk) = S := ⟨_, rfl⟩
                           rw [hS0] at C0 E1 hsz
                           obtain ⟨S1, hS1⟩ : ∃ S, bs (keyL 40 placeK [(⟨tl, tst⟩ : PlaceD)]) = S := ⟨_, rfl⟩
                           rw [hS1] at C1 E1 hsz
                           obtain ⟨S2, hS2⟩ : ∃ S, bs (keyS tn) = S := ⟨_, rfl⟩
                           rw [hS2] at C2 E1 hsz
                           obtain ⟨S3, hS3⟩ : ∃ S, bs (keyL 40 placeK (tas.map PlaceX.d)) = S := ⟨_, rfl⟩
                           rw [hS3] at C3 E1 hsz
                           obtain ⟨S4, hS4⟩ : ∃ S, bs (keyL 91 keyS tbs) = S := ⟨_, rfl⟩
                           rw [hS4] at C4 E1 hsz
                           obtain ⟨S5, hS5⟩ : ∃ S, bs (decL trn) = S := ⟨_, rfl⟩
                           rw [hS5] at C5 E1 hsz
                           clear hS0 hS1 hS2 hS3 hS4 hS5
                           have hl97 : (⟨#[97]⟩ : ByteArray).size = 1 := rfl
                           rw [hl97] at hsz
                           clear hl97
                           have z0 : ¬ 9223372036854775807 < S0.size + S1.size := by omega
                           have z1 : ¬ 9223372036854775807 < S0.size + S1.size + S2.size := by omega
                           have z2 : ¬ 9223372036854775807 < S0.size + S1.size + S2.size + S3.size := by omega
                           have z3 : ¬ 9223372036854775807 < S0.size + S1.size + S2.size + S3.size + S4.size := by omega
                           have z4 : ¬ 9223372036854775807 < S0.size + S1.size + S2.size + S3.size + S4.size + S5.size := by omega
                           have z5 : ¬ 9223372036854775807 < S0.size + S1.size + S2.size + S3.size + S4.size + S5.size + 1 := by omega
                           have z6 : ¬ 9223372036854775807 < t.size + (S0.size + S1.size + S2.size + S3.size + S4.size + S5.size + 1) := by omega
                           clear hsz
                           have sw : W1.cell? ⟨B3, 1, none⟩ = some (.int .i64 tk) ∧ W1.cell? ⟨B3, 2, none⟩ = some (.string tl) ∧ W1.cell? ⟨B3, 3, none⟩ = some (.slice tsa tsn tsc) ∧ W1.cell? ⟨B3, 4, none⟩ = some (.string tn) ∧ W1.cell? ⟨B3, 5, none⟩ = some (.slice taa tan tac) ∧ W1.cell? ⟨B3, 6, none⟩ = some (.slice tba tbn tbc) ∧ W1.cell? ⟨B3, 7, none⟩ = some (.slice tra trn trc) := ⟨cell_at (HK.out.get 0 rfl) 1, cell_at (HK.out.get 0 rfl) 2, cell_at (HK.out.get 0 rfl) 3, cell_at (HK.out.get 0 rfl) 4, cell_at (HK.out.get 0 rfl) 5, cell_at (HK.out.get 0 rfl) 6, cell_at (HK.out.get 0 rfl) 7⟩
                           have HK := hidIt HK.out.drew
                           have hwu3 : IntKind.u64.wrap (trn : Int) = (trn : Int) := IntWalk.u64_in _ (by omega)
                           have K1 : Hid True := hidIt trivial
                           go_region_held3 (fun W => W.cell? ⟨B3, 1, none⟩ = some (.int .i64 tk) ∧ W.cell? ⟨B3, 2, none⟩ = some (.string tl) ∧ W.cell? ⟨B3, 3, none⟩ = some (.slice tsa tsn tsc) ∧ W.cell? ⟨B3, 4, none⟩ = some (.string tn) ∧ W.cell? ⟨B3, 5, none⟩ = some (.slice taa tan tac) ∧ W.cell? ⟨B3, 6, none⟩ = some (.slice tba tbn tbc) ∧ W.cell? ⟨B3, 7, none⟩ = some (.slice tra trn trc)) (first | go_keep | exact ⟨cell_at ((HK.out.new _ _).get 1 rfl) 1, cell_at ((HK.out.new _ _).get 1 rfl) 2, cell_at ((HK.out.new _ _).get 1 rfl) 3, cell_at ((HK.out.new _ _).get 1 rfl) 4, cell_at ((HK.out.new _ _).get 1 rfl) 5, cell_at ((HK.out.new _ _).get 1 rfl) 6, cell_at ((HK.out.new _ _).get 1 rfl) 7⟩ )
                            (first
                            | (go_at_call 57; refine (C0.out _ HK.out.1).mono ?_; rintro e y ⟨rfl, hq⟩; have HK := hidIt (HK.out.on hq); have sS : y.cell? ⟨B3, 1, none⟩ = some (.int .i64 tk) ∧ y.cell? ⟨B3, 2, none⟩ = some (.string tl) ∧ y.cell? ⟨B3, 3, none⟩ = some (.slice tsa tsn tsc) ∧ y.cell? ⟨B3, 4, none⟩ = some (.string tn) ∧ y.cell? ⟨B3, 5, none⟩ = some (.slice taa tan tac) ∧ y.cell? ⟨B3, 6, none⟩ = some (.slice tba tbn tbc) ∧ y.cell? ⟨B3, 7, none⟩ = some (.slice tra trn trc) := ⟨cell_at (HK.out.get 0 rfl) 1, cell_at (HK.out.get 0 rfl) 2, cell_at (HK.out.get 0 rfl) 3, cell_at (HK.out.get 0 rfl) 4, cell_at (HK.out.get 0 rfl) 5, cell_at (HK.out.get 0 rfl) 6, cell_at (HK.out.get 0 rfl) 7⟩; clear hq)
                            | (go_at_call 57; refine (C0.out _ (HK.out.new _ _).1).mono ?_; rintro e y ⟨rfl, hq⟩; have HA := hidIt ((HK.out.new _ _).on hq); clear HK; have sS : y.cell? ⟨B3, 1, none⟩ = some (.int .i64 tk) ∧ y.cell? ⟨B3, 2, none⟩ = some (.string tl) ∧ y.cell? ⟨B3, 3, none⟩ = some (.slice tsa tsn tsc) ∧ y.cell? ⟨B3, 4, none⟩ = some (.string tn) ∧ y.cell? ⟨B3, 5, none⟩ = some (.slice taa tan tac) ∧ y.cell? ⟨B3, 6, none⟩ = some (.slice tba tbn tbc) ∧ y.cell? ⟨B3, 7, none⟩ = some (.slice tra trn trc) := ⟨cell_at (HA.out.get 1 rfl) 1, cell_at (HA.out.get 1 rfl) 2, cell_at (HA.out.get 1 rfl) 3, cell_at (HA.out.get 1 rfl) 4, cell_at (HA.out.get 1 rfl) 5, cell_at (HA.out.get 1 rfl) 6, cell_at (HA.out.get 1 rfl) 7⟩; clear hq)
                            | (go_at_call 58; have tk := K1; clear tk K1; refine (C1.out _ _ HA.out.1 (HA.out.get 0 rfl)).mono ?_; rintro e y ⟨rfl, hq⟩; have HA := hidIt (HA.out.on hq); have sS : y.cell? ⟨B3, 1, none⟩ = some (.int .i64 tk) ∧ y.cell? ⟨B3, 2, none⟩ = some (.string tl) ∧ y.cell? ⟨B3, 3, none⟩ = some (.slice tsa tsn tsc) ∧ y.cell? ⟨B3, 4, none⟩ = some (.string tn) ∧ y.cell? ⟨B3, 5, none⟩ = some (.slice taa tan tac) ∧ y.cell? ⟨B3, 6, none⟩ = some (.slice tba tbn tbc) ∧ y.cell? ⟨B3, 7, none⟩ = some (.slice tra trn trc) := ⟨cell_at (HA.out.get 1 rfl) 1, cell_at (HA.out.get 1 rfl) 2, cell_at (HA.out.get 1 rfl) 3, cell_at (HA.out.get 1 rfl) 4, cell_at (HA.out.get 1 rfl) 5, cell_at (HA.out.get 1 rfl) 6, cell_at (HA.out.get 1 rfl) 7⟩; clear hq)
                            | (go_at_call 58; have tk := K1; clear tk K1; refine (C1.out _ _ (HK.out.new _ _).1 ((HK.out.new _ _).get 0 rfl)).mono ?_; rintro e y ⟨rfl, hq⟩; have HA := hidIt ((HK.out.new _ _).on hq); clear HK; have sS : y.cell? ⟨B3, 1, none⟩ = some (.int .i64 tk) ∧ y.cell? ⟨B3, 2, none⟩ = some (.string tl) ∧ y.cell? ⟨B3, 3, none⟩ = some (.slice tsa tsn tsc) ∧ y.cell? ⟨B3, 4, none⟩ = some (.string tn) ∧ y.cell? ⟨B3, 5, none⟩ = some (.slice taa tan tac) ∧ y.cell? ⟨B3, 6, none⟩ = some (.slice tba tbn tbc) ∧ y.cell? ⟨B3, 7, none⟩ = some (.slice tra trn trc) := ⟨cell_at (HA.out.get 1 rfl) 1, cell_at (HA.out.get 1 rfl) 2, cell_at (HA.out.get 1 rfl) 3, cell_at (HA.out.get 1 rfl) 4, cell_at (HA.out.get 1 rfl) 5, cell_at (HA.out.get 1 rfl) 6, cell_at (HA.out.get 1 rfl) 7⟩; clear hq)
                            | (go_at_call 54; refine (C2.out _ HA.out.1).mono ?_; rintro e y ⟨rfl, hq⟩; have HA := hidIt (HA.out.on hq); have sS : y.cell? ⟨B3, 1, none⟩ = some (.int .i64 tk) ∧ y.cell? ⟨B3, 2, none⟩ = some (.string tl) ∧ y.cell? ⟨B3, 3, none⟩ = some (.slice tsa tsn tsc) ∧ y.cell? ⟨B3, 4, none⟩ = some (.string tn) ∧ y.cell? ⟨B3, 5, none⟩ = some (.slice taa tan tac) ∧ y.cell? ⟨B3, 6, none⟩ = some (.slice tba tbn tbc) ∧ y.cell? ⟨B3, 7, none⟩ = some (.slice tra trn trc) := ⟨cell_at (HA.out.get 1 rfl) 1, cell_at (HA.out.get 1 rfl) 2, cell_at (HA.out.get 1 rfl) 3, cell_at (HA.out.get 1 rfl) 4, cell_at (HA.out.get 1 rfl) 5, cell_at (HA.out.get 1 rfl) 6, cell_at (HA.out.get 1 rfl) 7⟩; clear hq)
                            | (go_at_call 58; refine (C3.out _ HA.out.1).mono ?_; rintro e y ⟨rfl, hq⟩; have HA := hidIt (HA.out.on hq); have sS : y.cell? ⟨B3, 1, none⟩ = some (.int .i64 tk) ∧ y.cell? ⟨B3, 2, none⟩ = some (.string tl) ∧ y.cell? ⟨B3, 3, none⟩ = some (.slice tsa tsn tsc) ∧ y.cell? ⟨B3, 4, none⟩ = some (.string tn) ∧ y.cell? ⟨B3, 5, none⟩ = some (.slice taa tan tac) ∧ y.cell? ⟨B3, 6, none⟩ = some (.slice tba tbn tbc) ∧ y.cell? ⟨B3, 7, none⟩ = some (.slice tra trn trc) := ⟨cell_at (HA.out.get 1 rfl) 1, cell_at (HA.out.get 1 rfl) 2, cell_at (HA.out.get 1 rfl) 3, cell_at (HA.out.get 1 rfl) 4, cell_at (HA.out.get 1 rfl) 5, cell_at (HA.out.get 1 rfl) 6, cell_at (HA.out.get 1 rfl) 7⟩; clear hq)
                            | (go_at_call 59; refine (C4.out _ HA.out.1).mono ?_; rintro e y ⟨rfl, hq⟩; have HA := hidIt (HA.out.on hq); have sS : y.cell? ⟨B3, 1, none⟩ = some (.int .i64 tk) ∧ y.cell? ⟨B3, 2, none⟩ = some (.string tl) ∧ y.cell? ⟨B3, 3, none⟩ = some (.slice tsa tsn tsc) ∧ y.cell? ⟨B3, 4, none⟩ = some (.string tn) ∧ y.cell? ⟨B3, 5, none⟩ = some (.slice taa tan tac) ∧ y.cell? ⟨B3, 6, none⟩ = some (.slice tba tbn tbc) ∧ y.cell? ⟨B3, 7, none⟩ = some (.slice tra trn trc) := ⟨cell_at (HA.out.get 1 rfl) 1, cell_at (HA.out.get 1 rfl) 2, cell_at (HA.out.get 1 rfl) 3, cell_at (HA.out.get 1 rfl) 4, cell_at (HA.out.get 1 rfl) 5, cell_at (HA.out.get 1 rfl) 6, cell_at (HA.out.get 1 rfl) 7⟩; clear hq)
                            | (go_at_call 53; refine (C5.out _ HA.out.1).mono ?_; rintro e y ⟨rfl, hq⟩; have HA := hidIt (HA.out.on hq); have sS : y.cell? ⟨B3, 1, none⟩ = some (.int .i64 tk) ∧ y.cell? ⟨B3, 2, none⟩ = some (.string tl) ∧ y.cell? ⟨B3, 3, none⟩ = some (.slice tsa tsn tsc) ∧ y.cell? ⟨B3, 4, none⟩ = some (.string tn) ∧ y.cell? ⟨B3, 5, none⟩ = some (.slice taa tan tac) ∧ y.cell? ⟨B3, 6, none⟩ = some (.slice tba tbn tbc) ∧ y.cell? ⟨B3, 7, none⟩ = some (.slice tra trn trc) := ⟨cell_at (HA.out.get 1 rfl) 1, cell_at (HA.out.get 1 rfl) 2, cell_at (HA.out.get 1 rfl) 3, cell_at (HA.out.get 1 rfl) 4, cell_at (HA.out.get 1 rfl) 5, cell_at (HA.out.get 1 rfl) 6, cell_at (HA.out.get 1 rfl) 7⟩; clear hq))
                           all_goals (go_wp2; go_meet; exact ⟨_, rfl, hidIt ⟨E1.out, HA.out.tail⟩⟩)
                         case rest =>
                          obtain ⟨t1, rfl, HC⟩ := hcut
                          clear HK
                          go_wp2_with fail
                          go_loopg [3, 14] trn (fun g s3 s14 wr => ∃ d : Nat, ∃ t : ByteArray, d ≤ trn ∧ trn - d ≤ g ∧ s3 = .string t ∧ s14 = .int .i64 d ∧ Hid (t = bs (P3 ++ (trs.take d).flatMap armK) ∧ Kept w [(B3, Obj.cells #[.int .i64 tat, .int .i64 tk, .string tl, .slice tsa tsn tsc, .string tn, .slice taa tan tac, .slice tba tbn tbc, .slice tra trn trc] 61 (0, 0)), (B2, Obj.cells #[.int .i64 ya, .string yn, .slice ysa c ysc, .int .i64 tat, .int .i64 tk, .string tl, .slice tsa tsn tsc, .string tn, .slice taa tan tac, .slice tba tbn tbc, .slice tra trn trc] 64 (0, 0)), (B1, Obj.cells #[.int .i64 xa, .string xn, .slice xpa xps.length xpc, .slice xla xls.length xlc, .string xr, .slice (some ⟨b2, o2, none⟩) nb xbc] 45 (0, 0)), (w.heap.size, Obj.cells #[.slice sa k sc, .slice ea j ec, .slice (some ⟨b1, o1, none⟩) n3 fc] 36 (0, 0))] wr))
                          case atStart => exact ⟨0, _, Nat.zero_le _, by omega, rfl, rfl, hidIt ⟨by rw [HC.out.1, List.take_zero, List.flatMap_nil, List.append_nil], HC.out.2⟩⟩
                          case round =>
                           clear HC R
                           obtain ⟨d, t, hd, hg6, rfl, rfl, R⟩ := hrel
                           have p0 : wr.cell? ⟨B3, 7, none⟩ = some (.slice tra trn trc) := cell_at (R.out.2.get 0 rfl) 7
                           by_cases hlt6 : d < trn
                           · as_aux_lemma =>
                              obtain ⟨x4, hx4⟩ : ∃ x, trs[d]? = some x := ⟨_, List.getElem?_eq_getElem (by rw [N9.out]; exact hlt6)⟩
                              obtain ⟨b4, o4, rfl, g8⟩ := Sl.cell TO.out.1.2.2.2 (j := d) (r := x4.row) (by rw [List.getElem?_map]; rw [hx4]; rfl)
                              have RX : Hid (trs[d]? = some x4) := hidIt hx4
                              have RZ : Hid (x4.sz ≤ 1048576) := hidIt (by
                               have h1 : x4.sz ≤ szL ArmD.sz trs := szL_mem (f := ArmD.sz) (List.mem_of_getElem? RX.out)
                               have h2 : (⟨tl, tst⟩ : PlaceD).sz + szS tn + szL PlaceD.sz (tas.map PlaceX.d) + szL szS tbs + szL ArmD.sz trs + 1 ≤ 1048576 := TZ.out
                               omega)
                              have G1 : Hid (∀ W, Kept w [(B3, Obj.cells #[.int .i64 tat, .int .i64 tk, .string tl, .slice tsa tsn tsc, .string tn, .slice taa tan tac, .slice tba tbn tbc, .slice (some ⟨b4, o4, none⟩) trn trc] 61 (0, 0)), (B2, Obj.cells #[.int .i64 ya, .string yn, .slice ysa c ysc, .int .i64 tat, .int .i64 tk, .string tl, .slice tsa tsn tsc, .string tn, .slice taa tan tac, .slice tba tbn tbc, .slice (some ⟨b4, o4, none⟩) trn trc] 64 (0, 0)), (B1, Obj.cells #[.int .i64 xa, .string xn, .slice xpa xps.length xpc, .slice xla xls.length xlc, .string xr, .slice (some ⟨b2, o2, none⟩) nb xbc] 45 (0, 0)), (w.heap.size, Obj.cells #[.slice sa k sc, .slice ea j ec, .slice (some ⟨b1, o1, none⟩) n3 fc] 36 (0, 0))] W → W.cell? ⟨B3, 7, none⟩ = some (.slice (some ⟨b4, o4, none⟩) trn trc) ∧ W.cell? ⟨b4, o4 + d * 3, none⟩ = some (.string x4.variant) ∧ W.cell? ⟨b4, o4 + d * 3 + 1, none⟩ = some (.string x4.loc) ∧ W.cell? ⟨b4, o4 + d * 3 + 2, none⟩ = some (.string x4.block)) := hidIt (fun W hW => ⟨cell_at (hW.get 0 rfl) 7, g8 W hW.1 0 _ rfl, g8 W hW.1 1 _ rfl, g8 W hW.1 2 _ rfl⟩)
                              clear hx4 g8 p0
                              have C0 : Hid (∀ W, Below w.heap.size w W → Calls Tryz.prog 54 #[.string x4.variant] W fun e w' => e = .returned (.string (bs (keyS x4.variant))) ∧ Below W.heap.size W w') := hidIt (fun W _ => key_any x4.variant (fit_str (n := 1048576) (by have h2 : szS x4.variant + szS x4.loc + szS x4.block ≤ 1048576 := RZ.out; omega) (Nat.le_refl _)) W)
                              have C1 : Hid (∀ W, Below w.heap.size w W → Calls Tryz.prog 54 #[.string x4.loc] W fun e w' => e = .returned (.string (bs (keyS x4.loc))) ∧ Below W.heap.size W w') := hidIt (fun W _ => key_any x4.loc (fit_str (n := 1048576) (by have h2 : szS x4.variant + szS x4.loc + szS x4.block ≤ 1048576 := RZ.out; omega) (Nat.le_refl _)) W)
                              have C2 : Hid (∀ W, Below w.heap.size w W → Calls Tryz.prog 54 #[.string x4.block] W fun e w' => e = .returned (.string (bs (keyS x4.block))) ∧ Below W.heap.size W w') := hidIt (fun W _ => key_any x4.block (fit_str (n := 1048576) (by have h2 : szS x4.variant + szS x4.loc + szS x4.block ≤ 1048576 := RZ.out; omega) (Nat.le_refl _)) W)
                              have E1 : Hid (t ++ (bs (keyS x4.variant) ++ bs (keyS x4.loc) ++ bs (keyS x4.block)) = bs (P3 ++ (trs.take (d + 1)).flatMap armK)) := hidIt (by
                               rw [R.out.1, flat_next armK _ _ _ RX.out]; simp only [app_bs, armK, List.append_assoc])
                              have hsz : t.size + (bs (keyS x4.variant) ++ bs (keyS x4.loc) ++ bs (keyS x4.block)).size ≤ 400000000 := by rw [← ByteArray.size_append, E1.out, bs_size]; have h1 := HP3Z.out; have h2 := flat_len_take armK trs (d + 1); rw [List.length_append]; omega
                              simp only [ByteArray.size_append] at hsz
                              obtain ⟨S0, hS0⟩ : ∃ S, bs (keyS x4.variant) = S := ⟨_, rfl⟩
                              rw [hS0] at C0 E1 hsz
                              obtain ⟨S1, hS1⟩ : ∃ S, bs (keyS x4.loc) = S := ⟨_, rfl⟩
                              rw [hS1] at C1 E1 hsz
                              obtain ⟨S2, hS2⟩ : ∃ S, bs (keyS x4.block) = S := ⟨_, rfl⟩
                              rw [hS2] at C2 E1 hsz
                              clear hS0 hS1 hS2
                              have z0 : ¬ 9223372036854775807 < S0.size + S1.size := by omega
                              have z1 : ¬ 9223372036854775807 < S0.size + S1.size + S2.size := by omega
                              have z2 : ¬ 9223372036854775807 < t.size + (S0.size + S1.size + S2.size) := by omega
                              clear hsz
                              have sw := G1.out _ R.out.2
                              have HK := hidIt R.out.2.drew
                              have K0 : Hid True := hidIt trivial
                              have K1 : Hid True := hidIt trivial
                              go_wp2_with fail
                              go_region_held3 (fun W => W.cell? ⟨B3, 7, none⟩ = some (.slice (some ⟨b4, o4, none⟩) trn trc) ∧ W.cell? ⟨b4, o4 + d * 3, none⟩ = some (.string x4.variant) ∧ W.cell? ⟨b4, o4 + d * 3 + 1, none⟩ = some (.string x4.loc) ∧ W.cell? ⟨b4, o4 + d * 3 + 2, none⟩ = some (.string x4.block)) (go_keep)
                               (first
                               | (go_at_call 54; have tk := K0; clear tk K0; refine (C0.out _ HK.out.1).mono ?_; rintro e y ⟨rfl, hq⟩; have HK := hidIt (HK.out.on hq); have sS : y.cell? ⟨B3, 7, none⟩ = some (.slice (some ⟨b4, o4, none⟩) trn trc) ∧ y.cell? ⟨b4, o4 + d * 3, none⟩ = some (.string x4.variant) ∧ y.cell? ⟨b4, o4 + d * 3 + 1, none⟩ = some (.string x4.loc) ∧ y.cell? ⟨b4, o4 + d * 3 + 2, none⟩ = some (.string x4.block) := G1.out _ HK.out; clear hq)
                               | (go_at_call 54; have tk := K1; clear tk K1; refine (C1.out _ HK.out.1).mono ?_; rintro e y ⟨rfl, hq⟩; have HK := hidIt (HK.out.on hq); have sS : y.cell? ⟨B3, 7, none⟩ = some (.slice (some ⟨b4, o4, none⟩) trn trc) ∧ y.cell? ⟨b4, o4 + d * 3, none⟩ = some (.string x4.variant) ∧ y.cell? ⟨b4, o4 + d * 3 + 1, none⟩ = some (.string x4.loc) ∧ y.cell? ⟨b4, o4 + d * 3 + 2, none⟩ = some (.string x4.block) := G1.out _ HK.out; clear hq)
                               | (go_at_call 54; refine (C2.out _ HK.out.1).mono ?_; rintro e y ⟨rfl, hq⟩; have HK := hidIt (HK.out.on hq); have sS : y.cell? ⟨B3, 7, none⟩ = some (.slice (some ⟨b4, o4, none⟩) trn trc) ∧ y.cell? ⟨b4, o4 + d * 3, none⟩ = some (.string x4.variant) ∧ y.cell? ⟨b4, o4 + d * 3 + 1, none⟩ = some (.string x4.loc) ∧ y.cell? ⟨b4, o4 + d * 3 + 2, none⟩ = some (.string x4.block) := G1.out _ HK.out; clear hq))
                              go_wp2
                              go_roundg (trn - (d + 1))
                              case measure => omega
                              case rel => exact ⟨d + 1, _, by omega, by omega, rfl, by go_num, hidIt ⟨E1.out, HK.out⟩⟩
                           · have : d = trn := by omega
                             subst this
                             have E2 : Hid (t = bs (P1 ++ ((xbs.map BlockX.d).take (a + 1)).flatMap blockK)) := hidIt (by rw [R.out.1, ← HP3F.out, List.take_of_length_le (by rw [N9.out]; exact Nat.le_refl _)])
                             go_wp2_with fail
                             go_roundg (nb - (a + 1))
                             case measure => omega
                             case rel => exact ⟨a + 1, _, by omega, by omega, rfl, by go_num, hidIt ⟨E2.out, R.out.2.tail.tail⟩⟩
                · have : a = nb := by omega
                  subst this
                  have E2 : Hid (t = bs (txF P (i + 1))) := hidIt (by rw [R.out.1, ← HP1F.out, List.take_of_length_le (by rw [List.length_map, N4.out]; exact Nat.le_refl _)])
                  go_wp2_with fail
                  go_roundg (n3 - (i + 1))
                  case measure => omega
                  case rel => exact ⟨i + 1, _, by omega, by omega, rfl, by go_num, hidIt ⟨E2.out, R.out.2.tail⟩⟩
          · have : i = n3 := by omega
            subst this
            have E9 : Hid (t = bs (progK P)) := hidIt (by rw [R.out.1, ← txF_all, L3.out])
            go_wp2_with fail
            go_ret
            exact ⟨by rw [E9.out]; rfl, R.out.2.1⟩
end Go.Proofs.YtlppbgmcoknliaaGreatDoor
