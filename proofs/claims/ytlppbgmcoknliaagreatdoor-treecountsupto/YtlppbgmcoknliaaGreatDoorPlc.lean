/-
  The walks of strings.Clone, anew (texts), SplitN, and Place.
-/
import Derived.Test.YtlppbgmcoknliaaGreatDoorCln3
import Derived.Test.YtlppbgmcoknliaaGreatDoorRgt
namespace Go.Proofs.YtlppbgmcoknliaaGreatDoor
set_option linter.unusedVariables false
open Go.RowKit

set_option maxHeartbeats 400000 in
theorem sclone_any (s : ByteArray) (hs : s.size ≤ 281474976710656) (w : World) :
 Calls Tryz.prog 37 #[.string s] w fun e w' => e = .returned (.string s) ∧ Below w.heap.size w w' := by
 have c := hidIt (fun w => Tryz.stringslite_Clone s w hs)
 go_enter Tryz.func37, Tryz.ntmps37
 go_wp2_with (go_at_call 85; refine (c.out _).mono ?_)
 rintro e w' ⟨rfl, hq⟩
 go_wp2
 go_ret
 exact ⟨rfl, hq⟩

set_option maxHeartbeats 2000000 in
set_option maxRecDepth 100000 in
theorem anew_string (a : Option Addr) (xs : List ByteArray) (c : Nat) (w : World) (hx : St w a xs) (hf : ∀ s ∈ xs, s.size ≤ 281474976710656) :
 Calls Tryz.prog 38 #[.slice a xs.length c, .func (.func 37) #[] #[]] w fun e w' => ∃ a' c', e = .returned (.slice a' xs.length c') ∧ xs.length ≤ c' ∧ St w' a' xs ∧ NewA w.heap.size a' xs.length ∧ Below w.heap.size w w' := by
 have n1 := hx.big
 have c1 : Hid (Calls Tryz.prog 86 #[.slice a xs.length c] w fun e w' => ∃ a' c', e = .returned (.slice a' xs.length c') ∧ xs.length ≤ c' ∧ Own w' w.heap.size 9 1 a' (strs xs) ∧ Below w.heap.size w w') := hidIt (by
  have := clone_string a (strs xs) c w hx (by intro u hu; obtain ⟨r, hr, hu⟩ := List.mem_flatten.1 hu; obtain ⟨x, _, rfl⟩ := List.mem_map.1 hr; cases List.mem_singleton.1 hu; rfl)
  rwa [strs_len] at this)
 have HF := hidIt hf
 clear hf hx
 obtain ⟨n, hn0⟩ : ∃ n, xs.length = n := ⟨_, rfl⟩
 rw [hn0] at n1 c1
 rw [hn0]
 have hn := hidIt hn0
 clear hn0
 go_enter Tryz.func38, Tryz.ntmps38
 go_wp2_with (go_at_call 86; refine c1.out.mono ?_)
 rintro e w1 ⟨a', c', rfl, hc', o1, hq⟩
 rcases o1.at_ with h0 | ⟨g, cur0, rfl, hB, hh, hcc⟩
 · have e0 : xs = [] := by simpa [strs] using h0
   obtain rfl : 0 = n := by rw [← hn.out, e0]; rfl
   have hq := hidIt hq
   clear o1 c1 HF
   go_wp2
   go_loopg [6, 7, 12] 0 (fun gg _ _ s12 wr => s12 = .int .i64 0 ∧ wr = w1)
   case atStart => exact ⟨rfl, rfl⟩
   case round =>
    obtain ⟨rfl, rfl⟩ := hrel
    go_wp2
    go_ret
    exact ⟨a', c', rfl, Nat.zero_le _, by rw [e0]; exact St.nil, .inl rfl, hq.out⟩
 · obtain ⟨o, ho⟩ : ∃ o, o = 0 := ⟨0, rfl⟩
   rw [← ho]
   have F0 : Hid (∀ (j : Nat) (s : ByteArray), xs[j]? = some s → cur0[o + j]? = some (.string s)) := hidIt fun j s hj => by
    rw [ho, Nat.zero_add]
    have := hcc j [.string s] 0 (.string s) (by simp [strs, hj]) rfl
    simpa using this
   have HH := hidIt hh
   have HQ := hidIt hq
   have HB := hidIt hB
   have HC := hidIt hc'
   clear o1 c1 hh hq hB hcc ho hc'
   go_wp2
   go_loopg [6, 7, 12] n (fun gg _ _ s12 wr => ∃ k : Nat, k ≤ n ∧ n - k ≤ gg ∧ s12 = .int .i64 k ∧ Hid (∃ (cur : Array Value), Below w.heap.size w wr ∧ wr.heap[g]? = some (.cells cur 9 (0, 0)) ∧ ∀ (j : Nat) (s : ByteArray), xs[j]? = some s → cur[o + j]? = some (.string s)))
   case atStart => exact ⟨0, Nat.zero_le _, by omega, rfl, hidIt ⟨cur0, HQ.out, HH.out, F0.out⟩⟩
   case round =>
    obtain ⟨k, hk, hg, rfl, R⟩ := hrel
    by_cases hlt : k < n
    · obtain ⟨cur, hb0, hg0, F⟩ := R.out
      clear R F0 HH HQ
      obtain ⟨x, hx⟩ : ∃ x, xs[k]? = some x := ⟨_, List.getElem?_eq_getElem (by rw [hn.out]; exact hlt)⟩
      have c37 : Hid (∀ W, Calls Tryz.prog 37 #[.string x] W fun e w' => e = .returned (.string x) ∧ Below W.heap.size W w') := hidIt fun W => sclone_any x (HF.out x (List.mem_of_getElem? hx)) W
      have p0 : wr.cell? ⟨g, o + k, none⟩ = some (.string x) := by rw [cell_at hg0]; exact F k x hx
      have hb := hidIt hb0
      have HG := hidIt hg0
      have FF := hidIt F
      have HX := hidIt hx
      clear hb0 hg0 F hx
      go_wp2_with (go_at_call 37; refine (c37.out _).mono ?_)
      rintro e w3 ⟨rfl, hq3⟩
      have HG3 := hidIt (heap_on HG.out hq3)
      have hb3 := hidIt (below_next hb.out hq3)
      clear p0 hq3 c37
      have p0 : w3.cell? ⟨g, o + k, none⟩ = some (.string x) := by rw [cell_at HG3.out]; exact FF.out k x HX.out
      have z0 : w3.frozen? ⟨g, o + k, none⟩ = false := frozen_at HG3.out _
      go_wp2
      have RES : Hid (∃ (cur : Array Value), Below w.heap.size w (w3.setCell ⟨g, o + k, none⟩ (.string x)) ∧ (w3.setCell ⟨g, o + k, none⟩ (.string x)).heap[g]? = some (.cells cur 9 (0, 0)) ∧ ∀ (j : Nat) (s : ByteArray), xs[j]? = some s → cur[o + j]? = some (.string s)) := hidIt (by
       refine ⟨_, hb3.out.setCell (p := ⟨g, o + k, none⟩) HB.out _, block_set HG3.out _, fun j s hj => ?_⟩
       have h1 := FF.out j s hj
       by_cases e : j = k
       · subst e
         obtain rfl : x = s := Option.some.inj (HX.out.symm.trans hj)
         rw [Array.getElem?_setIfInBounds_self_of_lt (Array.getElem?_eq_some_iff.1 h1).1]
       · rw [Array.getElem?_setIfInBounds_ne (by omega)]
         exact h1)
      go_roundg (n - (k + 1))
      case measure => omega
      case rel => exact ⟨k + 1, by omega, by omega, by go_num, RES⟩
    · have : k = n := by omega
      subst this
      clear F0 HH HQ HF
      go_wp2
      go_ret
      obtain ⟨cur, hb0, hg0, F⟩ := R.out
      have hxl : xs.length = k := hn.out
      refine ⟨some ⟨g, o, none⟩, c', rfl, HC.out, ⟨fun r hr => by obtain ⟨z, _, rfl⟩ := List.mem_map.1 hr; rfl, by rw [strs_len]; omega, .inr ⟨g, o, rfl, (Array.getElem?_eq_some_iff.1 hg0).1, fun j r i v hj hi => ?_⟩⟩, .inr ⟨g, o, rfl, HB.out⟩, hb0⟩
      rw [cell_at hg0]
      unfold strs at hj
      rw [List.getElem?_map, Option.map_eq_some_iff] at hj
      obtain ⟨s, hs, rfl⟩ := hj
      cases i with
      | zero =>
       simp at hi
       subst hi
       rw [Nat.mul_one, Nat.add_zero]
       exact F j s hs
      | succ i => simp at hi

/-- The parts of a text, between its dots: one more than a place has at the most. -/
def partsD (s : ByteArray) : List ByteArray := Lib.splitB ⟨#[46]⟩ 0 (min 10 (s.size + 1) - 1) s
theorem info9 : (Tryz.prog.info? 9).map (fun i => (i.zero, i.size, i.bytes)) = some (some (.string ByteArray.empty), 1, 16) := by kernel_rfl

set_option maxHeartbeats 1000000 in
theorem splitN_any (s : ByteArray) (hs : s.size < 4294967281) (w : World) :
 Calls Tryz.prog 35 #[.string s, .string ⟨#[46]⟩, .int .i64 10] w fun e w' => e = .returned (.slice (some ⟨w.heap.size, 0, none⟩) (partsD s).length (min 10 (s.size + 1))) ∧ w' = w.alloc (.cells (Lib.cellsOf (partsD s) (min 10 (s.size + 1))) 9) := by
 have c : Hid (Calls Tryz.prog 81 #[.string s, .string ⟨#[46]⟩, .int .i64 0, .int .i64 10] w fun e w' => e = .returned (.slice (some ⟨w.heap.size, 0, none⟩) (partsD s).length (min 10 (s.size + 1))) ∧ w' = w.alloc (.cells (Lib.cellsOf (partsD s) (min 10 (s.size + 1))) 9)) := hidIt (Any.strings_genSplit_core Tryz.lays221 info9 s ⟨#[46]⟩ 0 10 (min 10 (s.size + 1)) w hs (by decide) (by decide)
  (fun x c hx => by
    refine (Tryz.strings_Index_one x 46 _).mono fun e w' ⟨he, hw⟩ => ⟨?_, hw⟩
    rw [he]
    show _ = Ending.returned (Value.int .i64 (Lib.index x.data.toList [46]))
    rw [Lib.index_one])
  (by
    refine (Tryz.strings_Count_one s 46 w).mono fun e w' ⟨he, hw⟩ => ⟨?_, hw⟩
    rw [he]
    show _ = Ending.returned (Value.int .i64 ((Lib.count s.data.toList [46] : Nat) : Int))
    rw [Lib.count_one]
    rfl) (by decide) (by decide) (by rw [if_neg (by decide)]; omega))
 generalize (partsD s).length = n at c ⊢
 generalize Lib.cellsOf (partsD s) (min 10 (s.size + 1)) = cs at c ⊢
 generalize min 10 (s.size + 1) = m at c ⊢
 go_enter Tryz.func35, Tryz.ntmps35
 go_wp2_with (go_at_call 81; refine c.out.mono ?_)
 rintro e w' ⟨rfl, rfl⟩
 go_wp2
 go_ret
 exact ⟨rfl, rfl⟩

/-- The place of a text: its parts. -/
def readD (s : ByteArray) : PlaceD := ⟨(partsD s).headD ⟨#[]⟩, (partsD s).tail⟩
def noPlace : PlaceD := ⟨⟨#[]⟩, []⟩
theorem splitB_fit (sep : ByteArray) : ∀ (k : Nat) (s : ByteArray), ∀ x ∈ Lib.splitB sep 0 k s, x.size ≤ s.size
 | 0, s, x, hx => by rw [Lib.splitB_zero] at hx; cases List.mem_singleton.1 hx; exact Nat.le_refl _
 | k + 1, s, x, hx => by
  unfold Lib.splitB at hx
  split at hx
  · cases List.mem_singleton.1 hx; exact Nat.le_refl _
  · rcases List.mem_cons.1 hx with rfl | hx
    · simp [ByteArray.size_extract]; omega
    · have := splitB_fit sep k _ x hx
      simp [ByteArray.size_extract] at this
      omega
theorem parts_fit (s : ByteArray) : ∀ x ∈ partsD s, x.size ≤ s.size := splitB_fit _ _ s
theorem parts_pos (s : ByteArray) : 1 ≤ (partsD s).length := by
 unfold partsD
 generalize min 10 (s.size + 1) - 1 = k
 cases k with
 | zero => exact Nat.le_refl _
 | succ k => unfold Lib.splitB; split <;> simp
theorem parts_le (s : ByteArray) : (partsD s).length ≤ min 10 (s.size + 1) := by
 have := Lib.splitB_length_le ⟨#[46]⟩ 0 (min 10 (s.size + 1) - 1) s
 unfold partsD
 omega

set_option maxHeartbeats 2000000 in
set_option maxRecDepth 100000 in
theorem place_any (s : ByteArray) (hs : fitS s) (w : World) :
 Calls Tryz.prog 10 #[.string s] w fun e w' => ∃ y : PlaceX, e = .returned (.tuple #[.agg #[.string y.loc, .slice y.sa y.steps.length y.sc], .bool (placeR (readD s))]) ∧ y.d = (if placeR (readD s) = true then readD s else noPlace) ∧ y.steps.length ≤ y.sc ∧ y.At w' ∧ Below w.heap.size w w' := by
 have c35 : Hid (∀ W, Calls Tryz.prog 35 #[.string s, .string ⟨#[46]⟩, .int .i64 10] W fun e w' => e = .returned (.slice (some ⟨W.heap.size, 0, none⟩) (partsD s).length (min 10 (s.size + 1))) ∧ w' = W.alloc (.cells (Lib.cellsOf (partsD s) (min 10 (s.size + 1))) 9)) := hidIt fun W => splitN_any s (Nat.lt_of_le_of_lt hs (by decide)) W
 have hpf := hidIt (parts_fit s)
 have hl1 := parts_le s
 have hl0 := parts_pos s
 obtain ⟨q0, ps, eP⟩ : ∃ q0 ps, partsD s = q0 :: ps := by
  cases h : partsD s with
  | nil => rw [h] at hl0; simp at hl0
  | cons a l => exact ⟨a, l, rfl⟩
 have eR : readD s = ⟨q0, ps⟩ := by unfold readD; rw [eP]; rfl
 obtain ⟨N, hN⟩ : ∃ N, min 10 (s.size + 1) = N := ⟨_, rfl⟩
 rw [eR]
 rw [eP, hN] at c35
 rw [eP] at hpf hl1
 rw [hN] at hl1
 have hN10 : N ≤ 10 := by omega
 clear hl0 eP eR hN
 rw [List.length_cons] at c35 hl1
 have hfit : Hid (PlaceD.Fit ⟨q0, ps⟩) := hidIt ⟨Nat.le_trans (hpf.out q0 (by simp)) hs, fun x hx => Nat.le_trans (hpf.out x (by simp [hx])) hs⟩
 have HS := hidIt hs
 clear hs
 -- the parts' block
 have hcs : Hid (∀ (j : Nat) (x : ByteArray), (q0 :: ps)[j]? = some x → (Lib.cellsOf (q0 :: ps) N)[j]? = some (.string x)) := hidIt fun j x hj => by
  have hlt := (List.getElem?_eq_some_iff.1 hj).1
  unfold Lib.cellsOf
  rw [List.getElem?_toArray, List.getElem?_append_left (by rw [List.length_map]; exact hlt), List.getElem?_map, hj]
  rfl
 have H0 := hidIt (two_at (w := w) (cs := #[.string ⟨#[]⟩, .slice none 0 0]) (ds := Lib.cellsOf (q0 :: ps) N) (t := 24) (u := 9) rfl rfl (Below.refl _ _))
 have hb := hidIt (below_next (below_new w (.cells #[.string ⟨#[]⟩, .slice none 0 0] 24)) (below_new _ (.cells (Lib.cellsOf (q0 :: ps) N) 9)))
 have HSZ : Hid (((w.alloc (.cells #[.string ⟨#[]⟩, .slice none 0 0] 24)).alloc (.cells (Lib.cellsOf (q0 :: ps) N) 9)).heap.size = w.heap.size + 2) := hidIt (by rw [World.size_alloc, World.size_alloc])
 generalize hm : ps.length = m at *
 have hm := hidIt hm
 obtain ⟨R, hR⟩ : ∃ R, placeR ⟨q0, ps⟩ = R := ⟨_, rfl⟩
 rw [hR]
 obtain ⟨D, hD⟩ : ∃ D, (if R = true then (⟨q0, ps⟩ : PlaceD) else noPlace) = D := ⟨_, rfl⟩
 rw [hD]
 have HR := hidIt hR
 have HD := hidIt hD
 clear hR hD
 by_cases hN1 : N = 1
 · subst hN1
   obtain rfl : m = 0 := by omega
   go_enter Tryz.func10, Tryz.ntmps10
   go_wp2_with (go_at_call 35; refine (c35.out _).mono ?_)
   rintro e w1 ⟨rfl, rfl⟩
   clear c35
   generalize ((w.alloc (.cells #[.string ⟨#[]⟩, .slice none 0 0] 24)).alloc (.cells (Lib.cellsOf (q0 :: ps) 1) 9)) = W1 at H0 hb HSZ ⊢
   have p0 : W1.cell? ⟨w.heap.size + 1, 0, none⟩ = some (.string q0) := by rw [cell_at H0.out.2]; exact hcs.out 0 q0 rfl
   have hsz := HSZ.out
   have hb2 := hidIt (below_next hb.out (below_new W1 (.cells #[.string q0, .slice (some ⟨w.heap.size + 1, 0, none⟩) 0 (0)] 24)).drew)
   have HA : Hid ((W1.alloc (.cells #[.string q0, .slice (some ⟨w.heap.size + 1, 0, none⟩) 0 (0)] 24)).drew.heap[w.heap.size + 2]? = some (.cells #[.string q0, .slice (some ⟨w.heap.size + 1, 0, none⟩) 0 (0)] 24 (0, 0))) := hidIt (by
    have := heap_alloc_new W1 (.cells #[.string q0, .slice (some ⟨w.heap.size + 1, 0, none⟩) 0 (0)] 24)
    rw [hsz] at this
    exact this)
   have HB : Hid ((W1.alloc (.cells #[.string q0, .slice (some ⟨w.heap.size + 1, 0, none⟩) 0 (0)] 24)).drew.heap[w.heap.size]? = some (.cells #[.string ⟨#[]⟩, .slice none 0 0] 24 (0, 0))) := hidIt (heap_on H0.out.1 (below_new W1 _).drew)
   have HC : Hid ((W1.alloc (.cells #[.string q0, .slice (some ⟨w.heap.size + 1, 0, none⟩) 0 (0)] 24)).drew.heap[w.heap.size + 1]? = some (.cells (Lib.cellsOf (q0 :: ps) 1) 9 (0, 0))) := hidIt (heap_on H0.out.2 (below_new W1 _).drew)
   go_wp2
   go_region
   clear p0 hsz hb H0 HSZ
   generalize (W1.alloc (.cells #[.string q0, .slice (some ⟨w.heap.size + 1, 0, none⟩) 0 (0)] 24)).drew = W2 at hb2 HA HB HC ⊢
   have hst : Hid (St W2 (some ⟨w.heap.size + 1, 0, none⟩) ps) := hidIt (by
    have e : ps = [] := List.length_eq_zero_iff.1 hm.out
    rw [e]
    exact St.nil)
   clear HC
   obtain ⟨p0, p1⟩ := cells_2 HA.out
   have c36 : Hid (Calls Tryz.prog 36 #[.agg #[.string q0, .slice (some ⟨w.heap.size + 1, 0, none⟩) 0 (0)]] W2 fun e w' => e = .returned (.bool R) ∧ Below W2.heap.size W2 w') := hidIt (by
    have := place_right ⟨q0, some ⟨w.heap.size + 1, 0, none⟩, 0, ps⟩ W2 hst.out hfit.out
    simp only [hm.out] at this
    rw [← HR.out]
    exact this)
   cases R with
   | false =>
    obtain rfl : noPlace = D := HD.out
    go_wp2_with (go_at_call 36; refine c36.out.mono ?_)
    rintro e w3 ⟨he3, hq3⟩
    subst he3
    have H3 := hidIt (heap_on HB.out hq3)
    have hb3 := hidIt (below_next hb2.out hq3)
    clear p0 p1 hq3 c36 HA HB
    obtain ⟨r0, r1⟩ := cells_2 H3.out
    have u0 : w3.frozen? ⟨w.heap.size, 0, none⟩ = false := frozen_at H3.out 0
    have u1 : w3.frozen? ⟨w.heap.size, 1, none⟩ = false := frozen_at H3.out 1
    go_wp2
    (try simp only [Exit.inBlock, Exit.then])
    refine bodyPost_ret (show _ = Result.ok (.tuple #[.agg #[.string ⟨#[]⟩, .slice none 0 0], .bool false]) _ by simp [results, Tryz.results10, go_sem, r0, r1]) rfl ?_
    refine ⟨⟨⟨#[]⟩, none, 0, []⟩, rfl, rfl, Nat.le_refl _, St.nil, ?_⟩
    exact (hb3.out.setCell (p := ⟨w.heap.size, 0, none⟩) (Nat.le_refl _) _).setCell (p := ⟨w.heap.size, 1, none⟩) (Nat.le_refl _) _
   | true =>
    obtain rfl : (⟨q0, ps⟩ : PlaceD) = D := HD.out
    go_wp2_with (go_at_call 36; refine c36.out.mono ?_; rintro e w3 ⟨rfl, hq3⟩)
    have HA3 := hidIt (heap_on HA.out hq3)
    have HB3 := hidIt (heap_on HB.out hq3)
    have hb3 := hidIt (below_next hb2.out hq3)
    have hst3 := hidIt (St.on hst.out hq3)
    clear p0 p1 hq3 c36 HA HB hst
    obtain ⟨p0, p1⟩ := cells_2 HA3.out
    have c37 : Hid (∀ W, Calls Tryz.prog 37 #[.string q0] W fun e w' => e = .returned (.string q0) ∧ Below W.heap.size W w') := hidIt fun W => sclone_any q0 (Nat.le_trans hfit.out.1 (by decide)) W
    have c38 : Hid (∀ W, Below w3.heap.size w3 W → Calls Tryz.prog 38 #[.slice (some ⟨w.heap.size + 1, 0, none⟩) 0 (0), .func (.func 37) #[] #[]] W fun e w' => ∃ a' c', e = .returned (.slice a' 0 c') ∧ 0 ≤ c' ∧ St w' a' ps ∧ NewA W.heap.size a' 0 ∧ Below W.heap.size W w') := hidIt fun W hW => by
     have := anew_string (some ⟨w.heap.size + 1, 0, none⟩) ps (0) W (St.on hst3.out hW) (fun s h => Nat.le_trans (hfit.out.2 s h) (by decide))
     simp only [hm.out] at this
     exact this
    go_region_with (first
     | (go_at_call 37; refine (c37.out _).mono ?_; rintro e w4 ⟨rfl, hq4⟩; have hb4 := hidIt (below_next (Below.refl _ w3).drew hq4); have p0 : w4.cell? ⟨w.heap.size + 2, 0, none⟩ = some (.string q0) := cell_at (heap_on HA3.out hb4.out) 0; have p1 : w4.cell? ⟨w.heap.size + 2, 1, none⟩ = some (.slice (some ⟨w.heap.size + 1, 0, none⟩) 0 (0)) := cell_at (heap_on HA3.out hb4.out) 1; clear hq4)
     | (go_at_call 38; refine (c38.out _ hb4.out).mono ?_; rintro e w5 ⟨a', c', rfl, hc', hs5, hn5, hq5⟩; have hb5 := hidIt (below_next hb4.out hq5); have H5 := hidIt (heap_on HB3.out hb5.out); have HS5 := hidIt hs5; have HN5 := hidIt hn5; have HC5 := hidIt hc'; clear hs5 hn5 hq5 hc' p0 p1; have r0 : w5.cell? ⟨w.heap.size, 0, none⟩ = some (.string ⟨#[]⟩) := cell_at H5.out 0; have r1 : w5.cell? ⟨w.heap.size, 1, none⟩ = some (.slice none 0 0) := cell_at H5.out 1; have u0 : w5.frozen? ⟨w.heap.size, 0, none⟩ = false := frozen_at H5.out 0; have u1 : w5.frozen? ⟨w.heap.size, 1, none⟩ = false := frozen_at H5.out 1))
    all_goals
     go_wp2
     (try simp only [Exit.inBlock, Exit.then])
     refine bodyPost_ret (show _ = Result.ok (.tuple #[.agg #[.string q0, .slice a' 0 c'], .bool true]) _ by simp [results, Tryz.results10, go_sem, r0, r1]) rfl ?_
     refine ⟨⟨q0, a', c', ps⟩, by rw [hm.out], rfl, by rw [hm.out]; exact HC5.out, ?_, ?_⟩
     · have hlt : w.heap.size < w4.heap.size := Nat.lt_of_lt_of_le (Array.getElem?_eq_some_iff.1 HB3.out).1 hb4.out.size
       refine keepS (L := w4.heap.size) HS5.out (by rw [hm.out]; exact HN5.out) ?_
       refine Kps.set (a := ⟨w.heap.size, 1, none⟩) ?_ hlt _
       refine Kps.set (a := ⟨w.heap.size, 0, none⟩) ?_ hlt _
       exact Kps.refl _ _
     · exact (((below_next hb3.out hb5.out).setCell (p := ⟨w.heap.size, 0, none⟩) (Nat.le_refl _) _).setCell (p := ⟨w.heap.size, 1, none⟩) (Nat.le_refl _) _)
 · have hN2 : ¬ ((N : Int) = 1) := by omega
   have hN3 : ((1 : Int) ≤ (N : Int)) := by omega
   go_enter Tryz.func10, Tryz.ntmps10
   go_wp2_with (go_at_call 35; refine (c35.out _).mono ?_)
   rintro e w1 ⟨rfl, rfl⟩
   clear c35
   generalize ((w.alloc (.cells #[.string ⟨#[]⟩, .slice none 0 0] 24)).alloc (.cells (Lib.cellsOf (q0 :: ps) N) 9)) = W1 at H0 hb HSZ ⊢
   have p0 : W1.cell? ⟨w.heap.size + 1, 0, none⟩ = some (.string q0) := by rw [cell_at H0.out.2]; exact hcs.out 0 q0 rfl
   have hsz := HSZ.out
   have hb2 := hidIt (below_next hb.out (below_new W1 (.cells #[.string q0, .slice (some ⟨w.heap.size + 1, 1, none⟩) m (N - 1)] 24)).drew)
   have HA : Hid ((W1.alloc (.cells #[.string q0, .slice (some ⟨w.heap.size + 1, 1, none⟩) m (N - 1)] 24)).drew.heap[w.heap.size + 2]? = some (.cells #[.string q0, .slice (some ⟨w.heap.size + 1, 1, none⟩) m (N - 1)] 24 (0, 0))) := hidIt (by
    have := heap_alloc_new W1 (.cells #[.string q0, .slice (some ⟨w.heap.size + 1, 1, none⟩) m (N - 1)] 24)
    rw [hsz] at this
    exact this)
   have HB : Hid ((W1.alloc (.cells #[.string q0, .slice (some ⟨w.heap.size + 1, 1, none⟩) m (N - 1)] 24)).drew.heap[w.heap.size]? = some (.cells #[.string ⟨#[]⟩, .slice none 0 0] 24 (0, 0))) := hidIt (heap_on H0.out.1 (below_new W1 _).drew)
   have HC : Hid ((W1.alloc (.cells #[.string q0, .slice (some ⟨w.heap.size + 1, 1, none⟩) m (N - 1)] 24)).drew.heap[w.heap.size + 1]? = some (.cells (Lib.cellsOf (q0 :: ps) N) 9 (0, 0))) := hidIt (heap_on H0.out.2 (below_new W1 _).drew)
   go_wp2
   go_region
   clear p0 hsz hb H0 HSZ
   generalize (W1.alloc (.cells #[.string q0, .slice (some ⟨w.heap.size + 1, 1, none⟩) m (N - 1)] 24)).drew = W2 at hb2 HA HB HC ⊢
   have hst : Hid (St W2 (some ⟨w.heap.size + 1, 1, none⟩) ps) := hidIt (by
    refine ⟨fun r hr => by obtain ⟨z, _, rfl⟩ := List.mem_map.1 hr; rfl, by rw [strs_len, hm.out]; omega, .inr ⟨w.heap.size + 1, 1, rfl, (Array.getElem?_eq_some_iff.1 HC.out).1, fun j r i v hj hi => ?_⟩⟩
    unfold strs at hj
    rw [List.getElem?_map, Option.map_eq_some_iff] at hj
    obtain ⟨x, hx, rfl⟩ := hj
    cases i with
    | zero =>
     simp at hi
     subst hi
     rw [cell_at HC.out, Nat.mul_one, Nat.add_zero]
     exact hcs.out (1 + j) x (by rw [Nat.add_comm, List.getElem?_cons_succ]; exact hx)
    | succ i => simp at hi)
   clear HC
   obtain ⟨p0, p1⟩ := cells_2 HA.out
   have c36 : Hid (Calls Tryz.prog 36 #[.agg #[.string q0, .slice (some ⟨w.heap.size + 1, 1, none⟩) m (N - 1)]] W2 fun e w' => e = .returned (.bool R) ∧ Below W2.heap.size W2 w') := hidIt (by
    have := place_right ⟨q0, some ⟨w.heap.size + 1, 1, none⟩, N - 1, ps⟩ W2 hst.out hfit.out
    simp only [hm.out] at this
    rw [← HR.out]
    exact this)
   cases R with
   | false =>
    obtain rfl : noPlace = D := HD.out
    go_wp2_with (go_at_call 36; refine c36.out.mono ?_)
    rintro e w3 ⟨he3, hq3⟩
    subst he3
    have H3 := hidIt (heap_on HB.out hq3)
    have hb3 := hidIt (below_next hb2.out hq3)
    clear p0 p1 hq3 c36 HA HB
    obtain ⟨r0, r1⟩ := cells_2 H3.out
    have u0 : w3.frozen? ⟨w.heap.size, 0, none⟩ = false := frozen_at H3.out 0
    have u1 : w3.frozen? ⟨w.heap.size, 1, none⟩ = false := frozen_at H3.out 1
    go_wp2
    (try simp only [Exit.inBlock, Exit.then])
    refine bodyPost_ret (show _ = Result.ok (.tuple #[.agg #[.string ⟨#[]⟩, .slice none 0 0], .bool false]) _ by simp [results, Tryz.results10, go_sem, r0, r1]) rfl ?_
    refine ⟨⟨⟨#[]⟩, none, 0, []⟩, rfl, rfl, Nat.le_refl _, St.nil, ?_⟩
    exact (hb3.out.setCell (p := ⟨w.heap.size, 0, none⟩) (Nat.le_refl _) _).setCell (p := ⟨w.heap.size, 1, none⟩) (Nat.le_refl _) _
   | true =>
    obtain rfl : (⟨q0, ps⟩ : PlaceD) = D := HD.out
    go_wp2_with (go_at_call 36; refine c36.out.mono ?_; rintro e w3 ⟨rfl, hq3⟩)
    have HA3 := hidIt (heap_on HA.out hq3)
    have HB3 := hidIt (heap_on HB.out hq3)
    have hb3 := hidIt (below_next hb2.out hq3)
    have hst3 := hidIt (St.on hst.out hq3)
    clear p0 p1 hq3 c36 HA HB hst
    obtain ⟨p0, p1⟩ := cells_2 HA3.out
    have c37 : Hid (∀ W, Calls Tryz.prog 37 #[.string q0] W fun e w' => e = .returned (.string q0) ∧ Below W.heap.size W w') := hidIt fun W => sclone_any q0 (Nat.le_trans hfit.out.1 (by decide)) W
    have c38 : Hid (∀ W, Below w3.heap.size w3 W → Calls Tryz.prog 38 #[.slice (some ⟨w.heap.size + 1, 1, none⟩) m (N - 1), .func (.func 37) #[] #[]] W fun e w' => ∃ a' c', e = .returned (.slice a' m c') ∧ m ≤ c' ∧ St w' a' ps ∧ NewA W.heap.size a' m ∧ Below W.heap.size W w') := hidIt fun W hW => by
     have := anew_string (some ⟨w.heap.size + 1, 1, none⟩) ps (N - 1) W (St.on hst3.out hW) (fun s h => Nat.le_trans (hfit.out.2 s h) (by decide))
     simp only [hm.out] at this
     exact this
    go_region_with (first
     | (go_at_call 37; refine (c37.out _).mono ?_; rintro e w4 ⟨rfl, hq4⟩; have hb4 := hidIt (below_next (Below.refl _ w3).drew hq4); have p0 : w4.cell? ⟨w.heap.size + 2, 0, none⟩ = some (.string q0) := cell_at (heap_on HA3.out hb4.out) 0; have p1 : w4.cell? ⟨w.heap.size + 2, 1, none⟩ = some (.slice (some ⟨w.heap.size + 1, 1, none⟩) m (N - 1)) := cell_at (heap_on HA3.out hb4.out) 1; clear hq4)
     | (go_at_call 38; refine (c38.out _ hb4.out).mono ?_; rintro e w5 ⟨a', c', rfl, hc', hs5, hn5, hq5⟩; have hb5 := hidIt (below_next hb4.out hq5); have H5 := hidIt (heap_on HB3.out hb5.out); have HS5 := hidIt hs5; have HN5 := hidIt hn5; have HC5 := hidIt hc'; clear hs5 hn5 hq5 hc' p0 p1; have r0 : w5.cell? ⟨w.heap.size, 0, none⟩ = some (.string ⟨#[]⟩) := cell_at H5.out 0; have r1 : w5.cell? ⟨w.heap.size, 1, none⟩ = some (.slice none 0 0) := cell_at H5.out 1; have u0 : w5.frozen? ⟨w.heap.size, 0, none⟩ = false := frozen_at H5.out 0; have u1 : w5.frozen? ⟨w.heap.size, 1, none⟩ = false := frozen_at H5.out 1))
    all_goals
     go_wp2
     (try simp only [Exit.inBlock, Exit.then])
     refine bodyPost_ret (show _ = Result.ok (.tuple #[.agg #[.string q0, .slice a' m c'], .bool true]) _ by simp [results, Tryz.results10, go_sem, r0, r1]) rfl ?_
     refine ⟨⟨q0, a', c', ps⟩, by rw [hm.out], rfl, by rw [hm.out]; exact HC5.out, ?_, ?_⟩
     · have hlt : w.heap.size < w4.heap.size := Nat.lt_of_lt_of_le (Array.getElem?_eq_some_iff.1 HB3.out).1 hb4.out.size
       refine keepS (L := w4.heap.size) HS5.out (by rw [hm.out]; exact HN5.out) ?_
       refine Kps.set (a := ⟨w.heap.size, 1, none⟩) ?_ hlt _
       refine Kps.set (a := ⟨w.heap.size, 0, none⟩) ?_ hlt _
       exact Kps.refl _ _
     · exact (((below_next hb3.out hb5.out).setCell (p := ⟨w.heap.size, 0, none⟩) (Nat.le_refl _) _).setCell (p := ⟨w.heap.size, 1, none⟩) (Nat.le_refl _) _)
end Go.Proofs.YtlppbgmcoknliaaGreatDoor
