/-
  The walk of TreePlaces.
-/
import Derived.Test.YtlppbgmcoknliaaGreatDoorTBk
import Derived.Deep.RegionHeld3
import Derived.Test.YtlppbgmcoknliaaGreatDoorAlv2
import Derived.Test.YtlppbgmcoknliaaGreatDoorPlQ
namespace Go.Proofs.YtlppbgmcoknliaaGreatDoor
set_option linter.unusedVariables false
open Go.RowKit

set_option maxHeartbeats 4000000 in
set_option maxRecDepth 100000 in
theorem places_long (s l1 l2 : ByteArray) (s1 s2 : Option Addr) (n1 c1 n2 c2 : Nat) (w : World) (hs : s.size ≤ 1048576) (h1 : n1 ≤ 1048576) (h2 : n2 ≤ 1048576) (h : 1000 < s.size ∨ 100 < n1 ∨ 100 < n2) :
    Calls Tryz.prog 3 #[.string s, .agg #[.string l1, .slice s1 n1 c1], .agg #[.string l2, .slice s2 n2 c2]] w fun e w' => e = .returned (.bool true) ∧ Below w.heap.size w w' := by
  have hb := hidIt (below_next (below_new w (.cells #[.string l1, .slice s1 n1 c1] 24)) (below_new _ (.cells #[.string l2, .slice s2 n2 c2] 24)))
  obtain ⟨hh1, hh2⟩ := two_at (w := w) (cs := #[.string l1, .slice s1 n1 c1]) (ds := #[.string l2, .slice s2 n2 c2]) (t := 24) (u := 24) rfl rfl (Below.refl _ _)
  have H1 := hidIt hh1
  have H2 := hidIt hh2
  clear hh1 hh2
  by_cases hz : 1000 < s.size
  · have hz1 : (s.size : Int) > 1000 := by omega
    go_enter Tryz.func3, Tryz.ntmps3
    go_wp2_with (first | (go_at_call 9; refine (alive_any _).mono ?_; rintro e w1 ⟨rfl, hq⟩; have hb := hidIt (below_next hb.out hq); have H1 := hidIt (heap_on H1.out hq); have H2 := hidIt (heap_on H2.out hq); clear hq; have p1 : w1.cell? ⟨w.heap.size, 1, none⟩ = some (.slice s1 n1 c1) := cell_at H1.out 1; have q1 : w1.cell? ⟨w.heap.size + 1, 1, none⟩ = some (.slice s2 n2 c2) := cell_at H2.out 1))
    go_ret
    exact ⟨rfl, hb.out⟩
  · have hz1 : ¬ ((s.size : Int) > 1000) := by omega
    by_cases hn : 100 < n1
    · have hn1 : (n1 : Int) > 100 := by omega
      go_enter Tryz.func3, Tryz.ntmps3
      go_wp2_with (first | (go_at_call 9; refine (alive_any _).mono ?_; rintro e w1 ⟨rfl, hq⟩; have hb := hidIt (below_next hb.out hq); have H1 := hidIt (heap_on H1.out hq); have H2 := hidIt (heap_on H2.out hq); clear hq; have p1 : w1.cell? ⟨w.heap.size, 1, none⟩ = some (.slice s1 n1 c1) := cell_at H1.out 1; have q1 : w1.cell? ⟨w.heap.size + 1, 1, none⟩ = some (.slice s2 n2 c2) := cell_at H2.out 1))
      go_ret
      exact ⟨rfl, hb.out⟩
    · have hn1 : ¬ ((n1 : Int) > 100) := by omega
      have hn2 : (n2 : Int) > 100 := by omega
      go_enter Tryz.func3, Tryz.ntmps3
      go_wp2_with (first | (go_at_call 9; refine (alive_any _).mono ?_; rintro e w1 ⟨rfl, hq⟩; have hb := hidIt (below_next hb.out hq); have H1 := hidIt (heap_on H1.out hq); have H2 := hidIt (heap_on H2.out hq); clear hq; have p1 : w1.cell? ⟨w.heap.size, 1, none⟩ = some (.slice s1 n1 c1) := cell_at H1.out 1; have q1 : w1.cell? ⟨w.heap.size + 1, 1, none⟩ = some (.slice s2 n2 c2) := cell_at H2.out 1))
      go_ret
      exact ⟨rfl, hb.out⟩

/-- The four places, in their boxes. -/
structure PI (w : World) (l1 l2 l3 l4 : ByteArray) (s1 s2 s3 s4 : Option Addr) (n1 c1 n2 c2 n3 c3 n4 c4 : Nat) (xs ys zs us : List ByteArray) (B1 B2 B3 B4 : Nat) (W : World) : Prop where
  bel : Below w.heap.size w W
  h1 : W.heap[B1]? = some (.cells #[.string l1, .slice s1 n1 c1] 24 (0, 0))
  h2 : W.heap[B2]? = some (.cells #[.string l2, .slice s2 n2 c2] 24 (0, 0))
  h3 : W.heap[B3]? = some (.cells #[.string l3, .slice s3 n3 c3] 24 (0, 0))
  h4 : W.heap[B4]? = some (.cells #[.string l4, .slice s4 n4 c4] 24 (0, 0))
  t1 : St W s1 xs
  t2 : St W s2 ys
  t3 : St W s3 zs
  t4 : St W s4 us
theorem PI.on {w W W' : World} {l1 l2 l3 l4 : ByteArray} {s1 s2 s3 s4 : Option Addr} {n1 c1 n2 c2 n3 c3 n4 c4 : Nat} {xs ys zs us : List ByteArray} {B1 B2 B3 B4 : Nat} (h : PI w l1 l2 l3 l4 s1 s2 s3 s4 n1 c1 n2 c2 n3 c3 n4 c4 xs ys zs us B1 B2 B3 B4 W) (hb : Below W.heap.size W W') : PI w l1 l2 l3 l4 s1 s2 s3 s4 n1 c1 n2 c2 n3 c3 n4 c4 xs ys zs us B1 B2 B3 B4 W' :=
  ⟨below_next h.bel hb, heap_on h.h1 hb, heap_on h.h2 hb, heap_on h.h3 hb, heap_on h.h4 hb, h.t1.on hb, h.t2.on hb, h.t3.on hb, h.t4.on hb⟩
theorem PI.cells {w W : World} {l1 l2 l3 l4 : ByteArray} {s1 s2 s3 s4 : Option Addr} {n1 c1 n2 c2 n3 c3 n4 c4 : Nat} {xs ys zs us : List ByteArray} {B1 B2 B3 B4 : Nat} (h : PI w l1 l2 l3 l4 s1 s2 s3 s4 n1 c1 n2 c2 n3 c3 n4 c4 xs ys zs us B1 B2 B3 B4 W) : W.cell? ⟨B1, 0, none⟩ = some (.string l1) ∧ W.cell? ⟨B1, 1, none⟩ = some (.slice s1 n1 c1) ∧ W.cell? ⟨B2, 0, none⟩ = some (.string l2) ∧ W.cell? ⟨B2, 1, none⟩ = some (.slice s2 n2 c2) ∧ W.cell? ⟨B3, 0, none⟩ = some (.string l3) ∧ W.cell? ⟨B3, 1, none⟩ = some (.slice s3 n3 c3) ∧ W.cell? ⟨B4, 0, none⟩ = some (.string l4) ∧ W.cell? ⟨B4, 1, none⟩ = some (.slice s4 n4 c4) :=
  ⟨cell_at h.h1 0, cell_at h.h1 1, cell_at h.h2 0, cell_at h.h2 1, cell_at h.h3 0, cell_at h.h3 1, cell_at h.h4 0, cell_at h.h4 1⟩

/-- A place is answered, and whether it is one. -/
def PlP (R : Bool) (D : PlaceD) (w : World) (e : Ending) (w' : World) : Prop := ∃ (l : ByteArray) (sa : Option Addr) (n c : Nat) (zs : List ByteArray), e = .returned (.tuple #[.agg #[.string l, .slice sa n c], .bool R]) ∧ zs.length = n ∧ (⟨l, zs⟩ : PlaceD) = D ∧ n ≤ c ∧ St w' sa zs ∧ Below w.heap.size w w'

set_option maxHeartbeats 4000000 in
set_option maxRecDepth 100000 in
theorem places_short (s : ByteArray) (a b : PlaceX) (w : World) (hs : fitS s) (ha : a.At w) (hb0 : b.At w) (hf : a.d.Fit) (hl : (textL a.d).length ≤ 1048576) (hac : a.steps.length ≤ a.sc) (hbc : b.steps.length ≤ b.sc) (h0 : s.size ≤ 1000) (h1 : a.steps.length ≤ 100) (h2 : b.steps.length ≤ 100) :
    Calls Tryz.prog 3 #[.string s, .agg #[.string a.loc, .slice a.sa a.steps.length a.sc], .agg #[.string b.loc, .slice b.sa b.steps.length b.sc]] w fun e w' => e = .returned (.bool true) ∧ Below w.heap.size w w' := by
  obtain ⟨l1, s1, c1, xs⟩ := a
  obtain ⟨l2, s2, c2, ys⟩ := b
  simp only at ha hb0 hac hbc h1 h2 hl hf ⊢
  have HA := hidIt ha
  have HB := hidIt hb0
  have HF := hidIt hf
  have HL := hidIt hl
  have HS := hidIt hs
  have HAC := hidIt hac
  have HBC := hidIt hbc
  clear ha hb0 hf hl hs hac hbc
  obtain ⟨n1, e1⟩ : ∃ n, xs.length = n := ⟨_, rfl⟩
  obtain ⟨n2, e2⟩ : ∃ n, ys.length = n := ⟨_, rfl⟩
  rw [e1] at h1 ⊢
  rw [e2] at h2 ⊢
  have E1 := hidIt e1
  have E2 := hidIt e2
  clear e1 e2
  have hb := hidIt (below_next (below_new w (.cells #[.string l1, .slice s1 n1 c1] 24)) (below_new _ (.cells #[.string l2, .slice s2 n2 c2] 24)))
  obtain ⟨hh1, hh2⟩ := two_at (w := w) (cs := #[.string l1, .slice s1 n1 c1]) (ds := #[.string l2, .slice s2 n2 c2]) (t := 24) (u := 24) rfl rfl (Below.refl _ _)
  have H1 := hidIt hh1
  have H2 := hidIt hh2
  clear hh1 hh2
  obtain ⟨R, hR⟩ : ∃ R, placeR (readF s) = R := ⟨_, rfl⟩
  obtain ⟨D, hD⟩ : ∃ D, (if R = true then readF s else noPlace) = D := ⟨_, rfl⟩
  have c10 : Hid (∀ W, Calls Tryz.prog 10 #[.string s] W (PlP R D W)) := hidIt fun W => (place_any s HS.out W).mono fun e w' ⟨⟨l, sa, c, zs⟩, h1, h2, h3, h4, h5⟩ => by
    rw [(read_same s).1, hR] at h1 h2
    refine ⟨l, sa, _, c, zs, h1, rfl, ?_, h3, h4, h5⟩
    rw [← hD]
    refine h2.trans ?_
    by_cases h : R = true
    · rw [if_pos h, if_pos h, (read_same s).2 (hR.trans h)]
    · rw [if_neg h, if_neg h]
  have c11 : Hid (∀ W, Calls Tryz.prog 11 #[.string s] W (PlP R D W)) := hidIt fun W => (read_any s HS.out W).mono fun e w' ⟨⟨l, sa, c, zs⟩, h1, h2, h3, h4, h5⟩ => by
    rw [hR] at h1 h2
    exact ⟨l, sa, _, c, zs, h1, rfl, h2.trans hD, h3, h4, h5⟩
  clear hR hD
  have hz1 : ¬ ((s.size : Int) > 1000) := by omega
  have hn1 : ¬ ((n1 : Int) > 100) := by omega
  have hn2 : ¬ ((n2 : Int) > 100) := by omega
  clear h0 h1 h2
  go_enter Tryz.func3, Tryz.ntmps3
  go_wp2_with (first | (go_at_call 9; refine (alive_any _).mono ?_; rintro e w1 ⟨rfl, hq⟩; have hb := hidIt (below_next hb.out hq); have H1 := hidIt (heap_on H1.out hq); have H2 := hidIt (heap_on H2.out hq); clear hq; have p0 : w1.cell? ⟨w.heap.size, 0, none⟩ = some (.string l1) := cell_at H1.out 0; have p1 : w1.cell? ⟨w.heap.size, 1, none⟩ = some (.slice s1 n1 c1) := cell_at H1.out 1; have q1 : w1.cell? ⟨w.heap.size + 1, 1, none⟩ = some (.slice s2 n2 c2) := cell_at H2.out 1) | (go_at_call 10; refine (c10.out _).mono ?_; rintro e w2 ⟨l3, s3, n3, c3, zs, rfl, e3, d3, k3, a3, hq⟩; have E3 := hidIt e3; have D3 := hidIt d3; have K3 := hidIt k3; have A3 := hidIt a3; have hb := hidIt (below_next hb.out hq); have H1 := hidIt (heap_on H1.out hq); have H2 := hidIt (heap_on H2.out hq); clear e3 d3 k3 a3 hq p0 p1 q1) | (go_at_call 11; refine (c11.out _).mono ?_; rintro e w3 ⟨l4, s4, n4, c4, us, rfl, e4, d4, k4, a4, hq⟩; have E4 := hidIt e4; have D4 := hidIt d4; have K4 := hidIt k4; have A4 := hidIt a4; have HQ := hidIt hq; clear e4 d4 k4 a4 hq))
  have HB3 := hidIt (heap_on (heap_alloc_new w2 (.cells #[.string l3, .slice s3 n3 c3] 24)) HQ.out)
  have hb3 := hidIt (below_next (below_next hb.out (below_new w2 (.cells #[.string l3, .slice s3 n3 c3] 24))) HQ.out)
  have I0 : Hid (PI w l1 l2 l3 l4 s1 s2 s3 s4 n1 c1 n2 c2 n3 c3 n4 c4 xs ys zs us w.heap.size (w.heap.size + 1) w2.heap.size w3.heap.size (w3.alloc (.cells #[.string l4, .slice s4 n4 c4] 24))) := hidIt (by
    have g3 := below_next (below_new w2 (.cells #[.string l3, .slice s3 n3 c3] 24)) HQ.out
    have g4 := below_new w3 (.cells #[.string l4, .slice s4 n4 c4] 24)
    have hbb := below_next hb3.out g4
    exact ⟨hbb, heap_on (heap_on H1.out g3) g4, heap_on (heap_on H2.out g3) g4, heap_on HB3.out g4, heap_alloc_new w3 _, St.on HA.out hbb, St.on HB.out hbb, St.on (St.on A3.out g3) g4, St.on A4.out g4⟩)
  clear HQ HB3 hb3 hb H1 H2 A3 A4 c10 c11
  obtain ⟨B3, eB3⟩ : ∃ B3, B3 = w2.heap.size := ⟨_, rfl⟩
  obtain ⟨B4, eB4⟩ : ∃ B4, B4 = w3.heap.size := ⟨_, rfl⟩
  rw [← eB3, ← eB4] at I0 ⊢
  clear eB3 eB4
  generalize (w3.alloc (.cells #[.string l4, .slice s4 n4 c4] 24)) = W4 at I0 ⊢
  obtain ⟨va, hva⟩ : ∃ v, placeQ ⟨l1, xs⟩ ⟨l2, ys⟩ = v := ⟨_, rfl⟩
  obtain ⟨vf, hvf⟩ : ∃ v, frontQ ⟨l1, xs⟩ ⟨l2, ys⟩ = v := ⟨_, rfl⟩
  have VA := hidIt hva
  have VF := hidIt hvf
  have VP : Hid (placeQ ⟨l3, zs⟩ ⟨l4, us⟩ = true) := hidIt (placeQ_iff.2 (D3.out.trans D4.out.symm))
  obtain ⟨T, hT⟩ : ∃ T : ByteArray, ⟨(textL ⟨l1, xs⟩).toArray⟩ = T := ⟨_, rfl⟩
  have HT := hidIt hT
  clear hva hvf hT
  have C12 : Hid (∀ W, PI w l1 l2 l3 l4 s1 s2 s3 s4 n1 c1 n2 c2 n3 c3 n4 c4 xs ys zs us (w.heap.size) (w.heap.size + 1) B3 B4 W → Calls Tryz.prog 12 #[.agg #[.string l3, .slice s3 n3 c3], .agg #[.string l4, .slice s4 n4 c4]] W fun e w' => e = .returned (.bool true) ∧ Below W.heap.size W w') := hidIt fun W hW => by
    have := requal_place ⟨l3, s3, c3, zs⟩ ⟨l4, s4, c4, us⟩ W hW.t3 hW.t4
    simp only [PlaceX.row, PlaceX.d, E3.out, E4.out] at this
    rw [VP.out] at this
    exact this
  have C12b : Hid (∀ W, PI w l1 l2 l3 l4 s1 s2 s3 s4 n1 c1 n2 c2 n3 c3 n4 c4 xs ys zs us (w.heap.size) (w.heap.size + 1) B3 B4 W → Calls Tryz.prog 12 #[.agg #[.string l1, .slice s1 n1 c1], .agg #[.string l2, .slice s2 n2 c2]] W fun e w' => e = .returned (.bool va) ∧ Below W.heap.size W w') := hidIt fun W hW => by
    have := requal_place ⟨l1, s1, c1, xs⟩ ⟨l2, s2, c2, ys⟩ W hW.t1 hW.t2
    simp only [PlaceX.row, PlaceX.d, E1.out, E2.out] at this
    rw [VA.out] at this
    exact this
  have C15 : Hid (∀ W, PI w l1 l2 l3 l4 s1 s2 s3 s4 n1 c1 n2 c2 n3 c3 n4 c4 xs ys zs us (w.heap.size) (w.heap.size + 1) B3 B4 W → Calls Tryz.prog 15 #[.agg #[.string l1, .slice s1 n1 c1], .agg #[.string l2, .slice s2 n2 c2]] W fun e w' => e = .returned (.bool va) ∧ Below W.heap.size W w') := hidIt fun W hW => by
    have := equal_place ⟨l1, s1, c1, xs⟩ ⟨l2, s2, c2, ys⟩ W hW.t1 hW.t2
    simp only [PlaceX.row, PlaceX.d, E1.out, E2.out] at this
    rw [VA.out] at this
    exact this
  have C16 : Hid (∀ W, PI w l1 l2 l3 l4 s1 s2 s3 s4 n1 c1 n2 c2 n3 c3 n4 c4 xs ys zs us (w.heap.size) (w.heap.size + 1) B3 B4 W → Calls Tryz.prog 16 #[.agg #[.string l1, .slice s1 n1 c1], .agg #[.string l2, .slice s2 n2 c2]] W fun e w' => e = .returned (.bool vf) ∧ Below W.heap.size W w') := hidIt fun W hW => by
    have := front_place ⟨l1, s1, c1, xs⟩ ⟨l2, s2, c2, ys⟩ W hW.t1 hW.t2 HBC.out
    simp only [PlaceX.row, PlaceX.d, E1.out, E2.out] at this
    rw [VF.out] at this
    exact this
  have C17 : Hid (∀ W, PI w l1 l2 l3 l4 s1 s2 s3 s4 n1 c1 n2 c2 n3 c3 n4 c4 xs ys zs us (w.heap.size) (w.heap.size + 1) B3 B4 W → Calls Tryz.prog 17 #[.agg #[.string l1, .slice s1 n1 c1], .agg #[.string l2, .slice s2 n2 c2]] W fun e w' => e = .returned (.bool vf) ∧ Below W.heap.size W w') := hidIt fun W hW => by
    have := rfront_place ⟨l1, s1, c1, xs⟩ ⟨l2, s2, c2, ys⟩ W hW.t1 hW.t2 HBC.out
    simp only [PlaceX.row, PlaceX.d, E1.out, E2.out] at this
    rw [VF.out] at this
    exact this
  have C13 : Hid (∀ W, PI w l1 l2 l3 l4 s1 s2 s3 s4 n1 c1 n2 c2 n3 c3 n4 c4 xs ys zs us (w.heap.size) (w.heap.size + 1) B3 B4 W → Calls Tryz.prog 13 #[.agg #[.string l1, .slice s1 n1 c1]] W fun e w' => e = .returned (.string T) ∧ Below W.heap.size W w') := hidIt fun W hW => by
    have := text_any ⟨l1, s1, c1, xs⟩ W hW.t1 (Nat.le_trans HL.out (by decide))
    simp only [PlaceX.d, E1.out] at this
    rw [HT.out] at this
    exact this
  have C14 : Hid (∀ W, PI w l1 l2 l3 l4 s1 s2 s3 s4 n1 c1 n2 c2 n3 c3 n4 c4 xs ys zs us (w.heap.size) (w.heap.size + 1) B3 B4 W → Calls Tryz.prog 14 #[.agg #[.string l1, .slice s1 n1 c1]] W fun e w' => e = .returned (.string T) ∧ Below W.heap.size W w') := hidIt fun W hW => by
    have := rtext_any ⟨l1, s1, c1, xs⟩ W hW.t1 (Nat.le_trans HL.out (by decide))
    simp only [PlaceX.d, E1.out] at this
    rw [HT.out] at this
    exact this
  have sw := I0.out.cells
  have I0 := hidIt (I0.out.on (Below.refl _ _).drew)
  have K1 : Hid True := hidIt trivial
  go_region_held3 (fun W => W.cell? ⟨w.heap.size, 0, none⟩ = some (.string l1) ∧ W.cell? ⟨w.heap.size, 1, none⟩ = some (.slice s1 n1 c1) ∧ W.cell? ⟨w.heap.size + 1, 0, none⟩ = some (.string l2) ∧ W.cell? ⟨w.heap.size + 1, 1, none⟩ = some (.slice s2 n2 c2) ∧ W.cell? ⟨B3, 0, none⟩ = some (.string l3) ∧ W.cell? ⟨B3, 1, none⟩ = some (.slice s3 n3 c3) ∧ W.cell? ⟨B4, 0, none⟩ = some (.string l4) ∧ W.cell? ⟨B4, 1, none⟩ = some (.slice s4 n4 c4)) (go_keep)
    (first
    | (go_at_call 12; have tk := K1; clear tk K1; refine (C12.out _ I0.out).mono ?_; rintro e y ⟨rfl, hq⟩; have I0 := hidIt (I0.out.on hq); have sS := I0.out.cells; clear hq)
    | (go_at_call 12; refine (C12b.out _ I0.out).mono ?_; rintro e y ⟨rfl, hq⟩; have I0 := hidIt (I0.out.on hq); have sS := I0.out.cells; clear hq)
    | (go_at_call 13; refine (C13.out _ I0.out).mono ?_; rintro e y ⟨rfl, hq⟩; have I0 := hidIt (I0.out.on hq); have sS := I0.out.cells; clear hq)
    | (go_at_call 14; refine (C14.out _ I0.out).mono ?_; rintro e y ⟨rfl, hq⟩; have I0 := hidIt (I0.out.on hq); have sS := I0.out.cells; clear hq)
    | (go_at_call 15; refine (C15.out _ I0.out).mono ?_; rintro e y ⟨rfl, hq⟩; have I0 := hidIt (I0.out.on hq); have sS := I0.out.cells; clear hq)
    | (go_at_call 16; refine (C16.out _ I0.out).mono ?_; rintro e y ⟨rfl, hq⟩; have I0 := hidIt (I0.out.on hq); have sS := I0.out.cells; clear hq)
    | (go_at_call 17; refine (C17.out _ I0.out).mono ?_; rintro e y ⟨rfl, hq⟩; have I0 := hidIt (I0.out.on hq); have sS := I0.out.cells; clear hq))
  clear C12 C12b C15 C16 C17 C14 sw
  try clear sS
  obtain ⟨p0, p1, q0, q1, r0, r1, u0, u1⟩ := I0.out.cells
  obtain ⟨R2, hR2⟩ : ∃ R, placeR (readF T) = R := ⟨_, rfl⟩
  obtain ⟨D2, hD2⟩ : ∃ D, (if R2 = true then readF T else noPlace) = D := ⟨_, rfl⟩
  have HTS : Hid (fitS T) := hidIt (by rw [← HT.out]; show (bs (textL ⟨l1, xs⟩)).size ≤ _; rw [bs_size]; exact HL.out)
  have cB : Hid (∀ W, Calls Tryz.prog 10 #[.string T] W (PlP R2 D2 W)) := hidIt fun W => (place_any T HTS.out W).mono fun e w' ⟨⟨l, sa, c, zs⟩, h1, h2, h3, h4, h5⟩ => by
    rw [(read_same T).1, hR2] at h1 h2
    refine ⟨l, sa, _, c, zs, h1, rfl, ?_, h3, h4, h5⟩
    rw [← hD2]
    refine h2.trans ?_
    by_cases h : R2 = true
    · rw [if_pos h, if_pos h, (read_same T).2 (hR2.trans h)]
    · rw [if_neg h, if_neg h]
  obtain ⟨rb, hrb⟩ : ∃ R, placeR ⟨l1, xs⟩ = R := ⟨_, rfl⟩
  have FB : Hid (rb = true → R2 = true ∧ D2 = ⟨l1, xs⟩) := hidIt (fun h => by
    have e := text_back (hrb.trans h)
    rw [HT.out] at e
    have e2 : R2 = true := by rw [← hR2, e]; exact hrb.trans h
    exact ⟨e2, by rw [← hD2, if_pos e2, e]⟩)
  have C18 : Hid (∀ W, Below w.heap.size w W → Calls Tryz.prog 18 #[.agg #[.string l1, .slice s1 n1 c1]] W fun e w' => e = .returned (.bool rb) ∧ Below W.heap.size W w') := hidIt fun W hW => by
    have := docplace_any ⟨l1, s1, c1, xs⟩ W (St.on HA.out hW) HF.out
    simp only [PlaceX.d, E1.out] at this
    rw [hrb] at this
    exact this
  clear hR2 hD2 hrb
  go_upto_region 10 with (first
    | (go_at_call 13; refine (C13.out _ I0.out).mono ?_; rintro e y ⟨rfl, hq⟩; have I0 := hidIt (I0.out.on hq); clear hq p0 p1 q0 q1 r0 r1 u0 u1)
    | (go_at_call 10; refine (cB.out _).mono ?_; rintro e w5 ⟨l5, s5, n5, c5, vs, rfl, e5, d5, k5, a5, hq⟩; have E5 := hidIt e5; have D5 := hidIt d5; have A5 := hidIt a5; have I0 := hidIt (I0.out.on hq); clear e5 d5 k5 a5 hq))
  have HW := hidIt (below_next I0.out.bel (below_new w5 (.cells #[.string l5, .slice s5 n5 c5] 24)))
  have H2 : Hid ((w5.alloc (.cells #[.string l5, .slice s5 n5 c5] 24)).heap[w.heap.size]? = some (.cells #[.string l1, .slice s1 n1 c1] 24 (0, 0)) ∧ (w5.alloc (.cells #[.string l5, .slice s5 n5 c5] 24)).heap[w5.heap.size]? = some (.cells #[.string l5, .slice s5 n5 c5] 24 (0, 0))) := hidIt ⟨heap_on I0.out.h1 (below_new w5 _), heap_alloc_new w5 _⟩
  have HK := hidIt (below_new w5 (.cells #[.string l5, .slice s5 n5 c5] 24))
  obtain ⟨B5, eB5⟩ : ∃ B5, B5 = w5.heap.size := ⟨_, rfl⟩
  rw [← eB5] at H2 ⊢
  clear eB5
  have A5 := hidIt (St.on A5.out HK.out)
  clear I0 HK
  generalize (w5.alloc (.cells #[.string l5, .slice s5 n5 c5] 24)) = W6 at HW H2 A5 ⊢
  have C15 : Hid (rb = true → ∀ W, Below w.heap.size w W → Below W6.heap.size W6 W → Calls Tryz.prog 15 #[.agg #[.string l5, .slice s5 n5 c5], .agg #[.string l1, .slice s1 n1 c1]] W fun e w' => e = .returned (.bool true) ∧ Below W.heap.size W w') := hidIt fun h W hW h6 => by
    have := equal_place ⟨l5, s5, c5, vs⟩ ⟨l1, s1, c1, xs⟩ W (St.on A5.out h6) (St.on HA.out hW)
    simp only [PlaceX.row, PlaceX.d, E1.out, E5.out] at this
    rw [placeQ_iff.2 (D5.out.trans (FB.out h).2)] at this
    exact this
  have H6 : Hid (Below W6.heap.size W6 W6) := hidIt (Below.refl _ _)
  obtain ⟨p0, p1, q0, q1⟩ := cells_two H2.out
  cases rb with
  | true =>
    obtain rfl : true = R2 := (FB.out rfl).1.symm
    have C15t := hidIt (C15.out rfl)
    clear C15
    clear FB
    go_wp2_with (first
      | (go_at_call 18; refine (C18.out _ HW.out).mono ?_; rintro e y ⟨rfl, hq⟩; have H2 := hidIt (two_on H2.out hq); have HW := hidIt (below_next HW.out hq); have H6 := hidIt (below_next H6.out hq); clear p0 p1 q0 q1; obtain ⟨p0, p1, q0, q1⟩ := cells_two H2.out; clear hq)
      | (go_at_call 15; refine (C15t.out _ HW.out H6.out).mono ?_; rintro e y ⟨rfl, hq⟩; have H2 := hidIt (two_on H2.out hq); have HW := hidIt (below_next HW.out hq); have H6 := hidIt (below_next H6.out hq); clear p0 p1 q0 q1; obtain ⟨p0, p1, q0, q1⟩ := cells_two H2.out; clear hq))
    go_ret
    exact ⟨rfl, HW.out⟩
  | false =>
    clear C15 FB
    cases R2 with
    | true =>
      go_wp2_with (first
        | (go_at_call 18; refine (C18.out _ HW.out).mono ?_; rintro e y ⟨rfl, hq⟩; have H2 := hidIt (two_on H2.out hq); have HW := hidIt (below_next HW.out hq); have H6 := hidIt (below_next H6.out hq); clear p0 p1 q0 q1; obtain ⟨p0, p1, q0, q1⟩ := cells_two H2.out; clear hq))
      go_ret
      exact ⟨rfl, HW.out⟩
    | false =>
      go_wp2_with (first
        | (go_at_call 18; refine (C18.out _ HW.out).mono ?_; rintro e y ⟨rfl, hq⟩; have H2 := hidIt (two_on H2.out hq); have HW := hidIt (below_next HW.out hq); have H6 := hidIt (below_next H6.out hq); clear p0 p1 q0 q1; obtain ⟨p0, p1, q0, q1⟩ := cells_two H2.out; clear hq))
      go_ret
      exact ⟨rfl, HW.out⟩
end Go.Proofs.YtlppbgmcoknliaaGreatDoor
