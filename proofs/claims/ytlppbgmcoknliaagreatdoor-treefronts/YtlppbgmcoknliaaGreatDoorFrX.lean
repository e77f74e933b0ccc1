/-
  The walk of TreeFronts, of places of at most 100 steps: one case of six.
  The walk of TreeFronts, of places of at most 100 steps: one case of six.
  The walk of TreeFronts, of places of at most 100 steps: one case of six.
  The walk of TreeFronts, of places of at most 100 steps: one case of six.
-/
import Derived.Test.YtlppbgmcoknliaaGreatDoorFr1
import Derived.Deep.RegionHeld3
namespace Go.Proofs.YtlppbgmcoknliaaGreatDoor
set_option linter.unusedVariables false
open Go.RowKit

set_option maxHeartbeats 20000000 in
set_option maxRecDepth 100000 in
theorem fronts_B (l1 l2 : ByteArray) (s1 s2 : Option Addr) (n1 c1 n2 c2 I K i k : Nat) (vba : Bool) (w : World) (HF : Hid (FC w l1 l2 s1 s2 n1 c1 n2 c2 I K true vba true false true)) (hi : i < 256) (hk : k < 256) (h1 : n1 ≤ 100) (h2 : n2 ≤ 100) (hn1 : ¬ ((n1 : Int) > 100)) (hn2 : ¬ ((n2 : Int) > 100)) (hwn : IntKind.i64.wrap ((n1 : Int) + 1) = (n1 : Int) + 1) (hwi : IntKind.i64.wrap (i : Int) = (i : Int)) (hwk : IntKind.i64.wrap (k : Int) = (k : Int)) (hn0 : ¬ ((n1 : Int) + 1 = 0)) (hti : (i : Int).tmod ((n1 : Int) + 1) = (I : Int)) (htk : (k : Int).tmod ((n1 : Int) + 1) = (K : Int)) (hI2 : (I : Int) ≤ (c1 : Int)) (hK2 : (K : Int) ≤ (c1 : Int)) (HI1 : (I : Int) ≤ (n1 : Int)) :
    Calls Tryz.prog 7 #[.agg #[.string l1, .slice s1 n1 c1], .int .u8 i, .int .u8 k, .agg #[.string l2, .slice s2 n2 c2]] w fun e w' => e = .returned (.bool true) ∧ Below w.heap.size w w' := by
  have hb := hidIt (below_next (below_new w (.cells #[.string l1, .slice s1 n1 c1] 24)) (below_new _ (.cells #[.string l2, .slice s2 n2 c2] 24)))
  obtain ⟨hh1, hh2⟩ := two_at (w := w) (cs := #[.string l1, .slice s1 n1 c1]) (ds := #[.string l2, .slice s2 n2 c2]) (t := 24) (u := 24) rfl rfl (Below.refl _ _)
  have H1 := hidIt hh1
  have H2 := hidIt hh2
  clear hh1 hh2
  go_enter Tryz.func7, Tryz.ntmps7
  go_wp2_with (first | (go_at_call 9; refine (alive_any _).mono ?_; rintro e w1 ⟨rfl, hq⟩; have hb := hidIt (below_next hb.out hq); have H1 := hidIt (heap_on H1.out hq); have H2 := hidIt (heap_on H2.out hq); clear hq; have p0 : w1.cell? ⟨w.heap.size, 0, none⟩ = some (.string l1) := cell_at H1.out 0; have p1 : w1.cell? ⟨w.heap.size, 1, none⟩ = some (.slice s1 n1 c1) := cell_at H1.out 1; have q0 : w1.cell? ⟨w.heap.size + 1, 0, none⟩ = some (.string l2) := cell_at H2.out 0; have q1 : w1.cell? ⟨w.heap.size + 1, 1, none⟩ = some (.slice s2 n2 c2) := cell_at H2.out 1))
  have hlt1 : w.heap.size < w1.heap.size := (Array.getElem?_eq_some_iff.1 H1.out).1
  have hlt2 : w.heap.size + 1 < w1.heap.size := (Array.getElem?_eq_some_iff.1 H2.out).1
  have hne1 : w.heap.size ≠ w1.heap.size := by omega
  have hne2 : w.heap.size + 1 ≠ w1.heap.size := by omega
  go_region
  have M0 : Hid (Below w.heap.size w (w1.alloc (.cells #[.string l1, .slice s1 I c1] 24)).drew ∧ (w1.alloc (.cells #[.string l1, .slice s1 I c1] 24)).drew.heap[w.heap.size]? = some (.cells #[.string l1, .slice s1 n1 c1] 24 (0, 0)) ∧ (w1.alloc (.cells #[.string l1, .slice s1 I c1] 24)).drew.heap[w.heap.size + 1]? = some (.cells #[.string l2, .slice s2 n2 c2] 24 (0, 0)) ∧ (w1.alloc (.cells #[.string l1, .slice s1 I c1] 24)).drew.heap[w1.heap.size]? = some (.cells #[.string l1, .slice s1 I c1] 24 (0, 0))) := hidIt ⟨below_next hb.out (below_new w1 _).drew, heap_on H1.out (below_new w1 _).drew, heap_on H2.out (below_new w1 _).drew, heap_alloc_new w1 _⟩
  clear p0 p1 q0 q1 hlt1 hlt2 hne1 hne2 hb H1 H2
  obtain ⟨B3, eB3⟩ : ∃ B3, B3 = w1.heap.size := ⟨_, rfl⟩
  rw [← eB3] at M0 ⊢
  clear eB3
  generalize (w1.alloc (.cells #[.string l1, .slice s1 I c1] 24)).drew = W2 at M0 ⊢
  have p0 : W2.cell? ⟨w.heap.size, 0, none⟩ = some (.string l1) := cell_at M0.out.2.1 0
  have p1 : W2.cell? ⟨w.heap.size, 1, none⟩ = some (.slice s1 n1 c1) := cell_at M0.out.2.1 1
  have hlt1 : w.heap.size < W2.heap.size := (Array.getElem?_eq_some_iff.1 M0.out.2.1).1
  have hne1 : w.heap.size ≠ W2.heap.size := by omega
  go_wp2_with fail
  go_region
  have M1 : Hid (FI w l1 l2 s1 s2 n1 c1 n2 c2 I K w.heap.size (w.heap.size + 1) B3 W2.heap.size (W2.alloc (.cells #[.string l1, .slice s1 K c1] 24)).drew) := hidIt ⟨below_next M0.out.1 (below_new W2 _).drew, heap_on M0.out.2.1 (below_new W2 _).drew, heap_on M0.out.2.2.1 (below_new W2 _).drew, heap_on M0.out.2.2.2 (below_new W2 _).drew, heap_alloc_new W2 _⟩
  clear p0 p1 hlt1 hne1 M0
  have HIN : Hid ((I : Int) ≤ (n1 : Int)) := hidIt HI1
  clear hwn hwi hwk hn0 hti htk hI2 hK2 HI1 h1 h2 hi hk hn1 hn2
  obtain ⟨B4, eB4⟩ : ∃ B4, B4 = W2.heap.size := ⟨_, rfl⟩
  rw [← eB4] at M1 ⊢
  clear eB4
  generalize (W2.alloc (.cells #[.string l1, .slice s1 K c1] 24)).drew = W3 at M1 ⊢
  have EPO : Hid (∀ W, Below w.heap.size w W → Calls Tryz.prog 15 #[.agg #[.string l1, .slice s1 n1 c1], .agg #[.string l2, .slice s2 n2 c2]] W fun e w' => e = .returned (.bool false) ∧ Below W.heap.size W w') := hidIt fun W hW => HF.out.epo W hW
  obtain ⟨p0, p1, q0, q1, a0, a1, b0, b1⟩ := M1.out.cells
  as_aux_lemma =>
  have Q0 : Hid True := hidIt trivial
  have Q1 : Hid True := hidIt trivial
  have Q2 : Hid True := hidIt trivial
  have Q3 : Hid True := hidIt trivial
  go_wp2_with (first
    | (go_at_call 16; have tk := Q0; clear tk Q0; refine (HF.out.cap _ M1.out.bel).mono ?_; rintro e y ⟨rfl, hq⟩; have M1 := hidIt (M1.out.on hq); clear p0 p1 q0 q1 a0 a1 b0 b1 hq; obtain ⟨p0, p1, q0, q1, a0, a1, b0, b1⟩ := M1.out.cells)
    | (go_at_call 16; have tk := Q1; clear tk Q1; refine (HF.out.cbp _ M1.out.bel).mono ?_; rintro e y ⟨rfl, hq⟩; have M1 := hidIt (M1.out.on hq); clear p0 p1 q0 q1 a0 a1 b0 b1 hq; obtain ⟨p0, p1, q0, q1, a0, a1, b0, b1⟩ := M1.out.cells)
    | (go_at_call 16; have tk := Q2; clear tk Q2; refine (HF.out.cpp _ M1.out.bel).mono ?_; rintro e y ⟨rfl, hq⟩; have M1 := hidIt (M1.out.on hq); clear p0 p1 q0 q1 a0 a1 b0 b1 hq; obtain ⟨p0, p1, q0, q1, a0, a1, b0, b1⟩ := M1.out.cells)
    | (go_at_call 16; have tk := Q3; clear tk Q3; refine (HF.out.cab _ M1.out.bel).mono ?_; rintro e y ⟨rfl, hq⟩; have M1 := hidIt (M1.out.on hq); clear p0 p1 q0 q1 a0 a1 b0 b1 hq; obtain ⟨p0, p1, q0, q1, a0, a1, b0, b1⟩ := M1.out.cells))
  as_aux_lemma =>
  have sw := M1.out.cells
  have MI := hidIt (M1.out.on (Below.refl _ _).drew)
  clear M1 p0 p1 q0 q1 a0 a1 b0 b1
  have K1 : Hid True := hidIt trivial
  have K2 : Hid True := hidIt trivial
  go_region_held3 (fun W => W.cell? ⟨w.heap.size, 0, none⟩ = some (.string l1) ∧ W.cell? ⟨w.heap.size, 1, none⟩ = some (.slice s1 n1 c1) ∧ W.cell? ⟨w.heap.size + 1, 0, none⟩ = some (.string l2) ∧ W.cell? ⟨w.heap.size + 1, 1, none⟩ = some (.slice s2 n2 c2) ∧ W.cell? ⟨B3, 0, none⟩ = some (.string l1) ∧ W.cell? ⟨B3, 1, none⟩ = some (.slice s1 I c1) ∧ W.cell? ⟨B4, 0, none⟩ = some (.string l1) ∧ W.cell? ⟨B4, 1, none⟩ = some (.slice s1 K c1)) (go_keep)
    (first
    | (go_at_call 16; have tk := K1; clear tk K1; refine (HF.out.cpo _ MI.out.bel).mono ?_; rintro e y ⟨rfl, hq⟩; have MI := hidIt (MI.out.on hq); have sS := MI.out.cells; clear hq)
    | (go_at_call 16; have tk := K2; clear tk K2; refine (HF.out.cpo _ MI.out.bel).mono ?_; rintro e y ⟨rfl, hq⟩; have MI := hidIt (MI.out.on hq); have sS := MI.out.cells; clear hq)
    | (go_at_call 16; refine (HF.out.cao _ MI.out.bel).mono ?_; rintro e y ⟨rfl, hq⟩; have MI := hidIt (MI.out.on hq); have sS := MI.out.cells; clear hq))
  as_aux_lemma =>
  have M1 := hidIt MI.out
  clear MI
  try clear sS
  try clear sw
  obtain ⟨p0, p1, q0, q1, a0, a1, b0, b1⟩ := M1.out.cells
  go_wp2_with fail
  have hIn := HIN.out
  as_aux_lemma =>
  have sw := M1.out.cells
  have MI := hidIt (M1.out.on (Below.refl _ _).drew)
  clear M1 p0 p1 q0 q1 a0 a1 b0 b1
  have K1 : Hid True := hidIt trivial
  have K2 : Hid True := hidIt trivial
  go_region_held3 (fun W => W.cell? ⟨w.heap.size, 0, none⟩ = some (.string l1) ∧ W.cell? ⟨w.heap.size, 1, none⟩ = some (.slice s1 n1 c1) ∧ W.cell? ⟨w.heap.size + 1, 0, none⟩ = some (.string l2) ∧ W.cell? ⟨w.heap.size + 1, 1, none⟩ = some (.slice s2 n2 c2) ∧ W.cell? ⟨B3, 0, none⟩ = some (.string l1) ∧ W.cell? ⟨B3, 1, none⟩ = some (.slice s1 I c1) ∧ W.cell? ⟨B4, 0, none⟩ = some (.string l1) ∧ W.cell? ⟨B4, 1, none⟩ = some (.slice s1 K c1)) (go_keep)
    (first
    | (go_at_call 16; have tk := K1; clear tk K1; refine (HF.out.cpo _ MI.out.bel).mono ?_; rintro e y ⟨rfl, hq⟩; have MI := hidIt (MI.out.on hq); have sS := MI.out.cells; clear hq)
    | (go_at_call 16; have tk := K2; clear tk K2; refine (HF.out.cop _ MI.out.bel).mono ?_; rintro e y ⟨rfl, hq⟩; have MI := hidIt (MI.out.on hq); have sS := MI.out.cells; clear hq)
    | (go_at_call 15; refine (EPO.out _ MI.out.bel).mono ?_; rintro e y ⟨rfl, hq⟩; have MI := hidIt (MI.out.on hq); have sS := MI.out.cells; clear hq)
    | (go_at_call 16; refine (HF.out.cap _ MI.out.bel).mono ?_; rintro e y ⟨rfl, hq⟩; have MI := hidIt (MI.out.on hq); have sS := MI.out.cells; clear hq))
  go_wp2
  go_ret
  exact ⟨rfl, MI.out.bel⟩
end Go.Proofs.YtlppbgmcoknliaaGreatDoor
namespace Go.Proofs.YtlppbgmcoknliaaGreatDoor
set_option linter.unusedVariables false
open Go.RowKit

set_option maxHeartbeats 20000000 in
set_option maxRecDepth 100000 in
theorem fronts_C (l1 l2 : ByteArray) (s1 s2 : Option Addr) (n1 c1 n2 c2 I K i k : Nat) (vba : Bool) (vao : Bool) (vop : Bool) (w : World) (HF : Hid (FC w l1 l2 s1 s2 n1 c1 n2 c2 I K true vba false vop vao)) (hi : i < 256) (hk : k < 256) (h1 : n1 ≤ 100) (h2 : n2 ≤ 100) (hn1 : ¬ ((n1 : Int) > 100)) (hn2 : ¬ ((n2 : Int) > 100)) (hwn : IntKind.i64.wrap ((n1 : Int) + 1) = (n1 : Int) + 1) (hwi : IntKind.i64.wrap (i : Int) = (i : Int)) (hwk : IntKind.i64.wrap (k : Int) = (k : Int)) (hn0 : ¬ ((n1 : Int) + 1 = 0)) (hti : (i : Int).tmod ((n1 : Int) + 1) = (I : Int)) (htk : (k : Int).tmod ((n1 : Int) + 1) = (K : Int)) (hI2 : (I : Int) ≤ (c1 : Int)) (hK2 : (K : Int) ≤ (c1 : Int)) (HI1 : (I : Int) ≤ (n1 : Int)) :
    Calls Tryz.prog 7 #[.agg #[.string l1, .slice s1 n1 c1], .int .u8 i, .int .u8 k, .agg #[.string l2, .slice s2 n2 c2]] w fun e w' => e = .returned (.bool true) ∧ Below w.heap.size w w' := by
  have hb := hidIt (below_next (below_new w (.cells #[.string l1, .slice s1 n1 c1] 24)) (below_new _ (.cells #[.string l2, .slice s2 n2 c2] 24)))
  obtain ⟨hh1, hh2⟩ := two_at (w := w) (cs := #[.string l1, .slice s1 n1 c1]) (ds := #[.string l2, .slice s2 n2 c2]) (t := 24) (u := 24) rfl rfl (Below.refl _ _)
  have H1 := hidIt hh1
  have H2 := hidIt hh2
  clear hh1 hh2
  go_enter Tryz.func7, Tryz.ntmps7
  go_wp2_with (first | (go_at_call 9; refine (alive_any _).mono ?_; rintro e w1 ⟨rfl, hq⟩; have hb := hidIt (below_next hb.out hq); have H1 := hidIt (heap_on H1.out hq); have H2 := hidIt (heap_on H2.out hq); clear hq; have p0 : w1.cell? ⟨w.heap.size, 0, none⟩ = some (.string l1) := cell_at H1.out 0; have p1 : w1.cell? ⟨w.heap.size, 1, none⟩ = some (.slice s1 n1 c1) := cell_at H1.out 1; have q0 : w1.cell? ⟨w.heap.size + 1, 0, none⟩ = some (.string l2) := cell_at H2.out 0; have q1 : w1.cell? ⟨w.heap.size + 1, 1, none⟩ = some (.slice s2 n2 c2) := cell_at H2.out 1))
  have hlt1 : w.heap.size < w1.heap.size := (Array.getElem?_eq_some_iff.1 H1.out).1
  have hlt2 : w.heap.size + 1 < w1.heap.size := (Array.getElem?_eq_some_iff.1 H2.out).1
  have hne1 : w.heap.size ≠ w1.heap.size := by omega
  have hne2 : w.heap.size + 1 ≠ w1.heap.size := by omega
  go_region
  have M0 : Hid (Below w.heap.size w (w1.alloc (.cells #[.string l1, .slice s1 I c1] 24)).drew ∧ (w1.alloc (.cells #[.string l1, .slice s1 I c1] 24)).drew.heap[w.heap.size]? = some (.cells #[.string l1, .slice s1 n1 c1] 24 (0, 0)) ∧ (w1.alloc (.cells #[.string l1, .slice s1 I c1] 24)).drew.heap[w.heap.size + 1]? = some (.cells #[.string l2, .slice s2 n2 c2] 24 (0, 0)) ∧ (w1.alloc (.cells #[.string l1, .slice s1 I c1] 24)).drew.heap[w1.heap.size]? = some (.cells #[.string l1, .slice s1 I c1] 24 (0, 0))) := hidIt ⟨below_next hb.out (below_new w1 _).drew, heap_on H1.out (below_new w1 _).drew, heap_on H2.out (below_new w1 _).drew, heap_alloc_new w1 _⟩
  clear p0 p1 q0 q1 hlt1 hlt2 hne1 hne2 hb H1 H2
  obtain ⟨B3, eB3⟩ : ∃ B3, B3 = w1.heap.size := ⟨_, rfl⟩
  rw [← eB3] at M0 ⊢
  clear eB3
  generalize (w1.alloc (.cells #[.string l1, .slice s1 I c1] 24)).drew = W2 at M0 ⊢
  have p0 : W2.cell? ⟨w.heap.size, 0, none⟩ = some (.string l1) := cell_at M0.out.2.1 0
  have p1 : W2.cell? ⟨w.heap.size, 1, none⟩ = some (.slice s1 n1 c1) := cell_at M0.out.2.1 1
  have hlt1 : w.heap.size < W2.heap.size := (Array.getElem?_eq_some_iff.1 M0.out.2.1).1
  have hne1 : w.heap.size ≠ W2.heap.size := by omega
  go_wp2_with fail
  go_region
  have M1 : Hid (FI w l1 l2 s1 s2 n1 c1 n2 c2 I K w.heap.size (w.heap.size + 1) B3 W2.heap.size (W2.alloc (.cells #[.string l1, .slice s1 K c1] 24)).drew) := hidIt ⟨below_next M0.out.1 (below_new W2 _).drew, heap_on M0.out.2.1 (below_new W2 _).drew, heap_on M0.out.2.2.1 (below_new W2 _).drew, heap_on M0.out.2.2.2 (below_new W2 _).drew, heap_alloc_new W2 _⟩
  clear p0 p1 hlt1 hne1 M0
  have HIN : Hid ((I : Int) ≤ (n1 : Int)) := hidIt HI1
  clear hwn hwi hwk hn0 hti htk hI2 hK2 HI1 h1 h2 hi hk hn1 hn2
  obtain ⟨B4, eB4⟩ : ∃ B4, B4 = W2.heap.size := ⟨_, rfl⟩
  rw [← eB4] at M1 ⊢
  clear eB4
  generalize (W2.alloc (.cells #[.string l1, .slice s1 K c1] 24)).drew = W3 at M1 ⊢
  have EPO : Hid (∀ W, Below w.heap.size w W → Calls Tryz.prog 15 #[.agg #[.string l1, .slice s1 n1 c1], .agg #[.string l2, .slice s2 n2 c2]] W fun e w' => e = .returned (.bool false) ∧ Below W.heap.size W w') := hidIt fun W hW => HF.out.epo W hW
  obtain ⟨p0, p1, q0, q1, a0, a1, b0, b1⟩ := M1.out.cells
  as_aux_lemma =>
  have Q0 : Hid True := hidIt trivial
  have Q1 : Hid True := hidIt trivial
  have Q2 : Hid True := hidIt trivial
  have Q3 : Hid True := hidIt trivial
  go_wp2_with (first
    | (go_at_call 16; have tk := Q0; clear tk Q0; refine (HF.out.cap _ M1.out.bel).mono ?_; rintro e y ⟨rfl, hq⟩; have M1 := hidIt (M1.out.on hq); clear p0 p1 q0 q1 a0 a1 b0 b1 hq; obtain ⟨p0, p1, q0, q1, a0, a1, b0, b1⟩ := M1.out.cells)
    | (go_at_call 16; have tk := Q1; clear tk Q1; refine (HF.out.cbp _ M1.out.bel).mono ?_; rintro e y ⟨rfl, hq⟩; have M1 := hidIt (M1.out.on hq); clear p0 p1 q0 q1 a0 a1 b0 b1 hq; obtain ⟨p0, p1, q0, q1, a0, a1, b0, b1⟩ := M1.out.cells)
    | (go_at_call 16; have tk := Q2; clear tk Q2; refine (HF.out.cpp _ M1.out.bel).mono ?_; rintro e y ⟨rfl, hq⟩; have M1 := hidIt (M1.out.on hq); clear p0 p1 q0 q1 a0 a1 b0 b1 hq; obtain ⟨p0, p1, q0, q1, a0, a1, b0, b1⟩ := M1.out.cells)
    | (go_at_call 16; have tk := Q3; clear tk Q3; refine (HF.out.cab _ M1.out.bel).mono ?_; rintro e y ⟨rfl, hq⟩; have M1 := hidIt (M1.out.on hq); clear p0 p1 q0 q1 a0 a1 b0 b1 hq; obtain ⟨p0, p1, q0, q1, a0, a1, b0, b1⟩ := M1.out.cells))
  as_aux_lemma =>
  have sw := M1.out.cells
  have MI := hidIt (M1.out.on (Below.refl _ _).drew)
  clear M1 p0 p1 q0 q1 a0 a1 b0 b1
  have K1 : Hid True := hidIt trivial
  have K2 : Hid True := hidIt trivial
  refine wp_region_held_drew (S := (fun W => W.cell? ⟨w.heap.size, 0, none⟩ = some (.string l1) ∧ W.cell? ⟨w.heap.size, 1, none⟩ = some (.slice s1 n1 c1) ∧ W.cell? ⟨w.heap.size + 1, 0, none⟩ = some (.string l2) ∧ W.cell? ⟨w.heap.size + 1, 1, none⟩ = some (.slice s2 n2 c2) ∧ W.cell? ⟨B3, 0, none⟩ = some (.string l1) ∧ W.cell? ⟨B3, 1, none⟩ = some (.slice s1 I c1) ∧ W.cell? ⟨B4, 0, none⟩ = some (.string l1) ∧ W.cell? ⟨B4, 1, none⟩ = some (.slice s1 K c1))) (by kernel_rfl) sw (fun hHeld => ?_)
  clear sw
  as_aux_lemma =>
  refine wpAnyH_take (i := 0) (v := ?vv0) rfl (by kernel_rfl) (by kernel_rfl) (by kernel_rfl) (fun _ _ _ h => h) (Or.inl ⟨by rfl, ?yy0⟩) (by assumption) ?rr0
  case yy0 => intro w hSw; (try dsimp only at hSw); go_simp; first | done | with_reducible rfl
  (try simp only [Act.put, List.getElem_toArray, List.getElem_cons_zero, List.setIfInBounds_toArray, List.set_cons_zero, List.set_cons_succ])
  refine wpAnyH_take (i := 1) (v := ?vv1) rfl (by kernel_rfl) (by kernel_rfl) (by kernel_rfl) (fun _ _ _ h => h) (Or.inl ⟨by rfl, ?yy1⟩) (by assumption) ?rr1
  case yy1 => intro w hSw; (try dsimp only at hSw); go_simp; first | done | with_reducible rfl
  (try simp only [Act.put, List.getElem_toArray, List.getElem_cons_succ, List.getElem_cons_zero, List.setIfInBounds_toArray, List.set_cons_zero, List.set_cons_succ])
  refine wpAnyH_take (i := 3) (v := ?vv3) rfl (by kernel_rfl) (by kernel_rfl) (by kernel_rfl) (fun _ _ _ h => h) (Or.inl ⟨by rfl, ?yy3⟩) (by assumption) ?rr3
  case yy3 => intro w hSw; (try dsimp only at hSw); go_simp; first | done | with_reducible rfl
  (try simp only [Act.put, List.getElem_toArray, List.getElem_cons_succ, List.getElem_cons_zero, List.setIfInBounds_toArray, List.set_cons_zero, List.set_cons_succ])
  as_aux_lemma =>
  refine wpAnyH_take (i := 4) (v := ?vv4) rfl (by kernel_rfl) (by kernel_rfl) (by kernel_rfl) (fun _ _ _ h => h) (Or.inl ⟨by rfl, ?yy4⟩) (by assumption) ?rr4
  case yy4 => intro w hSw; (try dsimp only at hSw); go_simp; first | done | with_reducible rfl
  (try simp only [Act.put, List.getElem_toArray, List.getElem_cons_succ, List.getElem_cons_zero, List.setIfInBounds_toArray, List.set_cons_zero, List.set_cons_succ])
  refine wpAnyH_ready (rs := [2]) (by kernel_rfl) (by simp) ?_
  refine AllReadyH.cons rfl (fun K hK => ?_) AllReadyH.nil
  go_simp
  go_at_call 16
  refine (HF.out.cpo _ MI.out.bel).mono ?_
  rintro e y ⟨rfl, hq⟩
  have MI := hidIt (MI.out.on hq)
  clear hq
  refine hK.out _ _ MI.out.cells (fun hHeld => ?_)
  clear hK K
  (try simp only [Act.put, List.getElem_toArray, List.getElem_cons_succ, List.getElem_cons_zero, List.setIfInBounds_toArray, List.set_cons_zero, List.set_cons_succ])
  refine wpAnyH_ready (rs := [5]) (by kernel_rfl) (by simp) ?_
  refine AllReadyH.cons rfl (fun K hK => ?_) AllReadyH.nil
  go_simp
  go_at_call 16
  refine (HF.out.cpo _ MI.out.bel).mono ?_
  rintro e y ⟨rfl, hq⟩
  have MI := hidIt (MI.out.on hq)
  clear hq
  refine hK.out _ _ MI.out.cells (fun hHeld => ?_)
  clear hK K
  (try simp only [Act.put, List.getElem_toArray, List.getElem_cons_succ, List.getElem_cons_zero, List.setIfInBounds_toArray, List.set_cons_zero, List.set_cons_succ])
  as_aux_lemma =>
  refine wpAnyH_take (i := 6) (v := ?vv6) rfl (by kernel_rfl) (by kernel_rfl) (by kernel_rfl) (fun _ _ _ h => h) (Or.inl ⟨by rfl, ?yy6⟩) (by assumption) ?rr6
  case yy6 => intro w hSw; (try dsimp only at hSw); go_simp; first | done | with_reducible rfl
  (try simp only [Act.put, List.getElem_toArray, List.getElem_cons_succ, List.getElem_cons_zero, List.setIfInBounds_toArray, List.set_cons_zero, List.set_cons_succ])
  refine wpAnyH_take (i := 7) (v := undef) rfl (by kernel_rfl) (by kernel_rfl) (by kernel_rfl) (fun _ _ _ h => h) (Or.inr ⟨by rfl, rfl⟩) (by assumption) ?_
  (try simp only [Act.put, List.getElem_toArray, List.getElem_cons_succ, List.getElem_cons_zero, List.setIfInBounds_toArray, List.set_cons_zero, List.set_cons_succ])
  refine wpAnyH_take (i := 8) (v := undef) rfl (by kernel_rfl) (by kernel_rfl) (by kernel_rfl) (fun _ _ _ h => h) (Or.inr ⟨by rfl, rfl⟩) (by assumption) ?_
  (try simp only [Act.put, List.getElem_toArray, List.getElem_cons_succ, List.getElem_cons_zero, List.setIfInBounds_toArray, List.set_cons_zero, List.set_cons_succ])
  as_aux_lemma =>
  refine wpAnyH_ready (rs := [9]) (by kernel_rfl) (by simp) ?_
  refine AllReadyH.cons rfl (fun K hK => ?_) AllReadyH.nil
  go_simp
  refine hK.out _ _ (by assumption) (fun hHeld => ?_)
  clear hK K
  (try simp only [Act.put, List.getElem_toArray, List.getElem_cons_succ, List.getElem_cons_zero, List.setIfInBounds_toArray, List.set_cons_zero, List.set_cons_succ])
  refine wpAnyH_take (i := 10) (v := ?vv10) rfl (by kernel_rfl) (by kernel_rfl) (by kernel_rfl) (fun _ _ _ h => h) (Or.inl ⟨by rfl, ?yy10⟩) (by assumption) ?rr10
  case yy10 => intro w hSw; (try dsimp only at hSw); go_simp; first | done | with_reducible rfl
  (try simp only [Act.put, List.getElem_toArray, List.getElem_cons_succ, List.getElem_cons_zero, List.setIfInBounds_toArray, List.set_cons_zero, List.set_cons_succ])
  refine wpAnyH_take (i := 11) (v := ?vv11) rfl (by kernel_rfl) (by kernel_rfl) (by kernel_rfl) (fun _ _ _ h => h) (Or.inl ⟨by rfl, ?yy11⟩) (by assumption) ?rr11
  case yy11 => intro w hSw; (try dsimp only at hSw); go_simp; first | done | with_reducible rfl
  (try simp only [Act.put, List.getElem_toArray, List.getElem_cons_succ, List.getElem_cons_zero, List.setIfInBounds_toArray, List.set_cons_zero, List.set_cons_succ])
  as_aux_lemma =>
  refine wpAnyH_done (by kernel_rfl) ?_ _
  (try simp only [Act.put, List.getElem_toArray, List.getElem_cons_succ, List.getElem_cons_zero, List.setIfInBounds_toArray])
  as_aux_lemma =>
  have M1 := hidIt MI.out
  clear MI
  try clear sS
  try clear sw
  obtain ⟨p0, p1, q0, q1, a0, a1, b0, b1⟩ := M1.out.cells
  go_wp2_with fail
  have hIn := HIN.out
  as_aux_lemma =>
  have sw := M1.out.cells
  have MI := hidIt (M1.out.on (Below.refl _ _).drew)
  clear M1 p0 p1 q0 q1 a0 a1 b0 b1
  have K1 : Hid True := hidIt trivial
  refine wp_region_held_drew (S := (fun W => W.cell? ⟨w.heap.size, 0, none⟩ = some (.string l1) ∧ W.cell? ⟨w.heap.size, 1, none⟩ = some (.slice s1 n1 c1) ∧ W.cell? ⟨w.heap.size + 1, 0, none⟩ = some (.string l2) ∧ W.cell? ⟨w.heap.size + 1, 1, none⟩ = some (.slice s2 n2 c2) ∧ W.cell? ⟨B3, 0, none⟩ = some (.string l1) ∧ W.cell? ⟨B3, 1, none⟩ = some (.slice s1 I c1) ∧ W.cell? ⟨B4, 0, none⟩ = some (.string l1) ∧ W.cell? ⟨B4, 1, none⟩ = some (.slice s1 K c1))) (by kernel_rfl) sw (fun hHeld => ?_)
  clear sw
  as_aux_lemma =>
  refine wpAnyH_take (i := 0) (v := ?vvb0) rfl (by kernel_rfl) (by kernel_rfl) (by kernel_rfl) (fun _ _ _ h => h) (Or.inl ⟨by rfl, ?yyb0⟩) (by assumption) ?rrb0
  case yyb0 => intro w hSw; (try dsimp only at hSw); go_simp; first | done | with_reducible rfl
  (try simp only [Act.put, List.getElem_toArray, List.getElem_cons_zero, List.setIfInBounds_toArray, List.set_cons_zero, List.set_cons_succ])
  refine wpAnyH_take (i := 1) (v := ?vvb1) rfl (by kernel_rfl) (by kernel_rfl) (by kernel_rfl) (fun _ _ _ h => h) (Or.inl ⟨by rfl, ?yyb1⟩) (by assumption) ?rrb1
  case yyb1 => intro w hSw; (try dsimp only at hSw); go_simp; first | done | with_reducible rfl
  (try simp only [Act.put, List.getElem_toArray, List.getElem_cons_succ, List.getElem_cons_zero, List.setIfInBounds_toArray, List.set_cons_zero, List.set_cons_succ])
  refine wpAnyH_take (i := 8) (v := ?vvb8) rfl (by kernel_rfl) (by kernel_rfl) (by kernel_rfl) (fun _ _ _ h => h) (Or.inl ⟨by rfl, ?yyb8⟩) (by assumption) ?rrb8
  case yyb8 => intro w hSw; (try dsimp only at hSw); go_simp; first | done | with_reducible rfl
  (try simp only [Act.put, List.getElem_toArray, List.getElem_cons_succ, List.getElem_cons_zero, List.setIfInBounds_toArray, List.set_cons_zero, List.set_cons_succ])
  as_aux_lemma =>
  refine wpAnyH_take (i := 9) (v := ?vvb9) rfl (by kernel_rfl) (by kernel_rfl) (by kernel_rfl) (fun _ _ _ h => h) (Or.inl ⟨by rfl, ?yyb9⟩) (by assumption) ?rrb9
  case yyb9 => intro w hSw; (try dsimp only at hSw); go_simp; first | done | with_reducible rfl
  (try simp only [Act.put, List.getElem_toArray, List.getElem_cons_succ, List.getElem_cons_zero, List.setIfInBounds_toArray, List.set_cons_zero, List.set_cons_succ])
  refine wpAnyH_ready (rs := [2]) (by kernel_rfl) (by simp) ?_
  refine AllReadyH.cons rfl (fun K hK => ?_) AllReadyH.nil
  go_simp
  go_at_call 16
  refine (HF.out.cpo _ MI.out.bel).mono ?_
  rintro e y ⟨rfl, hq⟩
  have MI := hidIt (MI.out.on hq)
  clear hq
  refine hK.out _ _ MI.out.cells (fun hHeld => ?_)
  clear hK K
  (try simp only [Act.put, List.getElem_toArray, List.getElem_cons_succ, List.getElem_cons_zero, List.setIfInBounds_toArray, List.set_cons_zero, List.set_cons_succ])
  refine wpAnyH_take (i := 3) (v := ?vvb3) rfl (by kernel_rfl) (by kernel_rfl) (by kernel_rfl) (fun _ _ _ h => h) (Or.inl ⟨by rfl, ?yyb3⟩) (by assumption) ?rrb3
  case yyb3 => intro w hSw; (try dsimp only at hSw); go_simp; first | done | with_reducible rfl
  (try simp only [Act.put, List.getElem_toArray, List.getElem_cons_succ, List.getElem_cons_zero, List.setIfInBounds_toArray, List.set_cons_zero, List.set_cons_succ])
  as_aux_lemma =>
  refine wpAnyH_take (i := 4) (v := undef) rfl (by kernel_rfl) (by kernel_rfl) (by kernel_rfl) (fun _ _ _ h => h) (Or.inr ⟨by rfl, rfl⟩) (by assumption) ?_
  (try simp only [Act.put, List.getElem_toArray, List.getElem_cons_succ, List.getElem_cons_zero, List.setIfInBounds_toArray, List.set_cons_zero, List.set_cons_succ])
  refine wpAnyH_take (i := 5) (v := undef) rfl (by kernel_rfl) (by kernel_rfl) (by kernel_rfl) (fun _ _ _ h => h) (Or.inr ⟨by rfl, rfl⟩) (by assumption) ?_
  (try simp only [Act.put, List.getElem_toArray, List.getElem_cons_succ, List.getElem_cons_zero, List.setIfInBounds_toArray, List.set_cons_zero, List.set_cons_succ])
  refine wpAnyH_ready (rs := [6]) (by kernel_rfl) (by simp) ?_
  refine AllReadyH.cons rfl (fun K hK => ?_) AllReadyH.nil
  go_simp
  refine hK.out _ _ (by assumption) (fun hHeld => ?_)
  clear hK K
  (try simp only [Act.put, List.getElem_toArray, List.getElem_cons_succ, List.getElem_cons_zero, List.setIfInBounds_toArray, List.set_cons_zero, List.set_cons_succ])
  as_aux_lemma =>
  refine wpAnyH_take (i := 7) (v := ?vvb7) rfl (by kernel_rfl) (by kernel_rfl) (by kernel_rfl) (fun _ _ _ h => h) (Or.inl ⟨by rfl, ?yyb7⟩) (by assumption) ?rrb7
  case yyb7 => intro w hSw; (try dsimp only at hSw); go_simp; first | done | with_reducible rfl
  (try simp only [Act.put, List.getElem_toArray, List.getElem_cons_succ, List.getElem_cons_zero, List.setIfInBounds_toArray, List.set_cons_zero, List.set_cons_succ])
  refine wpAnyH_ready (rs := [10]) (by kernel_rfl) (by simp) ?_
  refine AllReadyH.cons rfl (fun K hK => ?_) AllReadyH.nil
  go_simp
  go_at_call 15
  refine (EPO.out _ MI.out.bel).mono ?_
  rintro e y ⟨rfl, hq⟩
  have MI := hidIt (MI.out.on hq)
  clear hq
  refine hK.out _ _ MI.out.cells (fun hHeld => ?_)
  clear hK K
  (try simp only [Act.put, List.getElem_toArray, List.getElem_cons_succ, List.getElem_cons_zero, List.setIfInBounds_toArray, List.set_cons_zero, List.set_cons_succ])
  refine wpAnyH_take (i := 11) (v := ?vvb11) rfl (by kernel_rfl) (by kernel_rfl) (by kernel_rfl) (fun _ _ _ h => h) (Or.inl ⟨by rfl, ?yyb11⟩) (by assumption) ?rrb11
  case yyb11 => intro w hSw; (try dsimp only at hSw); go_simp; first | done | with_reducible rfl
  (try simp only [Act.put, List.getElem_toArray, List.getElem_cons_succ, List.getElem_cons_zero, List.setIfInBounds_toArray, List.set_cons_zero, List.set_cons_succ])
  as_aux_lemma =>
  refine wpAnyH_take (i := 12) (v := ?vvb12) rfl (by kernel_rfl) (by kernel_rfl) (by kernel_rfl) (fun _ _ _ h => h) (Or.inl ⟨by rfl, ?yyb12⟩) (by assumption) ?rrb12
  case yyb12 => intro w hSw; (try dsimp only at hSw); go_simp; first | done | with_reducible rfl
  (try simp only [Act.put, List.getElem_toArray, List.getElem_cons_succ, List.getElem_cons_zero, List.setIfInBounds_toArray, List.set_cons_zero, List.set_cons_succ])
  refine wpAnyH_take (i := 13) (v := ?vvb13) rfl (by kernel_rfl) (by kernel_rfl) (by kernel_rfl) (fun _ _ _ h => h) (Or.inl ⟨by rfl, ?yyb13⟩) (by assumption) ?rrb13
  case yyb13 => intro w hSw; (try dsimp only at hSw); go_simp; first | done | with_reducible rfl
  (try simp only [Act.put, List.getElem_toArray, List.getElem_cons_succ, List.getElem_cons_zero, List.setIfInBounds_toArray, List.set_cons_zero, List.set_cons_succ])
  refine wpAnyH_take (i := 14) (v := ?vvb14) rfl (by kernel_rfl) (by kernel_rfl) (by kernel_rfl) (fun _ _ _ h => h) (Or.inl ⟨by rfl, ?yyb14⟩) (by assumption) ?rrb14
  case yyb14 => intro w hSw; (try dsimp only at hSw); go_simp; first | done | with_reducible rfl
  (try simp only [Act.put, List.getElem_toArray, List.getElem_cons_succ, List.getElem_cons_zero, List.setIfInBounds_toArray, List.set_cons_zero, List.set_cons_succ])
  as_aux_lemma =>
  refine wpAnyH_take (i := 16) (v := ?vvb16) rfl (by kernel_rfl) (by kernel_rfl) (by kernel_rfl) (fun _ _ _ h => h) (Or.inl ⟨by rfl, ?yyb16⟩) (by assumption) ?rrb16
  case yyb16 => intro w hSw; (try dsimp only at hSw); go_simp; first | done | with_reducible rfl
  (try simp only [Act.put, List.getElem_toArray, List.getElem_cons_succ, List.getElem_cons_zero, List.setIfInBounds_toArray, List.set_cons_zero, List.set_cons_succ])
  refine wpAnyH_take (i := 17) (v := ?vvb17) rfl (by kernel_rfl) (by kernel_rfl) (by kernel_rfl) (fun _ _ _ h => h) (Or.inl ⟨by rfl, ?yyb17⟩) (by assumption) ?rrb17
  case yyb17 => intro w hSw; (try dsimp only at hSw); go_simp; first | done | with_reducible rfl
  (try simp only [Act.put, List.getElem_toArray, List.getElem_cons_succ, List.getElem_cons_zero, List.setIfInBounds_toArray, List.set_cons_zero, List.set_cons_succ])
  refine wpAnyH_take (i := 18) (v := ?vvb18) rfl (by kernel_rfl) (by kernel_rfl) (by kernel_rfl) (fun _ _ _ h => h) (Or.inl ⟨by rfl, ?yyb18⟩) (by assumption) ?rrb18
  case yyb18 => intro w hSw; (try dsimp only at hSw); go_simp; first | done | with_reducible rfl
  (try simp only [Act.put, List.getElem_toArray, List.getElem_cons_succ, List.getElem_cons_zero, List.setIfInBounds_toArray, List.set_cons_zero, List.set_cons_succ])
  as_aux_lemma =>
  refine wpAnyH_take (i := 19) (v := ?vvb19) rfl (by kernel_rfl) (by kernel_rfl) (by kernel_rfl) (fun _ _ _ h => h) (Or.inl ⟨by rfl, ?yyb19⟩) (by assumption) ?rrb19
  case yyb19 => intro w hSw; (try dsimp only at hSw); go_simp; first | done | with_reducible rfl
  (try simp only [Act.put, List.getElem_toArray, List.getElem_cons_succ, List.getElem_cons_zero, List.setIfInBounds_toArray, List.set_cons_zero, List.set_cons_succ])
  refine wpAnyH_take (i := 20) (v := ?vvb20) rfl (by kernel_rfl) (by kernel_rfl) (by kernel_rfl) (fun _ _ _ h => h) (Or.inl ⟨by rfl, ?yyb20⟩) (by assumption) ?rrb20
  case yyb20 => intro w hSw; (try dsimp only at hSw); go_simp; first | done | with_reducible rfl
  (try simp only [Act.put, List.getElem_toArray, List.getElem_cons_succ, List.getElem_cons_zero, List.setIfInBounds_toArray, List.set_cons_zero, List.set_cons_succ])
  refine wpAnyH_take (i := 21) (v := ?vvb21) rfl (by kernel_rfl) (by kernel_rfl) (by kernel_rfl) (fun _ _ _ h => h) (Or.inl ⟨by rfl, ?yyb21⟩) (by assumption) ?rrb21
  case yyb21 => intro w hSw; (try dsimp only at hSw); go_simp; first | done | with_reducible rfl
  (try simp only [Act.put, List.getElem_toArray, List.getElem_cons_succ, List.getElem_cons_zero, List.setIfInBounds_toArray, List.set_cons_zero, List.set_cons_succ])
  as_aux_lemma =>
  refine wpAnyH_take (i := 22) (v := ?vvb22) rfl (by kernel_rfl) (by kernel_rfl) (by kernel_rfl) (fun _ _ _ h => h) (Or.inl ⟨by rfl, ?yyb22⟩) (by assumption) ?rrb22
  case yyb22 => intro w hSw; (try dsimp only at hSw); go_simp; first | done | with_reducible rfl
  (try simp only [Act.put, List.getElem_toArray, List.getElem_cons_succ, List.getElem_cons_zero, List.setIfInBounds_toArray, List.set_cons_zero, List.set_cons_succ])
  refine wpAnyH_ready (rs := [15]) (by kernel_rfl) (by simp) ?_
  refine AllReadyH.cons rfl (fun K hK => ?_) AllReadyH.nil
  go_simp
  go_at_call 16
  refine (HF.out.cap _ MI.out.bel).mono ?_
  rintro e y ⟨rfl, hq⟩
  have MI := hidIt (MI.out.on hq)
  clear hq
  refine hK.out _ _ MI.out.cells (fun hHeld => ?_)
  clear hK K
  (try simp only [Act.put, List.getElem_toArray, List.getElem_cons_succ, List.getElem_cons_zero, List.setIfInBounds_toArray, List.set_cons_zero, List.set_cons_succ])
  refine wpAnyH_take (i := 23) (v := ?vvb23) rfl (by kernel_rfl) (by kernel_rfl) (by kernel_rfl) (fun _ _ _ h => h) (Or.inl ⟨by rfl, ?yyb23⟩) (by assumption) ?rrb23
  case yyb23 => intro w hSw; (try dsimp only at hSw); go_simp; first | done | with_reducible rfl
  (try simp only [Act.put, List.getElem_toArray, List.getElem_cons_succ, List.getElem_cons_zero, List.setIfInBounds_toArray, List.set_cons_zero, List.set_cons_succ])
  as_aux_lemma =>
  refine wpAnyH_take (i := 24) (v := ?vvb24) rfl (by kernel_rfl) (by kernel_rfl) (by kernel_rfl) (fun _ _ _ h => h) (Or.inl ⟨by rfl, ?yyb24⟩) (by assumption) ?rrb24
  case yyb24 => intro w hSw; (try dsimp only at hSw); go_simp; first | done | with_reducible rfl
  (try simp only [Act.put, List.getElem_toArray, List.getElem_cons_succ, List.getElem_cons_zero, List.setIfInBounds_toArray, List.set_cons_zero, List.set_cons_succ])
  refine wpAnyH_take (i := 25) (v := ?vvb25) rfl (by kernel_rfl) (by kernel_rfl) (by kernel_rfl) (fun _ _ _ h => h) (Or.inl ⟨by rfl, ?yyb25⟩) (by assumption) ?rrb25
  case yyb25 => intro w hSw; (try dsimp only at hSw); go_simp; first | done | with_reducible rfl
  (try simp only [Act.put, List.getElem_toArray, List.getElem_cons_succ, List.getElem_cons_zero, List.setIfInBounds_toArray, List.set_cons_zero, List.set_cons_succ])
  as_aux_lemma =>
  refine wpAnyH_done (by kernel_rfl) ?_ _
  (try simp only [Act.put, List.getElem_toArray, List.getElem_cons_succ, List.getElem_cons_zero, List.setIfInBounds_toArray])
  go_wp2
  go_ret
  exact ⟨rfl, MI.out.bel⟩
end Go.Proofs.YtlppbgmcoknliaaGreatDoor
namespace Go.Proofs.YtlppbgmcoknliaaGreatDoor
set_option linter.unusedVariables false
open Go.RowKit

set_option maxHeartbeats 20000000 in
set_option maxRecDepth 100000 in
theorem fronts_E (l1 l2 : ByteArray) (s1 s2 : Option Addr) (n1 c1 n2 c2 I K i k : Nat)  (w : World) (HF : Hid (FC w l1 l2 s1 s2 n1 c1 n2 c2 I K false true true false true)) (hi : i < 256) (hk : k < 256) (h1 : n1 ≤ 100) (h2 : n2 ≤ 100) (hn1 : ¬ ((n1 : Int) > 100)) (hn2 : ¬ ((n2 : Int) > 100)) (hwn : IntKind.i64.wrap ((n1 : Int) + 1) = (n1 : Int) + 1) (hwi : IntKind.i64.wrap (i : Int) = (i : Int)) (hwk : IntKind.i64.wrap (k : Int) = (k : Int)) (hn0 : ¬ ((n1 : Int) + 1 = 0)) (hti : (i : Int).tmod ((n1 : Int) + 1) = (I : Int)) (htk : (k : Int).tmod ((n1 : Int) + 1) = (K : Int)) (hI2 : (I : Int) ≤ (c1 : Int)) (hK2 : (K : Int) ≤ (c1 : Int)) (HI1 : (I : Int) ≤ (n1 : Int)) :
    Calls Tryz.prog 7 #[.agg #[.string l1, .slice s1 n1 c1], .int .u8 i, .int .u8 k, .agg #[.string l2, .slice s2 n2 c2]] w fun e w' => e = .returned (.bool true) ∧ Below w.heap.size w w' := by
  have hb := hidIt (below_next (below_new w (.cells #[.string l1, .slice s1 n1 c1] 24)) (below_new _ (.cells #[.string l2, .slice s2 n2 c2] 24)))
  obtain ⟨hh1, hh2⟩ := two_at (w := w) (cs := #[.string l1, .slice s1 n1 c1]) (ds := #[.string l2, .slice s2 n2 c2]) (t := 24) (u := 24) rfl rfl (Below.refl _ _)
  have H1 := hidIt hh1
  have H2 := hidIt hh2
  clear hh1 hh2
  go_enter Tryz.func7, Tryz.ntmps7
  go_wp2_with (first | (go_at_call 9; refine (alive_any _).mono ?_; rintro e w1 ⟨rfl, hq⟩; have hb := hidIt (below_next hb.out hq); have H1 := hidIt (heap_on H1.out hq); have H2 := hidIt (heap_on H2.out hq); clear hq; have p0 : w1.cell? ⟨w.heap.size, 0, none⟩ = some (.string l1) := cell_at H1.out 0; have p1 : w1.cell? ⟨w.heap.size, 1, none⟩ = some (.slice s1 n1 c1) := cell_at H1.out 1; have q0 : w1.cell? ⟨w.heap.size + 1, 0, none⟩ = some (.string l2) := cell_at H2.out 0; have q1 : w1.cell? ⟨w.heap.size + 1, 1, none⟩ = some (.slice s2 n2 c2) := cell_at H2.out 1))
  have hlt1 : w.heap.size < w1.heap.size := (Array.getElem?_eq_some_iff.1 H1.out).1
  have hlt2 : w.heap.size + 1 < w1.heap.size := (Array.getElem?_eq_some_iff.1 H2.out).1
  have hne1 : w.heap.size ≠ w1.heap.size := by omega
  have hne2 : w.heap.size + 1 ≠ w1.heap.size := by omega
  go_region
  have M0 : Hid (Below w.heap.size w (w1.alloc (.cells #[.string l1, .slice s1 I c1] 24)).drew ∧ (w1.alloc (.cells #[.string l1, .slice s1 I c1] 24)).drew.heap[w.heap.size]? = some (.cells #[.string l1, .slice s1 n1 c1] 24 (0, 0)) ∧ (w1.alloc (.cells #[.string l1, .slice s1 I c1] 24)).drew.heap[w.heap.size + 1]? = some (.cells #[.string l2, .slice s2 n2 c2] 24 (0, 0)) ∧ (w1.alloc (.cells #[.string l1, .slice s1 I c1] 24)).drew.heap[w1.heap.size]? = some (.cells #[.string l1, .slice s1 I c1] 24 (0, 0))) := hidIt ⟨below_next hb.out (below_new w1 _).drew, heap_on H1.out (below_new w1 _).drew, heap_on H2.out (below_new w1 _).drew, heap_alloc_new w1 _⟩
  clear p0 p1 q0 q1 hlt1 hlt2 hne1 hne2 hb H1 H2
  obtain ⟨B3, eB3⟩ : ∃ B3, B3 = w1.heap.size := ⟨_, rfl⟩
  rw [← eB3] at M0 ⊢
  clear eB3
  generalize (w1.alloc (.cells #[.string l1, .slice s1 I c1] 24)).drew = W2 at M0 ⊢
  have p0 : W2.cell? ⟨w.heap.size, 0, none⟩ = some (.string l1) := cell_at M0.out.2.1 0
  have p1 : W2.cell? ⟨w.heap.size, 1, none⟩ = some (.slice s1 n1 c1) := cell_at M0.out.2.1 1
  have hlt1 : w.heap.size < W2.heap.size := (Array.getElem?_eq_some_iff.1 M0.out.2.1).1
  have hne1 : w.heap.size ≠ W2.heap.size := by omega
  go_wp2_with fail
  go_region
  have M1 : Hid (FI w l1 l2 s1 s2 n1 c1 n2 c2 I K w.heap.size (w.heap.size + 1) B3 W2.heap.size (W2.alloc (.cells #[.string l1, .slice s1 K c1] 24)).drew) := hidIt ⟨below_next M0.out.1 (below_new W2 _).drew, heap_on M0.out.2.1 (below_new W2 _).drew, heap_on M0.out.2.2.1 (below_new W2 _).drew, heap_on M0.out.2.2.2 (below_new W2 _).drew, heap_alloc_new W2 _⟩
  clear p0 p1 hlt1 hne1 M0
  have HIN : Hid ((I : Int) ≤ (n1 : Int)) := hidIt HI1
  clear hwn hwi hwk hn0 hti htk hI2 hK2 HI1 h1 h2 hi hk hn1 hn2
  obtain ⟨B4, eB4⟩ : ∃ B4, B4 = W2.heap.size := ⟨_, rfl⟩
  rw [← eB4] at M1 ⊢
  clear eB4
  generalize (W2.alloc (.cells #[.string l1, .slice s1 K c1] 24)).drew = W3 at M1 ⊢
  have EPO : Hid (∀ W, Below w.heap.size w W → Calls Tryz.prog 15 #[.agg #[.string l1, .slice s1 n1 c1], .agg #[.string l2, .slice s2 n2 c2]] W fun e w' => e = .returned (.bool false) ∧ Below W.heap.size W w') := hidIt fun W hW => HF.out.epo W hW
  obtain ⟨p0, p1, q0, q1, a0, a1, b0, b1⟩ := M1.out.cells
  as_aux_lemma =>
  have Q0 : Hid True := hidIt trivial
  have Q1 : Hid True := hidIt trivial
  have Q2 : Hid True := hidIt trivial
  have Q3 : Hid True := hidIt trivial
  have Q4 : Hid True := hidIt trivial
  go_wp2_with (first
    | (go_at_call 16; have tk := Q0; clear tk Q0; refine (HF.out.cap _ M1.out.bel).mono ?_; rintro e y ⟨rfl, hq⟩; have M1 := hidIt (M1.out.on hq); clear p0 p1 q0 q1 a0 a1 b0 b1 hq; obtain ⟨p0, p1, q0, q1, a0, a1, b0, b1⟩ := M1.out.cells)
    | (go_at_call 16; have tk := Q1; clear tk Q1; refine (HF.out.cbp _ M1.out.bel).mono ?_; rintro e y ⟨rfl, hq⟩; have M1 := hidIt (M1.out.on hq); clear p0 p1 q0 q1 a0 a1 b0 b1 hq; obtain ⟨p0, p1, q0, q1, a0, a1, b0, b1⟩ := M1.out.cells)
    | (go_at_call 16; have tk := Q2; clear tk Q2; refine (HF.out.cpp _ M1.out.bel).mono ?_; rintro e y ⟨rfl, hq⟩; have M1 := hidIt (M1.out.on hq); clear p0 p1 q0 q1 a0 a1 b0 b1 hq; obtain ⟨p0, p1, q0, q1, a0, a1, b0, b1⟩ := M1.out.cells)
    | (go_at_call 16; have tk := Q3; clear tk Q3; refine (HF.out.cab _ M1.out.bel).mono ?_; rintro e y ⟨rfl, hq⟩; have M1 := hidIt (M1.out.on hq); clear p0 p1 q0 q1 a0 a1 b0 b1 hq; obtain ⟨p0, p1, q0, q1, a0, a1, b0, b1⟩ := M1.out.cells)
    | (go_at_call 16; have tk := Q4; clear tk Q4; refine (HF.out.cba _ M1.out.bel).mono ?_; rintro e y ⟨rfl, hq⟩; have M1 := hidIt (M1.out.on hq); clear p0 p1 q0 q1 a0 a1 b0 b1 hq; obtain ⟨p0, p1, q0, q1, a0, a1, b0, b1⟩ := M1.out.cells))
  as_aux_lemma =>
  have sw := M1.out.cells
  have MI := hidIt (M1.out.on (Below.refl _ _).drew)
  clear M1 p0 p1 q0 q1 a0 a1 b0 b1
  have K1 : Hid True := hidIt trivial
  have K2 : Hid True := hidIt trivial
  go_region_held3 (fun W => W.cell? ⟨w.heap.size, 0, none⟩ = some (.string l1) ∧ W.cell? ⟨w.heap.size, 1, none⟩ = some (.slice s1 n1 c1) ∧ W.cell? ⟨w.heap.size + 1, 0, none⟩ = some (.string l2) ∧ W.cell? ⟨w.heap.size + 1, 1, none⟩ = some (.slice s2 n2 c2) ∧ W.cell? ⟨B3, 0, none⟩ = some (.string l1) ∧ W.cell? ⟨B3, 1, none⟩ = some (.slice s1 I c1) ∧ W.cell? ⟨B4, 0, none⟩ = some (.string l1) ∧ W.cell? ⟨B4, 1, none⟩ = some (.slice s1 K c1)) (go_keep)
    (first
    | (go_at_call 16; have tk := K1; clear tk K1; refine (HF.out.cpo _ MI.out.bel).mono ?_; rintro e y ⟨rfl, hq⟩; have MI := hidIt (MI.out.on hq); have sS := MI.out.cells; clear hq)
    | (go_at_call 16; have tk := K2; clear tk K2; refine (HF.out.cpo _ MI.out.bel).mono ?_; rintro e y ⟨rfl, hq⟩; have MI := hidIt (MI.out.on hq); have sS := MI.out.cells; clear hq)
    | (go_at_call 16; refine (HF.out.cao _ MI.out.bel).mono ?_; rintro e y ⟨rfl, hq⟩; have MI := hidIt (MI.out.on hq); have sS := MI.out.cells; clear hq))
  as_aux_lemma =>
  have M1 := hidIt MI.out
  clear MI
  try clear sS
  try clear sw
  obtain ⟨p0, p1, q0, q1, a0, a1, b0, b1⟩ := M1.out.cells
  go_wp2_with fail
  have hIn := HIN.out
  as_aux_lemma =>
  have sw := M1.out.cells
  have MI := hidIt (M1.out.on (Below.refl _ _).drew)
  clear M1 p0 p1 q0 q1 a0 a1 b0 b1
  have K1 : Hid True := hidIt trivial
  have K2 : Hid True := hidIt trivial
  go_region_held3 (fun W => W.cell? ⟨w.heap.size, 0, none⟩ = some (.string l1) ∧ W.cell? ⟨w.heap.size, 1, none⟩ = some (.slice s1 n1 c1) ∧ W.cell? ⟨w.heap.size + 1, 0, none⟩ = some (.string l2) ∧ W.cell? ⟨w.heap.size + 1, 1, none⟩ = some (.slice s2 n2 c2) ∧ W.cell? ⟨B3, 0, none⟩ = some (.string l1) ∧ W.cell? ⟨B3, 1, none⟩ = some (.slice s1 I c1) ∧ W.cell? ⟨B4, 0, none⟩ = some (.string l1) ∧ W.cell? ⟨B4, 1, none⟩ = some (.slice s1 K c1)) (go_keep)
    (first
    | (go_at_call 16; have tk := K1; clear tk K1; refine (HF.out.cpo _ MI.out.bel).mono ?_; rintro e y ⟨rfl, hq⟩; have MI := hidIt (MI.out.on hq); have sS := MI.out.cells; clear hq)
    | (go_at_call 16; have tk := K2; clear tk K2; refine (HF.out.cop _ MI.out.bel).mono ?_; rintro e y ⟨rfl, hq⟩; have MI := hidIt (MI.out.on hq); have sS := MI.out.cells; clear hq)
    | (go_at_call 15; refine (EPO.out _ MI.out.bel).mono ?_; rintro e y ⟨rfl, hq⟩; have MI := hidIt (MI.out.on hq); have sS := MI.out.cells; clear hq)
    | (go_at_call 16; refine (HF.out.cap _ MI.out.bel).mono ?_; rintro e y ⟨rfl, hq⟩; have MI := hidIt (MI.out.on hq); have sS := MI.out.cells; clear hq))
  go_wp2
  go_ret
  exact ⟨rfl, MI.out.bel⟩
end Go.Proofs.YtlppbgmcoknliaaGreatDoor
namespace Go.Proofs.YtlppbgmcoknliaaGreatDoor
set_option linter.unusedVariables false
open Go.RowKit

set_option maxHeartbeats 20000000 in
set_option maxRecDepth 100000 in
theorem fronts_F (l1 l2 : ByteArray) (s1 s2 : Option Addr) (n1 c1 n2 c2 I K i k : Nat) (vao : Bool) (vop : Bool) (w : World) (HF : Hid (FC w l1 l2 s1 s2 n1 c1 n2 c2 I K false true false vop vao)) (hi : i < 256) (hk : k < 256) (h1 : n1 ≤ 100) (h2 : n2 ≤ 100) (hn1 : ¬ ((n1 : Int) > 100)) (hn2 : ¬ ((n2 : Int) > 100)) (hwn : IntKind.i64.wrap ((n1 : Int) + 1) = (n1 : Int) + 1) (hwi : IntKind.i64.wrap (i : Int) = (i : Int)) (hwk : IntKind.i64.wrap (k : Int) = (k : Int)) (hn0 : ¬ ((n1 : Int) + 1 = 0)) (hti : (i : Int).tmod ((n1 : Int) + 1) = (I : Int)) (htk : (k : Int).tmod ((n1 : Int) + 1) = (K : Int)) (hI2 : (I : Int) ≤ (c1 : Int)) (hK2 : (K : Int) ≤ (c1 : Int)) (HI1 : (I : Int) ≤ (n1 : Int)) :
    Calls Tryz.prog 7 #[.agg #[.string l1, .slice s1 n1 c1], .int .u8 i, .int .u8 k, .agg #[.string l2, .slice s2 n2 c2]] w fun e w' => e = .returned (.bool true) ∧ Below w.heap.size w w' := by
  have hb := hidIt (below_next (below_new w (.cells #[.string l1, .slice s1 n1 c1] 24)) (below_new _ (.cells #[.string l2, .slice s2 n2 c2] 24)))
  obtain ⟨hh1, hh2⟩ := two_at (w := w) (cs := #[.string l1, .slice s1 n1 c1]) (ds := #[.string l2, .slice s2 n2 c2]) (t := 24) (u := 24) rfl rfl (Below.refl _ _)
  have H1 := hidIt hh1
  have H2 := hidIt hh2
  clear hh1 hh2
  go_enter Tryz.func7, Tryz.ntmps7
  go_wp2_with (first | (go_at_call 9; refine (alive_any _).mono ?_; rintro e w1 ⟨rfl, hq⟩; have hb := hidIt (below_next hb.out hq); have H1 := hidIt (heap_on H1.out hq); have H2 := hidIt (heap_on H2.out hq); clear hq; have p0 : w1.cell? ⟨w.heap.size, 0, none⟩ = some (.string l1) := cell_at H1.out 0; have p1 : w1.cell? ⟨w.heap.size, 1, none⟩ = some (.slice s1 n1 c1) := cell_at H1.out 1; have q0 : w1.cell? ⟨w.heap.size + 1, 0, none⟩ = some (.string l2) := cell_at H2.out 0; have q1 : w1.cell? ⟨w.heap.size + 1, 1, none⟩ = some (.slice s2 n2 c2) := cell_at H2.out 1))
  have hlt1 : w.heap.size < w1.heap.size := (Array.getElem?_eq_some_iff.1 H1.out).1
  have hlt2 : w.heap.size + 1 < w1.heap.size := (Array.getElem?_eq_some_iff.1 H2.out).1
  have hne1 : w.heap.size ≠ w1.heap.size := by omega
  have hne2 : w.heap.size + 1 ≠ w1.heap.size := by omega
  go_region
  have M0 : Hid (Below w.heap.size w (w1.alloc (.cells #[.string l1, .slice s1 I c1] 24)).drew ∧ (w1.alloc (.cells #[.string l1, .slice s1 I c1] 24)).drew.heap[w.heap.size]? = some (.cells #[.string l1, .slice s1 n1 c1] 24 (0, 0)) ∧ (w1.alloc (.cells #[.string l1, .slice s1 I c1] 24)).drew.heap[w.heap.size + 1]? = some (.cells #[.string l2, .slice s2 n2 c2] 24 (0, 0)) ∧ (w1.alloc (.cells #[.string l1, .slice s1 I c1] 24)).drew.heap[w1.heap.size]? = some (.cells #[.string l1, .slice s1 I c1] 24 (0, 0))) := hidIt ⟨below_next hb.out (below_new w1 _).drew, heap_on H1.out (below_new w1 _).drew, heap_on H2.out (below_new w1 _).drew, heap_alloc_new w1 _⟩
  clear p0 p1 q0 q1 hlt1 hlt2 hne1 hne2 hb H1 H2
  obtain ⟨B3, eB3⟩ : ∃ B3, B3 = w1.heap.size := ⟨_, rfl⟩
  rw [← eB3] at M0 ⊢
  clear eB3
  generalize (w1.alloc (.cells #[.string l1, .slice s1 I c1] 24)).drew = W2 at M0 ⊢
  have p0 : W2.cell? ⟨w.heap.size, 0, none⟩ = some (.string l1) := cell_at M0.out.2.1 0
  have p1 : W2.cell? ⟨w.heap.size, 1, none⟩ = some (.slice s1 n1 c1) := cell_at M0.out.2.1 1
  have hlt1 : w.heap.size < W2.heap.size := (Array.getElem?_eq_some_iff.1 M0.out.2.1).1
  have hne1 : w.heap.size ≠ W2.heap.size := by omega
  go_wp2_with fail
  go_region
  have M1 : Hid (FI w l1 l2 s1 s2 n1 c1 n2 c2 I K w.heap.size (w.heap.size + 1) B3 W2.heap.size (W2.alloc (.cells #[.string l1, .slice s1 K c1] 24)).drew) := hidIt ⟨below_next M0.out.1 (below_new W2 _).drew, heap_on M0.out.2.1 (below_new W2 _).drew, heap_on M0.out.2.2.1 (below_new W2 _).drew, heap_on M0.out.2.2.2 (below_new W2 _).drew, heap_alloc_new W2 _⟩
  clear p0 p1 hlt1 hne1 M0
  have HIN : Hid ((I : Int) ≤ (n1 : Int)) := hidIt HI1
  clear hwn hwi hwk hn0 hti htk hI2 hK2 HI1 h1 h2 hi hk hn1 hn2
  obtain ⟨B4, eB4⟩ : ∃ B4, B4 = W2.heap.size := ⟨_, rfl⟩
  rw [← eB4] at M1 ⊢
  clear eB4
  generalize (W2.alloc (.cells #[.string l1, .slice s1 K c1] 24)).drew = W3 at M1 ⊢
  have EPO : Hid (∀ W, Below w.heap.size w W → Calls Tryz.prog 15 #[.agg #[.string l1, .slice s1 n1 c1], .agg #[.string l2, .slice s2 n2 c2]] W fun e w' => e = .returned (.bool false) ∧ Below W.heap.size W w') := hidIt fun W hW => HF.out.epo W hW
  obtain ⟨p0, p1, q0, q1, a0, a1, b0, b1⟩ := M1.out.cells
  as_aux_lemma =>
  have Q0 : Hid True := hidIt trivial
  have Q1 : Hid True := hidIt trivial
  have Q2 : Hid True := hidIt trivial
  have Q3 : Hid True := hidIt trivial
  have Q4 : Hid True := hidIt trivial
  go_wp2_with (first
    | (go_at_call 16; have tk := Q0; clear tk Q0; refine (HF.out.cap _ M1.out.bel).mono ?_; rintro e y ⟨rfl, hq⟩; have M1 := hidIt (M1.out.on hq); clear p0 p1 q0 q1 a0 a1 b0 b1 hq; obtain ⟨p0, p1, q0, q1, a0, a1, b0, b1⟩ := M1.out.cells)
    | (go_at_call 16; have tk := Q1; clear tk Q1; refine (HF.out.cbp _ M1.out.bel).mono ?_; rintro e y ⟨rfl, hq⟩; have M1 := hidIt (M1.out.on hq); clear p0 p1 q0 q1 a0 a1 b0 b1 hq; obtain ⟨p0, p1, q0, q1, a0, a1, b0, b1⟩ := M1.out.cells)
    | (go_at_call 16; have tk := Q2; clear tk Q2; refine (HF.out.cpp _ M1.out.bel).mono ?_; rintro e y ⟨rfl, hq⟩; have M1 := hidIt (M1.out.on hq); clear p0 p1 q0 q1 a0 a1 b0 b1 hq; obtain ⟨p0, p1, q0, q1, a0, a1, b0, b1⟩ := M1.out.cells)
    | (go_at_call 16; have tk := Q3; clear tk Q3; refine (HF.out.cab _ M1.out.bel).mono ?_; rintro e y ⟨rfl, hq⟩; have M1 := hidIt (M1.out.on hq); clear p0 p1 q0 q1 a0 a1 b0 b1 hq; obtain ⟨p0, p1, q0, q1, a0, a1, b0, b1⟩ := M1.out.cells)
    | (go_at_call 16; have tk := Q4; clear tk Q4; refine (HF.out.cba _ M1.out.bel).mono ?_; rintro e y ⟨rfl, hq⟩; have M1 := hidIt (M1.out.on hq); clear p0 p1 q0 q1 a0 a1 b0 b1 hq; obtain ⟨p0, p1, q0, q1, a0, a1, b0, b1⟩ := M1.out.cells))
  as_aux_lemma =>
  have sw := M1.out.cells
  have MI := hidIt (M1.out.on (Below.refl _ _).drew)
  clear M1 p0 p1 q0 q1 a0 a1 b0 b1
  have K1 : Hid True := hidIt trivial
  have K2 : Hid True := hidIt trivial
  refine wp_region_held_drew (S := (fun W => W.cell? ⟨w.heap.size, 0, none⟩ = some (.string l1) ∧ W.cell? ⟨w.heap.size, 1, none⟩ = some (.slice s1 n1 c1) ∧ W.cell? ⟨w.heap.size + 1, 0, none⟩ = some (.string l2) ∧ W.cell? ⟨w.heap.size + 1, 1, none⟩ = some (.slice s2 n2 c2) ∧ W.cell? ⟨B3, 0, none⟩ = some (.string l1) ∧ W.cell? ⟨B3, 1, none⟩ = some (.slice s1 I c1) ∧ W.cell? ⟨B4, 0, none⟩ = some (.string l1) ∧ W.cell? ⟨B4, 1, none⟩ = some (.slice s1 K c1))) (by kernel_rfl) sw (fun hHeld => ?_)
  clear sw
  as_aux_lemma =>
  refine wpAnyH_take (i := 0) (v := ?vv0) rfl (by kernel_rfl) (by kernel_rfl) (by kernel_rfl) (fun _ _ _ h => h) (Or.inl ⟨by rfl, ?yy0⟩) (by assumption) ?rr0
  case yy0 => intro w hSw; (try dsimp only at hSw); go_simp; first | done | with_reducible rfl
  (try simp only [Act.put, List.getElem_toArray, List.getElem_cons_zero, List.setIfInBounds_toArray, List.set_cons_zero, List.set_cons_succ])
  refine wpAnyH_take (i := 1) (v := ?vv1) rfl (by kernel_rfl) (by kernel_rfl) (by kernel_rfl) (fun _ _ _ h => h) (Or.inl ⟨by rfl, ?yy1⟩) (by assumption) ?rr1
  case yy1 => intro w hSw; (try dsimp only at hSw); go_simp; first | done | with_reducible rfl
  (try simp only [Act.put, List.getElem_toArray, List.getElem_cons_succ, List.getElem_cons_zero, List.setIfInBounds_toArray, List.set_cons_zero, List.set_cons_succ])
  refine wpAnyH_take (i := 3) (v := ?vv3) rfl (by kernel_rfl) (by kernel_rfl) (by kernel_rfl) (fun _ _ _ h => h) (Or.inl ⟨by rfl, ?yy3⟩) (by assumption) ?rr3
  case yy3 => intro w hSw; (try dsimp only at hSw); go_simp; first | done | with_reducible rfl
  (try simp only [Act.put, List.getElem_toArray, List.getElem_cons_succ, List.getElem_cons_zero, List.setIfInBounds_toArray, List.set_cons_zero, List.set_cons_succ])
  as_aux_lemma =>
  refine wpAnyH_take (i := 4) (v := ?vv4) rfl (by kernel_rfl) (by kernel_rfl) (by kernel_rfl) (fun _ _ _ h => h) (Or.inl ⟨by rfl, ?yy4⟩) (by assumption) ?rr4
  case yy4 => intro w hSw; (try dsimp only at hSw); go_simp; first | done | with_reducible rfl
  (try simp only [Act.put, List.getElem_toArray, List.getElem_cons_succ, List.getElem_cons_zero, List.setIfInBounds_toArray, List.set_cons_zero, List.set_cons_succ])
  refine wpAnyH_ready (rs := [2]) (by kernel_rfl) (by simp) ?_
  refine AllReadyH.cons rfl (fun K hK => ?_) AllReadyH.nil
  go_simp
  go_at_call 16
  refine (HF.out.cpo _ MI.out.bel).mono ?_
  rintro e y ⟨rfl, hq⟩
  have MI := hidIt (MI.out.on hq)
  clear hq
  refine hK.out _ _ MI.out.cells (fun hHeld => ?_)
  clear hK K
  (try simp only [Act.put, List.getElem_toArray, List.getElem_cons_succ, List.getElem_cons_zero, List.setIfInBounds_toArray, List.set_cons_zero, List.set_cons_succ])
  refine wpAnyH_ready (rs := [5]) (by kernel_rfl) (by simp) ?_
  refine AllReadyH.cons rfl (fun K hK => ?_) AllReadyH.nil
  go_simp
  go_at_call 16
  refine (HF.out.cpo _ MI.out.bel).mono ?_
  rintro e y ⟨rfl, hq⟩
  have MI := hidIt (MI.out.on hq)
  clear hq
  refine hK.out _ _ MI.out.cells (fun hHeld => ?_)
  clear hK K
  (try simp only [Act.put, List.getElem_toArray, List.getElem_cons_succ, List.getElem_cons_zero, List.setIfInBounds_toArray, List.set_cons_zero, List.set_cons_succ])
  as_aux_lemma =>
  refine wpAnyH_take (i := 6) (v := ?vv6) rfl (by kernel_rfl) (by kernel_rfl) (by kernel_rfl) (fun _ _ _ h => h) (Or.inl ⟨by rfl, ?yy6⟩) (by assumption) ?rr6
  case yy6 => intro w hSw; (try dsimp only at hSw); go_simp; first | done | with_reducible rfl
  (try simp only [Act.put, List.getElem_toArray, List.getElem_cons_succ, List.getElem_cons_zero, List.setIfInBounds_toArray, List.set_cons_zero, List.set_cons_succ])
  refine wpAnyH_take (i := 7) (v := undef) rfl (by kernel_rfl) (by kernel_rfl) (by kernel_rfl) (fun _ _ _ h => h) (Or.inr ⟨by rfl, rfl⟩) (by assumption) ?_
  (try simp only [Act.put, List.getElem_toArray, List.getElem_cons_succ, List.getElem_cons_zero, List.setIfInBounds_toArray, List.set_cons_zero, List.set_cons_succ])
  refine wpAnyH_take (i := 8) (v := undef) rfl (by kernel_rfl) (by kernel_rfl) (by kernel_rfl) (fun _ _ _ h => h) (Or.inr ⟨by rfl, rfl⟩) (by assumption) ?_
  (try simp only [Act.put, List.getElem_toArray, List.getElem_cons_succ, List.getElem_cons_zero, List.setIfInBounds_toArray, List.set_cons_zero, List.set_cons_succ])
  as_aux_lemma =>
  refine wpAnyH_ready (rs := [9]) (by kernel_rfl) (by simp) ?_
  refine AllReadyH.cons rfl (fun K hK => ?_) AllReadyH.nil
  go_simp
  refine hK.out _ _ (by assumption) (fun hHeld => ?_)
  clear hK K
  (try simp only [Act.put, List.getElem_toArray, List.getElem_cons_succ, List.getElem_cons_zero, List.setIfInBounds_toArray, List.set_cons_zero, List.set_cons_succ])
  refine wpAnyH_take (i := 10) (v := ?vv10) rfl (by kernel_rfl) (by kernel_rfl) (by kernel_rfl) (fun _ _ _ h => h) (Or.inl ⟨by rfl, ?yy10⟩) (by assumption) ?rr10
  case yy10 => intro w hSw; (try dsimp only at hSw); go_simp; first | done | with_reducible rfl
  (try simp only [Act.put, List.getElem_toArray, List.getElem_cons_succ, List.getElem_cons_zero, List.setIfInBounds_toArray, List.set_cons_zero, List.set_cons_succ])
  refine wpAnyH_take (i := 11) (v := ?vv11) rfl (by kernel_rfl) (by kernel_rfl) (by kernel_rfl) (fun _ _ _ h => h) (Or.inl ⟨by rfl, ?yy11⟩) (by assumption) ?rr11
  case yy11 => intro w hSw; (try dsimp only at hSw); go_simp; first | done | with_reducible rfl
  (try simp only [Act.put, List.getElem_toArray, List.getElem_cons_succ, List.getElem_cons_zero, List.setIfInBounds_toArray, List.set_cons_zero, List.set_cons_succ])
  as_aux_lemma =>
  refine wpAnyH_done (by kernel_rfl) ?_ _
  (try simp only [Act.put, List.getElem_toArray, List.getElem_cons_succ, List.getElem_cons_zero, List.setIfInBounds_toArray])
  as_aux_lemma =>
  have M1 := hidIt MI.out
  clear MI
  try clear sS
  try clear sw
  obtain ⟨p0, p1, q0, q1, a0, a1, b0, b1⟩ := M1.out.cells
  go_wp2_with fail
  have hIn := HIN.out
  as_aux_lemma =>
  have sw := M1.out.cells
  have MI := hidIt (M1.out.on (Below.refl _ _).drew)
  clear M1 p0 p1 q0 q1 a0 a1 b0 b1
  have K1 : Hid True := hidIt trivial
  refine wp_region_held_drew (S := (fun W => W.cell? ⟨w.heap.size, 0, none⟩ = some (.string l1) ∧ W.cell? ⟨w.heap.size, 1, none⟩ = some (.slice s1 n1 c1) ∧ W.cell? ⟨w.heap.size + 1, 0, none⟩ = some (.string l2) ∧ W.cell? ⟨w.heap.size + 1, 1, none⟩ = some (.slice s2 n2 c2) ∧ W.cell? ⟨B3, 0, none⟩ = some (.string l1) ∧ W.cell? ⟨B3, 1, none⟩ = some (.slice s1 I c1) ∧ W.cell? ⟨B4, 0, none⟩ = some (.string l1) ∧ W.cell? ⟨B4, 1, none⟩ = some (.slice s1 K c1))) (by kernel_rfl) sw (fun hHeld => ?_)
  clear sw
  as_aux_lemma =>
  refine wpAnyH_take (i := 0) (v := ?vvb0) rfl (by kernel_rfl) (by kernel_rfl) (by kernel_rfl) (fun _ _ _ h => h) (Or.inl ⟨by rfl, ?yyb0⟩) (by assumption) ?rrb0
  case yyb0 => intro w hSw; (try dsimp only at hSw); go_simp; first | done | with_reducible rfl
  (try simp only [Act.put, List.getElem_toArray, List.getElem_cons_zero, List.setIfInBounds_toArray, List.set_cons_zero, List.set_cons_succ])
  refine wpAnyH_take (i := 1) (v := ?vvb1) rfl (by kernel_rfl) (by kernel_rfl) (by kernel_rfl) (fun _ _ _ h => h) (Or.inl ⟨by rfl, ?yyb1⟩) (by assumption) ?rrb1
  case yyb1 => intro w hSw; (try dsimp only at hSw); go_simp; first | done | with_reducible rfl
  (try simp only [Act.put, List.getElem_toArray, List.getElem_cons_succ, List.getElem_cons_zero, List.setIfInBounds_toArray, List.set_cons_zero, List.set_cons_succ])
  refine wpAnyH_take (i := 8) (v := ?vvb8) rfl (by kernel_rfl) (by kernel_rfl) (by kernel_rfl) (fun _ _ _ h => h) (Or.inl ⟨by rfl, ?yyb8⟩) (by assumption) ?rrb8
  case yyb8 => intro w hSw; (try dsimp only at hSw); go_simp; first | done | with_reducible rfl
  (try simp only [Act.put, List.getElem_toArray, List.getElem_cons_succ, List.getElem_cons_zero, List.setIfInBounds_toArray, List.set_cons_zero, List.set_cons_succ])
  as_aux_lemma =>
  refine wpAnyH_take (i := 9) (v := ?vvb9) rfl (by kernel_rfl) (by kernel_rfl) (by kernel_rfl) (fun _ _ _ h => h) (Or.inl ⟨by rfl, ?yyb9⟩) (by assumption) ?rrb9
  case yyb9 => intro w hSw; (try dsimp only at hSw); go_simp; first | done | with_reducible rfl
  (try simp only [Act.put, List.getElem_toArray, List.getElem_cons_succ, List.getElem_cons_zero, List.setIfInBounds_toArray, List.set_cons_zero, List.set_cons_succ])
  refine wpAnyH_ready (rs := [2]) (by kernel_rfl) (by simp) ?_
  refine AllReadyH.cons rfl (fun K hK => ?_) AllReadyH.nil
  go_simp
  go_at_call 16
  refine (HF.out.cpo _ MI.out.bel).mono ?_
  rintro e y ⟨rfl, hq⟩
  have MI := hidIt (MI.out.on hq)
  clear hq
  refine hK.out _ _ MI.out.cells (fun hHeld => ?_)
  clear hK K
  (try simp only [Act.put, List.getElem_toArray, List.getElem_cons_succ, List.getElem_cons_zero, List.setIfInBounds_toArray, List.set_cons_zero, List.set_cons_succ])
  refine wpAnyH_take (i := 3) (v := ?vvb3) rfl (by kernel_rfl) (by kernel_rfl) (by kernel_rfl) (fun _ _ _ h => h) (Or.inl ⟨by rfl, ?yyb3⟩) (by assumption) ?rrb3
  case yyb3 => intro w hSw; (try dsimp only at hSw); go_simp; first | done | with_reducible rfl
  (try simp only [Act.put, List.getElem_toArray, List.getElem_cons_succ, List.getElem_cons_zero, List.setIfInBounds_toArray, List.set_cons_zero, List.set_cons_succ])
  as_aux_lemma =>
  refine wpAnyH_take (i := 4) (v := undef) rfl (by kernel_rfl) (by kernel_rfl) (by kernel_rfl) (fun _ _ _ h => h) (Or.inr ⟨by rfl, rfl⟩) (by assumption) ?_
  (try simp only [Act.put, List.getElem_toArray, List.getElem_cons_succ, List.getElem_cons_zero, List.setIfInBounds_toArray, List.set_cons_zero, List.set_cons_succ])
  refine wpAnyH_take (i := 5) (v := undef) rfl (by kernel_rfl) (by kernel_rfl) (by kernel_rfl) (fun _ _ _ h => h) (Or.inr ⟨by rfl, rfl⟩) (by assumption) ?_
  (try simp only [Act.put, List.getElem_toArray, List.getElem_cons_succ, List.getElem_cons_zero, List.setIfInBounds_toArray, List.set_cons_zero, List.set_cons_succ])
  refine wpAnyH_ready (rs := [6]) (by kernel_rfl) (by simp) ?_
  refine AllReadyH.cons rfl (fun K hK => ?_) AllReadyH.nil
  go_simp
  refine hK.out _ _ (by assumption) (fun hHeld => ?_)
  clear hK K
  (try simp only [Act.put, List.getElem_toArray, List.getElem_cons_succ, List.getElem_cons_zero, List.setIfInBounds_toArray, List.set_cons_zero, List.set_cons_succ])
  as_aux_lemma =>
  refine wpAnyH_take (i := 7) (v := ?vvb7) rfl (by kernel_rfl) (by kernel_rfl) (by kernel_rfl) (fun _ _ _ h => h) (Or.inl ⟨by rfl, ?yyb7⟩) (by assumption) ?rrb7
  case yyb7 => intro w hSw; (try dsimp only at hSw); go_simp; first | done | with_reducible rfl
  (try simp only [Act.put, List.getElem_toArray, List.getElem_cons_succ, List.getElem_cons_zero, List.setIfInBounds_toArray, List.set_cons_zero, List.set_cons_succ])
  refine wpAnyH_ready (rs := [10]) (by kernel_rfl) (by simp) ?_
  refine AllReadyH.cons rfl (fun K hK => ?_) AllReadyH.nil
  go_simp
  go_at_call 15
  refine (EPO.out _ MI.out.bel).mono ?_
  rintro e y ⟨rfl, hq⟩
  have MI := hidIt (MI.out.on hq)
  clear hq
  refine hK.out _ _ MI.out.cells (fun hHeld => ?_)
  clear hK K
  (try simp only [Act.put, List.getElem_toArray, List.getElem_cons_succ, List.getElem_cons_zero, List.setIfInBounds_toArray, List.set_cons_zero, List.set_cons_succ])
  refine wpAnyH_take (i := 11) (v := ?vvb11) rfl (by kernel_rfl) (by kernel_rfl) (by kernel_rfl) (fun _ _ _ h => h) (Or.inl ⟨by rfl, ?yyb11⟩) (by assumption) ?rrb11
  case yyb11 => intro w hSw; (try dsimp only at hSw); go_simp; first | done | with_reducible rfl
  (try simp only [Act.put, List.getElem_toArray, List.getElem_cons_succ, List.getElem_cons_zero, List.setIfInBounds_toArray, List.set_cons_zero, List.set_cons_succ])
  as_aux_lemma =>
  refine wpAnyH_take (i := 12) (v := ?vvb12) rfl (by kernel_rfl) (by kernel_rfl) (by kernel_rfl) (fun _ _ _ h => h) (Or.inl ⟨by rfl, ?yyb12⟩) (by assumption) ?rrb12
  case yyb12 => intro w hSw; (try dsimp only at hSw); go_simp; first | done | with_reducible rfl
  (try simp only [Act.put, List.getElem_toArray, List.getElem_cons_succ, List.getElem_cons_zero, List.setIfInBounds_toArray, List.set_cons_zero, List.set_cons_succ])
  refine wpAnyH_take (i := 13) (v := ?vvb13) rfl (by kernel_rfl) (by kernel_rfl) (by kernel_rfl) (fun _ _ _ h => h) (Or.inl ⟨by rfl, ?yyb13⟩) (by assumption) ?rrb13
  case yyb13 => intro w hSw; (try dsimp only at hSw); go_simp; first | done | with_reducible rfl
  (try simp only [Act.put, List.getElem_toArray, List.getElem_cons_succ, List.getElem_cons_zero, List.setIfInBounds_toArray, List.set_cons_zero, List.set_cons_succ])
  refine wpAnyH_take (i := 14) (v := ?vvb14) rfl (by kernel_rfl) (by kernel_rfl) (by kernel_rfl) (fun _ _ _ h => h) (Or.inl ⟨by rfl, ?yyb14⟩) (by assumption) ?rrb14
  case yyb14 => intro w hSw; (try dsimp only at hSw); go_simp; first | done | with_reducible rfl
  (try simp only [Act.put, List.getElem_toArray, List.getElem_cons_succ, List.getElem_cons_zero, List.setIfInBounds_toArray, List.set_cons_zero, List.set_cons_succ])
  as_aux_lemma =>
  refine wpAnyH_take (i := 16) (v := ?vvb16) rfl (by kernel_rfl) (by kernel_rfl) (by kernel_rfl) (fun _ _ _ h => h) (Or.inl ⟨by rfl, ?yyb16⟩) (by assumption) ?rrb16
  case yyb16 => intro w hSw; (try dsimp only at hSw); go_simp; first | done | with_reducible rfl
  (try simp only [Act.put, List.getElem_toArray, List.getElem_cons_succ, List.getElem_cons_zero, List.setIfInBounds_toArray, List.set_cons_zero, List.set_cons_succ])
  refine wpAnyH_take (i := 17) (v := ?vvb17) rfl (by kernel_rfl) (by kernel_rfl) (by kernel_rfl) (fun _ _ _ h => h) (Or.inl ⟨by rfl, ?yyb17⟩) (by assumption) ?rrb17
  case yyb17 => intro w hSw; (try dsimp only at hSw); go_simp; first | done | with_reducible rfl
  (try simp only [Act.put, List.getElem_toArray, List.getElem_cons_succ, List.getElem_cons_zero, List.setIfInBounds_toArray, List.set_cons_zero, List.set_cons_succ])
  refine wpAnyH_take (i := 18) (v := ?vvb18) rfl (by kernel_rfl) (by kernel_rfl) (by kernel_rfl) (fun _ _ _ h => h) (Or.inl ⟨by rfl, ?yyb18⟩) (by assumption) ?rrb18
  case yyb18 => intro w hSw; (try dsimp only at hSw); go_simp; first | done | with_reducible rfl
  (try simp only [Act.put, List.getElem_toArray, List.getElem_cons_succ, List.getElem_cons_zero, List.setIfInBounds_toArray, List.set_cons_zero, List.set_cons_succ])
  as_aux_lemma =>
  refine wpAnyH_take (i := 19) (v := ?vvb19) rfl (by kernel_rfl) (by kernel_rfl) (by kernel_rfl) (fun _ _ _ h => h) (Or.inl ⟨by rfl, ?yyb19⟩) (by assumption) ?rrb19
  case yyb19 => intro w hSw; (try dsimp only at hSw); go_simp; first | done | with_reducible rfl
  (try simp only [Act.put, List.getElem_toArray, List.getElem_cons_succ, List.getElem_cons_zero, List.setIfInBounds_toArray, List.set_cons_zero, List.set_cons_succ])
  refine wpAnyH_take (i := 20) (v := ?vvb20) rfl (by kernel_rfl) (by kernel_rfl) (by kernel_rfl) (fun _ _ _ h => h) (Or.inl ⟨by rfl, ?yyb20⟩) (by assumption) ?rrb20
  case yyb20 => intro w hSw; (try dsimp only at hSw); go_simp; first | done | with_reducible rfl
  (try simp only [Act.put, List.getElem_toArray, List.getElem_cons_succ, List.getElem_cons_zero, List.setIfInBounds_toArray, List.set_cons_zero, List.set_cons_succ])
  refine wpAnyH_take (i := 21) (v := ?vvb21) rfl (by kernel_rfl) (by kernel_rfl) (by kernel_rfl) (fun _ _ _ h => h) (Or.inl ⟨by rfl, ?yyb21⟩) (by assumption) ?rrb21
  case yyb21 => intro w hSw; (try dsimp only at hSw); go_simp; first | done | with_reducible rfl
  (try simp only [Act.put, List.getElem_toArray, List.getElem_cons_succ, List.getElem_cons_zero, List.setIfInBounds_toArray, List.set_cons_zero, List.set_cons_succ])
  as_aux_lemma =>
  refine wpAnyH_take (i := 22) (v := ?vvb22) rfl (by kernel_rfl) (by kernel_rfl) (by kernel_rfl) (fun _ _ _ h => h) (Or.inl ⟨by rfl, ?yyb22⟩) (by assumption) ?rrb22
  case yyb22 => intro w hSw; (try dsimp only at hSw); go_simp; first | done | with_reducible rfl
  (try simp only [Act.put, List.getElem_toArray, List.getElem_cons_succ, List.getElem_cons_zero, List.setIfInBounds_toArray, List.set_cons_zero, List.set_cons_succ])
  refine wpAnyH_ready (rs := [15]) (by kernel_rfl) (by simp) ?_
  refine AllReadyH.cons rfl (fun K hK => ?_) AllReadyH.nil
  go_simp
  go_at_call 16
  refine (HF.out.cap _ MI.out.bel).mono ?_
  rintro e y ⟨rfl, hq⟩
  have MI := hidIt (MI.out.on hq)
  clear hq
  refine hK.out _ _ MI.out.cells (fun hHeld => ?_)
  clear hK K
  (try simp only [Act.put, List.getElem_toArray, List.getElem_cons_succ, List.getElem_cons_zero, List.setIfInBounds_toArray, List.set_cons_zero, List.set_cons_succ])
  refine wpAnyH_take (i := 23) (v := ?vvb23) rfl (by kernel_rfl) (by kernel_rfl) (by kernel_rfl) (fun _ _ _ h => h) (Or.inl ⟨by rfl, ?yyb23⟩) (by assumption) ?rrb23
  case yyb23 => intro w hSw; (try dsimp only at hSw); go_simp; first | done | with_reducible rfl
  (try simp only [Act.put, List.getElem_toArray, List.getElem_cons_succ, List.getElem_cons_zero, List.setIfInBounds_toArray, List.set_cons_zero, List.set_cons_succ])
  as_aux_lemma =>
  refine wpAnyH_take (i := 24) (v := ?vvb24) rfl (by kernel_rfl) (by kernel_rfl) (by kernel_rfl) (fun _ _ _ h => h) (Or.inl ⟨by rfl, ?yyb24⟩) (by assumption) ?rrb24
  case yyb24 => intro w hSw; (try dsimp only at hSw); go_simp; first | done | with_reducible rfl
  (try simp only [Act.put, List.getElem_toArray, List.getElem_cons_succ, List.getElem_cons_zero, List.setIfInBounds_toArray, List.set_cons_zero, List.set_cons_succ])
  refine wpAnyH_take (i := 25) (v := ?vvb25) rfl (by kernel_rfl) (by kernel_rfl) (by kernel_rfl) (fun _ _ _ h => h) (Or.inl ⟨by rfl, ?yyb25⟩) (by assumption) ?rrb25
  case yyb25 => intro w hSw; (try dsimp only at hSw); go_simp; first | done | with_reducible rfl
  (try simp only [Act.put, List.getElem_toArray, List.getElem_cons_succ, List.getElem_cons_zero, List.setIfInBounds_toArray, List.set_cons_zero, List.set_cons_succ])
  as_aux_lemma =>
  refine wpAnyH_done (by kernel_rfl) ?_ _
  (try simp only [Act.put, List.getElem_toArray, List.getElem_cons_succ, List.getElem_cons_zero, List.setIfInBounds_toArray])
  go_wp2
  go_ret
  exact ⟨rfl, MI.out.bel⟩
end Go.Proofs.YtlppbgmcoknliaaGreatDoor
