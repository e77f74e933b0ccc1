/-
  The walk of TreeFronts.
-/
import Derived.Test.YtlppbgmcoknliaaGreatDoorUse3
import Derived.Test.YtlppbgmcoknliaaGreatDoorPlQ
import Derived.Test.YtlppbgmcoknliaaGreatDoorAlv2
import Derived.Deep.RegionHeld3
namespace Go.Proofs.YtlppbgmcoknliaaGreatDoor
set_option linter.unusedVariables false
open Go.RowKit

set_option maxHeartbeats 20000000 in
set_option maxRecDepth 100000 in
theorem fronts_long (l1 l2 : ByteArray) (s1 s2 : Option Addr) (n1 c1 n2 c2 : Nat) (i k : Int) (w : World) (hal : ∀ w, Calls Tryz.prog 9 #[] w fun e w' => e = .returned (.bool true) ∧ Below w.heap.size w w') (h1 : n1 ≤ 9223372036854775807) (h2 : n2 ≤ 9223372036854775807) (h : 100 < n1 ∨ 100 < n2) :
    Calls Tryz.prog 7 #[.agg #[.string l1, .slice s1 n1 c1], .int .u8 i, .int .u8 k, .agg #[.string l2, .slice s2 n2 c2]] w fun e w' => e = .returned (.bool true) ∧ Below w.heap.size w w' := by
  have hb := hidIt (below_next (below_new w (.cells #[.string l1, .slice s1 n1 c1] 24)) (below_new _ (.cells #[.string l2, .slice s2 n2 c2] 24)))
  obtain ⟨hh1, hh2⟩ := two_at (w := w) (cs := #[.string l1, .slice s1 n1 c1]) (ds := #[.string l2, .slice s2 n2 c2]) (t := 24) (u := 24) rfl rfl (Below.refl _ _)
  have H1 := hidIt hh1
  have H2 := hidIt hh2
  have HAL := hidIt hal
  clear hh1 hh2 hal
  go_enter Tryz.func7, Tryz.ntmps7
  go_wp2_with (go_at_call 9; refine (HAL.out _).mono ?_)
  rintro e w1 ⟨rfl, hq⟩
  have hb := hidIt (below_next hb.out hq)
  have H1 := hidIt (heap_on H1.out hq)
  have H2 := hidIt (heap_on H2.out hq)
  clear hq HAL
  have p1 : w1.cell? ⟨w.heap.size, 1, none⟩ = some (.slice s1 n1 c1) := cell_at H1.out 1
  have q1 : w1.cell? ⟨w.heap.size + 1, 1, none⟩ = some (.slice s2 n2 c2) := cell_at H2.out 1
  by_cases hn : 100 < n1
  · have hn1 : (n1 : Int) > 100 := by omega
    go_wp2
    go_ret
    exact ⟨rfl, hb.out⟩
  · have hn1 : ¬ ((n1 : Int) > 100) := by omega
    have hn2 : (n2 : Int) > 100 := by omega
    go_wp2
    go_ret
    exact ⟨rfl, hb.out⟩

/-- The four places in their boxes. -/
structure FI (w : World) (l1 l2 : ByteArray) (s1 s2 : Option Addr) (n1 c1 n2 c2 I K B1 B2 B3 B4 : Nat) (W : World) : Prop where
  bel : Below w.heap.size w W
  hp : W.heap[B1]? = some (.cells #[.string l1, .slice s1 n1 c1] 24 (0, 0))
  ho : W.heap[B2]? = some (.cells #[.string l2, .slice s2 n2 c2] 24 (0, 0))
  ha : W.heap[B3]? = some (.cells #[.string l1, .slice s1 I c1] 24 (0, 0))
  hb : W.heap[B4]? = some (.cells #[.string l1, .slice s1 K c1] 24 (0, 0))
theorem FI.on {w W W' : World} {l1 l2 : ByteArray} {s1 s2 : Option Addr} {n1 c1 n2 c2 I K B1 B2 B3 B4 : Nat} (h : FI w l1 l2 s1 s2 n1 c1 n2 c2 I K B1 B2 B3 B4 W) (hb : Below W.heap.size W W') : FI w l1 l2 s1 s2 n1 c1 n2 c2 I K B1 B2 B3 B4 W' :=
  ⟨below_next h.bel hb, heap_on h.hp hb, heap_on h.ho hb, heap_on h.ha hb, heap_on h.hb hb⟩
theorem FI.cells {w W : World} {l1 l2 : ByteArray} {s1 s2 : Option Addr} {n1 c1 n2 c2 I K B1 B2 B3 B4 : Nat} (h : FI w l1 l2 s1 s2 n1 c1 n2 c2 I K B1 B2 B3 B4 W) : W.cell? ⟨B1, 0, none⟩ = some (.string l1) ∧ W.cell? ⟨B1, 1, none⟩ = some (.slice s1 n1 c1) ∧ W.cell? ⟨B2, 0, none⟩ = some (.string l2) ∧ W.cell? ⟨B2, 1, none⟩ = some (.slice s2 n2 c2) ∧ W.cell? ⟨B3, 0, none⟩ = some (.string l1) ∧ W.cell? ⟨B3, 1, none⟩ = some (.slice s1 I c1) ∧ W.cell? ⟨B4, 0, none⟩ = some (.string l1) ∧ W.cell? ⟨B4, 1, none⟩ = some (.slice s1 K c1) :=
  ⟨cell_at h.hp 0, cell_at h.hp 1, cell_at h.ho 0, cell_at h.ho 1, cell_at h.ha 0, cell_at h.ha 1, cell_at h.hb 0, cell_at h.hb 1⟩

end Go.Proofs.YtlppbgmcoknliaaGreatDoor
