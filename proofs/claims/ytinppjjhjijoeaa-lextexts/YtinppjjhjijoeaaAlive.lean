/-
  The walk of alive.
-/
import Derived.Test.YtinppjjhjijoeaaName
namespace Go.Proofs.Ytinppjjhjijoeaa
set_option linter.unusedVariables false
open Go.RowKit

theorem heap_on {w w' : World} {b : Nat} {o : Obj} (h : w.heap[b]? = some o) (hb : Below w.heap.size w w') : w'.heap[b]? = some o :=
  (hb.block b (Array.getElem?_eq_some_iff.1 h).1).trans h
theorem below_new (w : World) (o : Obj) : Below w.heap.size w (w.alloc o) := (Below.refl _ _).alloc (Nat.le_refl _) o
theorem below_next {a b c : World} (h : Below a.heap.size a b) (k : Below b.heap.size b c) : Below a.heap.size a c := h.trans (k.mono h.size)

def ts1 : List Tok := [⟨1, 0, [120], 0⟩, ⟨4, 1, [46], 0⟩, ⟨4, 2, [42], 0⟩, ⟨4, 3, [61], 0⟩, ⟨3, 4, [45, 53], -5⟩, ⟨4, 6, [59], 0⟩]
def ts3 : List Tok := [⟨2, 0, [98, 111, 120], 0⟩, ⟨1, 4, [98, 111, 120, 49], 0⟩]
theorem alive_1 : lexL [120, 46, 42, 61, 45, 53, 59, 35, 32, 97] = .ok ts1 := by kernel_rfl
theorem alive_2 : lexL [97, 32, 36] = .error 2 := by kernel_rfl
theorem alive_3 : lexL [98, 111, 120, 32, 98, 111, 120, 49] = .ok ts3 := by kernel_rfl
theorem alive_j : joinL (texts ts1) = [120, 32, 46, 32, 42, 32, 61, 32, 45, 53, 32, 59] := by kernel_rfl
theorem alive_n1 : nameB [99, 97, 116, 99, 104] = false := by kernel_rfl
theorem alive_n2 : nameB [97, 95, 49] = true := by kernel_rfl
theorem alive_w : isWord [99, 97, 116, 99, 104] = true := by kernel_rfl

set_option maxHeartbeats 1000000 in
theorem alive_any (w : World) : Calls Try.prog 9 #[] w fun e w' => e = .returned (.bool true) ∧ Below w.heap.size w w' := by
  have c1 : ∀ w, Calls Try.prog 10 #[.string ⟨#[120, 46, 42, 61, 45, 53, 59, 35, 32, 97]⟩] w fun e w' => ∃ (ao : Option Addr) (cap : Nat), e = .returned (.tuple #[.slice ao 6 cap, .agg #[.int .i64 0, .int .i64 0]]) ∧ Row w w' ao cap ts1 := fun w => lex_ok (s := ⟨#[120, 46, 42, 61, 45, 53, 59, 35, 32, 97]⟩) (by decide) alive_1 w
  have c2 : ∀ w, Calls Try.prog 10 #[.string ⟨#[97, 32, 36]⟩] w fun e w' => e = .returned (.tuple #[.slice none 0 0, .agg #[.int .i64 2, .int .i64 1]]) ∧ Below w.heap.size w w' := fun w => lex_err (s := ⟨#[97, 32, 36]⟩) (by decide) alive_2 w
  have c3 : ∀ w, Calls Try.prog 10 #[.string ⟨#[98, 111, 120, 32, 98, 111, 120, 49]⟩] w fun e w' => ∃ (ao : Option Addr) (cap : Nat), e = .returned (.tuple #[.slice ao 2 cap, .agg #[.int .i64 0, .int .i64 0]]) ∧ Row w w' ao cap ts3 := fun w => lex_ok (s := ⟨#[98, 111, 120, 32, 98, 111, 120, 49]⟩) (by decide) alive_3 w
  have c4 : ∀ w, Calls Try.prog 13 #[.string ⟨#[99, 97, 116, 99, 104]⟩] w fun e w' => e = .returned (.bool true) ∧ w = w' := fun w => by
    have := word_any ⟨#[99, 97, 116, 99, 104]⟩ w
    rw [show isWord (⟨#[99, 97, 116, 99, 104]⟩ : ByteArray).data.toList = true from alive_w] at this
    exact this
  have c5 : ∀ w, Calls Try.prog 15 #[.string ⟨#[99, 97, 116, 99, 104]⟩] w fun e w' => e = .returned (.bool false) ∧ Below w.heap.size w w' := fun w => by
    have := isName_any ⟨#[99, 97, 116, 99, 104]⟩ (by decide) w
    rw [show nameB (⟨#[99, 97, 116, 99, 104]⟩ : ByteArray).data.toList = false from alive_n1] at this
    exact this
  have c6 : ∀ w, Calls Try.prog 15 #[.string ⟨#[97, 95, 49]⟩] w fun e w' => e = .returned (.bool true) ∧ Below w.heap.size w w' := fun w => by
    have := isName_any ⟨#[97, 95, 49]⟩ (by decide) w
    rw [show nameB (⟨#[97, 95, 49]⟩ : ByteArray).data.toList = true from alive_n2] at this
    exact this
  go_enter Try.func9, Try.ntmps9
  go_wp2_with (go_at_call 10; refine (c1 _).mono ?_)
  rintro e w1 ⟨ao1, cap1, rfl, h1⟩
  have h1 := hidIt h1
  clear c1
  go_wp2_with (go_at_call 10; refine (c2 _).mono ?_)
  rintro e w2 ⟨rfl, h2⟩
  have h2 := hidIt h2
  clear c2
  go_wp2_with (go_at_call 10; refine (c3 _).mono ?_)
  rintro e w3 ⟨ao3, cap3, rfl, h3⟩
  have h3 := hidIt h3
  clear c3
  have b2 := hidIt (below_box h2.out)
  have b3 := hidIt (below_box h3.out.bel)
  have R1 := hidIt fun o => ((h1.out.kept b2.out).kept b3.out).kept (below_new w3 o)
  have R3 := hidIt fun o => h3.out.kept (below_new w3 o)
  have q1 := hidIt (heap_on (box_at h2.out) b3.out)
  have q2 := hidIt (box_at h3.out.bel)
  obtain ⟨g1, rfl, _, d0, d1, d2, d3⟩ := row_at (h1.out.kept b2.out |>.kept b3.out).row (k := 4) (by decide)
  obtain ⟨g3, rfl, _, e0, _⟩ := row_at h3.out.row (k := 0) (by decide)
  have c7 : ∀ o, Calls Try.prog 17 #[.slice (some ⟨g1, 0, none⟩) 6 cap1] (w3.alloc o) fun e w' => e = .returned (.string ⟨#[120, 32, 46, 32, 42, 32, 61, 32, 45, 53, 32, 59]⟩) ∧ Below (w3.alloc o).heap.size (w3.alloc o) w' := fun o => by
    have := join_any ts1 (some ⟨g1, 0, none⟩) cap1 w.heap.size (w3.alloc o) (R1.out o).row (by decide) (by rw [alive_j]; decide)
    rw [alive_j] at this
    exact this
  have t0 : ∀ o, (w3.alloc o).cell? ⟨g1, 16, none⟩ = some (.int .i64 3) := fun o => cell_later (below_new w3 o) d0
  have t1 : ∀ o, (w3.alloc o).cell? ⟨g1, 17, none⟩ = some (.int .i64 4) := fun o => cell_later (below_new w3 o) d1
  have t3 : ∀ o, (w3.alloc o).cell? ⟨g1, 19, none⟩ = some (.int .i64 (-5)) := fun o => cell_later (below_new w3 o) d3
  have v0 : ∀ o, (w3.alloc o).cell? ⟨g3, 0, none⟩ = some (.int .i64 2) := fun o => cell_later (below_new w3 o) e0
  have v1 : ∀ o, (w3.alloc o).cell? ⟨g3, 4, none⟩ = some (.int .i64 1) := fun o => by
    obtain ⟨g, hg, _, e1, _⟩ := row_at h3.out.row (k := 1) (by decide)
    injection hg with hg
    injection hg with hg
    subst hg
    exact cell_later (below_new w3 o) e1
  have x0 : ∀ o, (w3.alloc o).cell? ⟨w1.heap.size, 0, none⟩ = some (.int .i64 0) := fun o => cell_later (below_new w3 o) (cell_at q1.out 0)
  have x1 : ∀ o, (w3.alloc o).cell? ⟨w1.heap.size, 1, none⟩ = some (.int .i64 0) := fun o => cell_later (below_new w3 o) (cell_at q1.out 1)
  have y0 : ∀ o, (w3.alloc o).cell? ⟨w2.heap.size, 0, none⟩ = some (.int .i64 2) := fun o => cell_later (below_new w3 o) (cell_at q2.out 0)
  have y1 : ∀ o, (w3.alloc o).cell? ⟨w2.heap.size, 1, none⟩ = some (.int .i64 1) := fun o => cell_later (below_new w3 o) (cell_at q2.out 1)
  have BB := hidIt fun o => below_next (below_next (below_next h1.out.bel b2.out) b3.out) (below_new w3 o)
  clear d0 d1 d2 d3 e0 q1 q2 R1 R3 h1 h2 h3 b2 b3
  go_wp2_with (go_at_call 17; refine (c7 _).mono ?_)
  rintro e w4 ⟨rfl, hb4⟩
  have hb4 := hidIt hb4
  clear c7 t0 t1 t3 v0 v1 x0 x1 y0 y1
  go_wp2_with (go_at_call 13; refine (c4 _).mono ?_)
  rintro e w5 ⟨rfl, rfl⟩
  go_wp2_with (go_at_call 15; refine (c5 _).mono ?_)
  rintro e w5 ⟨rfl, hb5⟩
  have hb5 := hidIt hb5
  clear c5
  go_wp2_with (go_at_call 15; refine (c6 _).mono ?_)
  rintro e w6 ⟨rfl, hb6⟩
  have hb6 := hidIt hb6
  go_wp2
  go_ret
  exact ⟨rfl, below_next (below_next (below_next (BB.out _) hb4.out) hb5.out) hb6.out⟩
end Go.Proofs.Ytinppjjhjijoeaa
