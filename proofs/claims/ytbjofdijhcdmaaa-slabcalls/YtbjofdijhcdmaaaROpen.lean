/-
  A row of calls that comes in, and one call that comes in by its value.
-/
import Derived.Test.YtbjofdijhcdmaaaRDo
import Derived.ProofKit
import Derived.OpenShut
import Derived.ShutString
import Derived.ChangeOld
import Derived.Below
import Derived.ChangeArms
import Derived.Deep.Slices
import Derived.Deep.Strs
import Derived.Lib.SmallJoins
namespace Go.Proofs.Ytbjofdijhcdmaaa
open Go.ChangeShapes Go.WideShapes Go.ChangeAt Go.RowKit
set_option linter.unusedVariables false

/-- A call. -/
structure Cd where
  i : Int
  o : Int
  n : Int
  b : Int
instance : Inhabited Cd := ⟨⟨0, 0, 0, 0⟩⟩
def Cd.val (d : Cd) : Value := .agg #[.int .i64 d.i, .int .i64 d.o, .int .i64 d.n, .int .u64 d.b]
structure Cd.fits (d : Cd) : Prop where
  b0 : 0 ≤ d.b
  b1 : d.b < 18446744073709551616
  n0 : -9223372036854775808 ≤ d.n
  n1 : d.n ≤ 9223372036854775807
/-- The calls lie in a row at co. -/
def CAt (w : World) (co : Option Addr) (cs : List Cd) : Prop := ∀ j d, cs[j]? = some d → ∃ b off, co = some ⟨b, off, none⟩ ∧ w.cell? ⟨b, off + j * 4, none⟩ = some (.int .i64 d.i) ∧ w.cell? ⟨b, off + j * 4 + 1, none⟩ = some (.int .i64 d.o) ∧ w.cell? ⟨b, off + j * 4 + 2, none⟩ = some (.int .i64 d.n) ∧ w.cell? ⟨b, off + j * 4 + 3, none⟩ = some (.int .u64 d.b) ∧ d.fits

section
variable {H : Type} {enc : TypeId × Value → H} {W : World} {fuel : Nat} {x : DataW H × List MemPlace}

set_option maxRecDepth 100000 in
theorem open_call {cs : List Value} (h : DataW.trod enc Try.prog W 0 (fun _ => true) true fuel 25 cs = some x) : ∃ d : Cd, cs = [.int .i64 d.i, .int .i64 d.o, .int .i64 d.n, .int .u64 d.b] ∧ d.fits := by
  obtain ⟨y0, y1, y2, y3, m, rfl, hl, h0, h1, h2, h3⟩ := Go.Joins.trod_struct4 Try.underlying25 h
  have e25 : Try.prog.cellsOf 25 = 4 := by kernel_rfl
  have e3 : Try.prog.cellsOf 3 = 1 := by kernel_rfl
  have e2 : Try.prog.cellsOf 2 = 1 := by kernel_rfl
  have e23 : Try.prog.cellsOf 23 = 1 := by kernel_rfl
  rw [e25] at hl
  match cs, hl with
  | [v0, v1, v2, v3], _ =>
    simp [e3, e2, e23] at h0 h1 h2 h3
    obtain ⟨i, hi, _⟩ := DataW.trod_int Try.underlying3 h0
    obtain ⟨o, ho, _⟩ := DataW.trod_int Try.underlying3 h1
    obtain ⟨n, hn, _, wn⟩ := DataW.trod_int Try.underlying2 h2
    obtain ⟨b, hb, _, wb⟩ := DataW.trod_int Try.underlying23 h3
    simp at hi ho hn hb
    subst hi ho hn hb
    simp only [Lit.wf, Bool.and_eq_true, decide_eq_true_eq] at wn wb
    rw [show IntKind.i64.min = -9223372036854775808 from rfl, show IntKind.i64.max = 9223372036854775807 from rfl] at wn
    rw [show IntKind.u64.min = 0 from rfl, show IntKind.u64.max = 18446744073709551615 from rfl] at wb
    exact ⟨⟨i, o, n, b⟩, rfl, wb.1, by have := wb.2; show b < _; omega, wn.1, wn.2⟩

set_option maxRecDepth 100000 in
theorem open_calls {base : Nat} {v : Value} {d : DataW H} {p : List MemPlace} (hv : Value.okWide Try.prog W .any base 22 v) (h : DataW.Trod enc Try.prog W 0 (fun _ => true) true 22 v d p) :
    ∃ a cs cap, v = .slice a cs.length cap ∧ CAt W a cs ∧ cs.length ≤ 9223372036854775807 := by
  obtain ⟨a, len, cap, rfl⟩ := okWide_slice Try.underlying22 hv
  obtain ⟨fuel, hf⟩ := h
  rcases Deep.open_slice Try.underlying22 hf with ⟨hcs, _⟩ | ⟨ad, l, c, m, n, D, Pl, hcs, _, hl, hm, hmm, _, hx⟩
  · simp [Value.cells] at hcs
    obtain ⟨rfl, rfl, rfl⟩ := hcs
    exact ⟨none, [], 0, rfl, fun j d hj => by simp at hj, by simp⟩
  · simp [Value.cells] at hcs
    obtain ⟨rfl, rfl, rfl⟩ := hcs
    simp at hmm
    have e25 : Try.prog.cellsOf 25 = 4 := by kernel_rfl
    have each : ∀ i, i < len → ∃ d : Cd, W.cell? (ad.add (i * 4)) = some (.int .i64 d.i) ∧ W.cell? (ad.add (i * 4 + 1)) = some (.int .i64 d.o) ∧ W.cell? (ad.add (i * 4 + 2)) = some (.int .i64 d.n) ∧ W.cell? (ad.add (i * 4 + 3)) = some (.int .u64 d.b) ∧ d.fits := by
      intro i hi
      obtain ⟨cs', h1, h2⟩ := hx i (by omega)
      rw [e25] at h1
      obtain ⟨_, hlen, hcell⟩ := World.cells?_some h1
      obtain ⟨d, rfl, hz⟩ := open_call h2
      have c0 := hcell 0 (by omega)
      have c1 := hcell 1 (by omega)
      have c2 := hcell 2 (by omega)
      have c3 := hcell 3 (by omega)
      rw [Deep.add_add] at c0 c1 c2 c3
      exact ⟨d, by simpa using c0, by simpa using c1, by simpa using c2, by simpa using c3, hz⟩
    obtain ⟨f, hf'⟩ := Deep.choose_lt each
    refine ⟨some ad, (List.range len).map f, cap, by simp, ?_, by unfold maxLen at hm; simp; omega⟩
    intro j d hj
    have hjl : j < len := by have := (List.getElem?_eq_some_iff.1 hj).1; simpa using this
    simp [hjl] at hj
    subst hj
    obtain ⟨c0, c1, c2, c3, hz⟩ := hf' j hjl
    obtain ⟨b, off, spot⟩ := ad
    have hspot : spot = none := by
      have h0 := (hf' 0 (by omega)).1
      simpa [Addr.add] using World.cell?_spot h0
    subst hspot
    rw [add_plain] at c0 c1 c2 c3
    exact ⟨b, off, rfl, c0, by simpa [Nat.add_assoc] using c1, by simpa [Nat.add_assoc] using c2, by simpa [Nat.add_assoc] using c3, hz⟩

set_option maxRecDepth 100000 in
theorem open_last {base : Nat} {v : Value} {d : DataW H} {p : List MemPlace} (hv : Value.okWide Try.prog W .any base 25 v) (h : DataW.Trod enc Try.prog W 0 (fun _ => true) true 25 v d p) :
    ∃ d : Cd, v = d.val ∧ d.fits := by
  obtain ⟨cs, rfl, hsz⟩ := okWide_struct Try.underlying25 hv
  obtain ⟨fuel, hf⟩ := h
  obtain ⟨d, hcs, hz⟩ := open_call hf
  refine ⟨d, ?_, hz⟩
  simp [Value.cells] at hcs
  unfold Cd.val
  congr 1
  cases cs
  simp_all
end
end Go.Proofs.Ytbjofdijhcdmaaa
