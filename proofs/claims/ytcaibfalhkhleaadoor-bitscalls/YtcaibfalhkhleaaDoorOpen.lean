/-
  A row of calls that comes in, and one call that comes in by its value.
-/
import Derived.Test.YtcaibfalhkhleaaDoorLift
import Derived.Test.YtcaibfalhkhleaaDoorGreat
import Derived.Deep.Slices
import Derived.Deep.Strs
namespace Go.Proofs.YtcaibfalhkhleaaDoor
open Go.ChangeShapes Go.WideShapes Go.ChangeAt Go.RowKit
set_option linter.unusedVariables false

instance : Inhabited Cd := ⟨⟨0, 0, none, [], 0⟩⟩

section
variable {H : Type} {enc : TypeId × Value → H} {W : World} {fuel : Nat} {x : DataW H × List MemPlace}

theorem open_cell {v : Value} (h : DataW.trod enc Tryd.prog W 0 (fun _ => true) true fuel 22 [v] = some x) : ∃ a len cap zs, v = .slice a len cap ∧ LIn W a len zs := by
  rcases open_ints Tryd.underlying22 Tryd.underlying3 (by kernel_rfl) h with ⟨hcs, _⟩ | ⟨a, l, c, zs, hcs, _, hl, hm, hz, _, hcell, hwz⟩
  · simp at hcs
    subst hcs
    exact ⟨none, 0, 0, [], rfl, rfl, fun j z hj => by simp at hj, by omega, by simp⟩
  · simp at hcs
    subst hcs
    exact ⟨_, _, _, _, rfl, LIn.of hl hm (by simpa using hz) hcell hwz⟩

theorem open_call {cs : List Value} (h : DataW.trod enc Tryd.prog W 0 (fun _ => true) true fuel 25 cs = some x) :
    ∃ d : Cd, cs = [.int .i64 d.i, .int .i64 d.k, .slice d.ao d.zs.length d.cap] ∧ d.zs.length ≤ 9223372036854775807 ∧ LAt W d.ao d.zs := by
  obtain ⟨y0, y1, y2, n, rfl, hl, h0, h1, h2⟩ := Deep.trod_struct3 Tryd.underlying25 h
  have e25 : Tryd.prog.cellsOf 25 = 3 := by kernel_rfl
  have e3 : Tryd.prog.cellsOf 3 = 1 := by kernel_rfl
  have e22 : Tryd.prog.cellsOf 22 = 1 := by kernel_rfl
  rw [e25] at hl
  match cs, hl with
  | [v0, v1, v2], _ =>
    simp [e3, e22] at h0 h1 h2
    obtain ⟨i, hi, _⟩ := DataW.trod_int Tryd.underlying3 h0
    obtain ⟨k, hk, _⟩ := DataW.trod_int Tryd.underlying3 h1
    obtain ⟨a, len, cap, zs, rfl, hL⟩ := open_cell h2
    simp at hi hk
    subst hi hk
    obtain ⟨rfl, hL1, hL2, _⟩ := hL
    exact ⟨⟨i, k, a, zs, cap⟩, rfl, hL2, hL1⟩

theorem open_calls {base : Nat} {v : Value} {d : DataW H} {p : List MemPlace} (hv : Value.okWide Tryd.prog W .any base 23 v) (h : DataW.Trod enc Tryd.prog W 0 (fun _ => true) true 23 v d p) :
    ∃ a cs cap, v = .slice a cs.length cap ∧ CAt W a cs ∧ cs.length ≤ 9223372036854775807 := by
  obtain ⟨a, len, cap, rfl⟩ := okWide_slice Tryd.underlying23 hv
  obtain ⟨fuel, hf⟩ := h
  rcases Deep.open_slice Tryd.underlying23 hf with ⟨hcs, _⟩ | ⟨ad, l, c, m, n, D, Pl, hcs, _, hl, hm, hmm, _, hx⟩
  · simp [Value.cells] at hcs
    obtain ⟨rfl, rfl, rfl⟩ := hcs
    exact ⟨none, [], 0, rfl, fun j d hj => by simp at hj, by simp⟩
  · simp [Value.cells] at hcs
    obtain ⟨rfl, rfl, rfl⟩ := hcs
    simp at hmm
    have e25 : Tryd.prog.cellsOf 25 = 3 := by kernel_rfl
    have each : ∀ i, i < len → ∃ d : Cd, W.cell? (ad.add (i * 3)) = some (.int .i64 d.i) ∧ W.cell? (ad.add (i * 3 + 1)) = some (.int .i64 d.k) ∧ W.cell? (ad.add (i * 3 + 2)) = some (.slice d.ao d.zs.length d.cap) ∧ d.zs.length ≤ 9223372036854775807 ∧ LAt W d.ao d.zs := by
      intro i hi
      obtain ⟨cs', h1, h2⟩ := hx i (by omega)
      rw [e25] at h1
      obtain ⟨_, hlen, hcell⟩ := World.cells?_some h1
      obtain ⟨d, rfl, hz, hL⟩ := open_call h2
      have c0 := hcell 0 (by omega)
      have c1 := hcell 1 (by omega)
      have c2 := hcell 2 (by omega)
      rw [Deep.add_add] at c0 c1 c2
      exact ⟨d, by simpa using c0, by simpa using c1, by simpa using c2, hz, hL⟩
    obtain ⟨f, hf'⟩ := Deep.choose_lt each
    refine ⟨some ad, (List.range len).map f, cap, by simp, ?_, by unfold maxLen at hm; simp; omega⟩
    intro j d hj
    have hjl : j < len := by have := (List.getElem?_eq_some_iff.1 hj).1; simpa using this
    simp [hjl] at hj
    subst hj
    obtain ⟨c0, c1, c2, hz, hL⟩ := hf' j hjl
    obtain ⟨b, off, spot⟩ := ad
    have hspot : spot = none := by
      have h0 := (hf' 0 (by omega)).1
      simpa [Addr.add] using World.cell?_spot h0
    subst hspot
    rw [add_plain] at c0 c1 c2
    exact ⟨b, off, rfl, c0, by simpa [Nat.add_assoc] using c1, by simpa [Nat.add_assoc] using c2, hz, hL⟩

theorem open_last {base : Nat} {v : Value} {d : DataW H} {p : List MemPlace} (hv : Value.okWide Tryd.prog W .any base 25 v) (h : DataW.Trod enc Tryd.prog W 0 (fun _ => true) true 25 v d p) :
    ∃ d : Cd, v = d.val ∧ d.zs.length ≤ 9223372036854775807 ∧ LAt W d.ao d.zs := by
  obtain ⟨cs, rfl, hsz⟩ := okWide_struct Tryd.underlying25 hv
  obtain ⟨fuel, hf⟩ := h
  obtain ⟨d, hcs, hz, hL⟩ := open_call hf
  refine ⟨d, ?_, hz, hL⟩
  simp [Value.cells] at hcs
  unfold Cd.val
  congr 1
  cases cs
  simp_all
end
end Go.Proofs.YtcaibfalhkhleaaDoor
