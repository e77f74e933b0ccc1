/-
  The walk of TreeFronts, whole; and places that come in, however long.
-/
import Derived.Test.YtlppbgmcoknliaaGreatDoorLft
import Derived.Test.YtlppbgmcoknliaaGreatDoorFrA
import Derived.Test.YtlppbgmcoknliaaGreatDoorFrX
import Derived.Test.YtlppbgmcoknliaaGreatDoorFrD
namespace Go.Proofs.YtlppbgmcoknliaaGreatDoor
open Go.ChangeShapes Go.WideShapes Go.ChangeAt Go.RowKit
set_option linter.unusedVariables false

section
variable {H : Type} {enc : TypeId × Value → H} {W : World} {fuel : Nat} {x : DataW H × List MemPlace}
theorem shape_strs {cs : List Value} (h : DataW.trod enc Tryz.prog W 0 (fun _ => true) true fuel 22 cs = some x) :
    ∃ (ad : Option Addr) (n c : Nat), cs = [.slice ad n c] ∧ n ≤ c ∧ c ≤ maxLen ∧ (n ≤ 100 → ∃ xs : List ByteArray, xs.length = n ∧ St W ad xs) := by
  have hh := h
  rcases DataW.trod_slice Tryz.underlying22 h with ⟨hcs, _⟩ | ⟨a, len, cap, elems, rest, n, _, hcs, hx, _, hl, hm, hlen2, hel, _⟩
  · exact ⟨none, 0, 0, hcs, Nat.le_refl _, Nat.zero_le _, fun _ => ⟨[], rfl, St.nil⟩⟩
  · refine ⟨some a, len, cap, hcs, hl, hm, fun h100 => ?_⟩
    obtain ⟨ad, c, xs, h1, h2, _, h3, _, _⟩ := open_rows (fun s => [Value.string s]) (fun a => True) (fun _ => 0) Tryz.underlying22 (by kernel_rfl : Tryz.prog.cellsOf 9 = 1) (by decide) hh (fun ad len' cap' hc => by
      rw [hcs] at hc
      cases hc
      omega) (fun n cs' y hy hle => by obtain ⟨s, h1, h2⟩ := open_str hy; exact ⟨s, h1, rfl, trivial, Nat.zero_le _⟩)
    rw [hcs] at h1
    cases h1
    exact ⟨xs, rfl, h3⟩
set_option maxRecDepth 100000 in
theorem shape_place {cs : List Value} (h : DataW.trod enc Tryz.prog W 0 (fun _ => true) true fuel 24 cs = some x) :
    ∃ (l : ByteArray) (s : Option Addr) (n c : Nat), cs = [.string l, .slice s n c] ∧ n ≤ c ∧ c ≤ maxLen ∧ (n ≤ 100 → ∃ xs : List ByteArray, xs.length = n ∧ St W s xs) := by
  obtain ⟨xs, n, _, hx, hl, hlen, hf⟩ := DataW.trod_struct Tryz.underlying24 h
  rw [show Tryz.prog.cellsOf 24 = 2 by kernel_rfl] at hl
  have hlen : xs.length = 2 := hlen
  obtain ⟨y0, xs_0, rfl, hlen_0⟩ := lit_len 1 _ hlen
  obtain ⟨y1, xs_1, rfl, hlen_1⟩ := lit_len 0 _ hlen_0
  obtain rfl := lit_nil hlen_1
  obtain ⟨v0, cs_0, rfl, hl_0⟩ := lit_len 1 _ hl
  obtain ⟨v1, cs_1, rfl, hl_1⟩ := lit_len 0 _ hl_0
  obtain rfl := lit_nil hl_1
  have f0 : DataW.trod enc Tryz.prog W 0 (fun _ => true) true n 9 ((([v0, v1] : List Value).drop 0).take (Tryz.prog.cellsOf 9)) = ([y0, y1] : List (DataW H × List MemPlace))[0]? := hf 0 _ rfl
  rw [show Tryz.prog.cellsOf 9 = 1 by kernel_rfl] at f0
  have f1 : DataW.trod enc Tryz.prog W 0 (fun _ => true) true n 22 ((([v0, v1] : List Value).drop 1).take (Tryz.prog.cellsOf 22)) = ([y0, y1] : List (DataW H × List MemPlace))[1]? := hf 1 _ rfl
  rw [show Tryz.prog.cellsOf 22 = 1 by kernel_rfl] at f1
  have g0 : DataW.trod enc Tryz.prog W 0 (fun _ => true) true n 9 [v0] = some y0 := f0
  have g1 : DataW.trod enc Tryz.prog W 0 (fun _ => true) true n 22 [v1] = some y1 := f1
  obtain ⟨s0, e0, _⟩ := open_str g0
  obtain ⟨ad1, n1, c1, e1, k1, m1, a1⟩ := shape_strs g1
  cases e0
  cases e1
  exact ⟨s0, ad1, n1, c1, rfl, k1, m1, a1⟩
set_option maxRecDepth 100000 in
theorem arg_place_full {base : Nat} {v : Value} {d : DataW H} {p : List MemPlace} (hv : Value.okWide Tryz.prog W .any base 24 v) (h : DataW.Trod enc Tryz.prog W 0 (fun _ => true) true 24 v d p) :
    ∃ (l : ByteArray) (s : Option Addr) (n c : Nat), v = .agg #[.string l, .slice s n c] ∧ n ≤ c ∧ c ≤ maxLen ∧ (n ≤ 100 → ∃ xs : List ByteArray, xs.length = n ∧ St W s xs) := by
  obtain ⟨cs, rfl, _⟩ := okWide_struct Tryz.underlying24 hv
  obtain ⟨fuel, hf⟩ := h
  have hq := shape_place hf
  obtain ⟨l, s, n, c, hcs, h1⟩ := hq
  exact ⟨l, s, n, c, by rw [cells_agg hcs], h1⟩
end

theorem bounds_u8 {n : Int} (h : (Lit.int .u8 n).wf = true) : 0 ≤ n ∧ n < 256 := by
  simp [Lit.wf, IntKind.min, IntKind.max, IntKind.signed, IntKind.bits] at h
  omega
theorem fronts_any (l1 l2 : ByteArray) (s1 s2 : Option Addr) (n1 c1 n2 c2 i k : Nat) (hi : i < 256) (hk : k < 256) (w : World) (k1 : n1 ≤ c1) (m1 : c1 ≤ maxLen) (x1 : n1 ≤ 100 → ∃ xs : List ByteArray, xs.length = n1 ∧ St w s1 xs)
    (k2 : n2 ≤ c2) (m2 : c2 ≤ maxLen) (x2 : n2 ≤ 100 → ∃ xs : List ByteArray, xs.length = n2 ∧ St w s2 xs) :
    Calls Tryz.prog 7 #[.agg #[.string l1, .slice s1 n1 c1], .int .u8 i, .int .u8 k, .agg #[.string l2, .slice s2 n2 c2]] w fun e w' => e = .returned (.bool true) ∧ Below w.heap.size w w' := by
  by_cases hlong : 100 < n1 ∨ 100 < n2
  · exact fronts_long l1 l2 s1 s2 n1 c1 n2 c2 i k w alive_any (by unfold maxLen at m1; omega) (by unfold maxLen at m2; omega) hlong
  have h1 : n1 ≤ 100 := by omega
  have h2 : n2 ≤ 100 := by omega
  obtain ⟨xs, e1, hp⟩ := x1 h1
  obtain ⟨ys, e2, ho⟩ := x2 h2
  have hn1 : ¬ ((n1 : Int) > 100) := by omega
  have hn2 : ¬ ((n2 : Int) > 100) := by omega
  have hwn : IntKind.i64.wrap ((n1 : Int) + 1) = (n1 : Int) + 1 := IntWalk.i64_in _ (by omega)
  have hwi : IntKind.i64.wrap (i : Int) = (i : Int) := IntWalk.i64_in _ (by omega)
  have hwk : IntKind.i64.wrap (k : Int) = (k : Int) := IntWalk.i64_in _ (by omega)
  have hn0 : ¬ ((n1 : Int) + 1 = 0) := by omega
  obtain ⟨I, hI⟩ : ∃ I, i % (n1 + 1) = I := ⟨_, rfl⟩
  obtain ⟨K, hK⟩ : ∃ K, k % (n1 + 1) = K := ⟨_, rfl⟩
  have hI1 : I ≤ n1 := by rw [← hI]; exact Nat.lt_succ_iff.1 (Nat.mod_lt i (Nat.succ_pos n1))
  have hK1 : K ≤ n1 := by rw [← hK]; exact Nat.lt_succ_iff.1 (Nat.mod_lt k (Nat.succ_pos n1))
  have hti : (i : Int).tmod ((n1 : Int) + 1) = (I : Int) := by rw [← hI]; rfl
  have htk : (k : Int).tmod ((n1 : Int) + 1) = (K : Int) := by rw [← hK]; rfl
  have hI2 : (I : Int) ≤ (c1 : Int) := by omega
  have hK2 : (K : Int) ≤ (c1 : Int) := by omega
  have HI1 : (I : Int) ≤ (n1 : Int) := by omega
  obtain ⟨vab, fab⟩ : ∃ v, frontQ ⟨l1, xs.take I⟩ ⟨l1, xs.take K⟩ = v := ⟨_, rfl⟩
  obtain ⟨vba, fba⟩ : ∃ v, frontQ ⟨l1, xs.take K⟩ ⟨l1, xs.take I⟩ = v := ⟨_, rfl⟩
  obtain ⟨vpo, fpo⟩ : ∃ v, frontQ ⟨l1, xs⟩ ⟨l2, ys⟩ = v := ⟨_, rfl⟩
  obtain ⟨vop, fop⟩ : ∃ v, frontQ ⟨l2, ys⟩ ⟨l1, xs⟩ = v := ⟨_, rfl⟩
  obtain ⟨vao, fao⟩ : ∃ v, frontQ ⟨l1, xs.take I⟩ ⟨l2, ys⟩ = v := ⟨_, rfl⟩
  have FOR : vab = false → vba = true := fun h => by
    rw [← fba]
    rw [← fab] at h
    rcases Nat.le_total I K with hik | hik
    · exact absurd ((frontQ_iff (a := ⟨l1, xs.take I⟩) (b := ⟨l1, xs.take K⟩)).2 ⟨rfl, List.take_prefix_take_left hik⟩) (by rw [h]; decide)
    · exact frontQ_iff.2 ⟨rfl, List.take_prefix_take_left hik⟩
  have FTR : vpo = true → vao = true := fun h => by
    rw [← fao]
    rw [← fpo] at h
    obtain ⟨h1, h2⟩ := frontQ_iff.1 h
    exact frontQ_iff.2 ⟨h1, (List.take_prefix _ _).trans h2⟩
  have HF := fc_of l1 l2 s1 s2 c1 c2 n1 n2 I K xs ys w hp ho e1 e2 k1 k2 hI1 hK1 vab vba vpo vop vao fab fba fpo fop fao
  clear fab fba fpo fop fao
  cases vab with
  | true =>
    cases vpo with
    | true =>
      obtain rfl := FTR rfl
      cases vop with
      | true => exact fronts_A l1 l2 s1 s2 n1 c1 n2 c2 I K i k vba w (hidIt HF) hi hk h1 h2 hn1 hn2 hwn hwi hwk hn0 hti htk hI2 hK2 HI1
      | false => exact fronts_B l1 l2 s1 s2 n1 c1 n2 c2 I K i k vba w (hidIt HF) hi hk h1 h2 hn1 hn2 hwn hwi hwk hn0 hti htk hI2 hK2 HI1
    | false => exact fronts_C l1 l2 s1 s2 n1 c1 n2 c2 I K i k vba vao vop w (hidIt HF) hi hk h1 h2 hn1 hn2 hwn hwi hwk hn0 hti htk hI2 hK2 HI1
  | false =>
    obtain rfl := FOR rfl
    cases vpo with
    | true =>
      obtain rfl := FTR rfl
      cases vop with
      | true => exact fronts_D l1 l2 s1 s2 n1 c1 n2 c2 I K i k w (hidIt HF) hi hk h1 h2 hn1 hn2 hwn hwi hwk hn0 hti htk hI2 hK2 HI1
      | false => exact fronts_E l1 l2 s1 s2 n1 c1 n2 c2 I K i k w (hidIt HF) hi hk h1 h2 hn1 hn2 hwn hwi hwk hn0 hti htk hI2 hK2 HI1
    | false => exact fronts_F l1 l2 s1 s2 n1 c1 n2 c2 I K i k vao vop w (hidIt HF) hi hk h1 h2 hn1 hn2 hwn hwi hwk hn0 hti htk hI2 hK2 HI1
end Go.Proofs.YtlppbgmcoknliaaGreatDoor
