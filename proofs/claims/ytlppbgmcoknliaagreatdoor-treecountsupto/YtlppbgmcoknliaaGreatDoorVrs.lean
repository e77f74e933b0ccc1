/-
  slices.Concat of two lists, and Vars.
-/
import Derived.Test.YtlppbgmcoknliaaGreatDoorUse4
namespace Go.Proofs.YtlppbgmcoknliaaGreatDoor
set_option linter.unusedVariables false
open Go.RowKit

def lnK (n m : Nat) : Nat → Nat
 | 0 => 0
 | 1 => n
 | _ => n + m
def flK (xs ys : List VarD) : Nat → List Value
 | 0 => []
 | 1 => (xs.map VarD.row).flatten
 | _ => (xs.map VarD.row).flatten ++ (ys.map VarD.row).flatten
theorem hone (xs : List VarD) : ∀ u ∈ (xs.map VarD.row).flatten, u.oneCell' = true := by intro u hu; obtain ⟨r, hr, hu⟩ := List.mem_flatten.1 hu; obtain ⟨x, _, rfl⟩ := List.mem_map.1 hr; simp only [VarD.row, List.mem_cons, List.not_mem_nil, or_false] at hu; rcases hu with rfl | rfl <;> rfl

set_option maxHeartbeats 2000000 in
set_option maxRecDepth 100000 in
theorem concat_two (B : Nat) (a1 a2 : Option Addr) (xs ys : List VarD) (c1 c2 : Nat) (w : World) (h1 : Vrs w a1 xs) (h2 : Vrs w a2 ys) (hB : B < w.heap.size)
 (k0 : w.cell? ⟨B, 0, none⟩ = some (.slice a1 xs.length c1)) (k1 : w.cell? ⟨B, 1, none⟩ = some (.slice a2 ys.length c2)) (hsum : xs.length + ys.length ≤ 1048576) :
 Calls Tryz.prog 76 #[.slice (some ⟨B, 0, none⟩) 2 2] w fun e w' => ∃ a' c', e = .returned (.slice a' (xs ++ ys).length c') ∧ Vrs w' a' (xs ++ ys) ∧ NewA w.heap.size a' (xs ++ ys).length ∧ Below w.heap.size w w' := by
 obtain ⟨i0, hi, hz0, hz1, hz2⟩ := infoV
 have c116 := hidIt (grow_nil (xs.length + ys.length) (by omega) w)
 have H1 := hidIt h1
 have H2 := hidIt h2
 have hB := hidIt hB
 have hz2 := hidIt hz2
 rw [List.length_append]
 obtain ⟨n, hn⟩ : ∃ n, xs.length = n := ⟨_, rfl⟩
 obtain ⟨m, hm⟩ : ∃ m, ys.length = m := ⟨_, rfl⟩
 rw [hn] at hsum k0 c116 ⊢
 rw [hm] at hsum k1 c116 ⊢
 have L0 := hidIt hn
 have L1 := hidIt hm
 have K0 := hidIt k0
 have K1 := hidIt k1
 clear h1 h2 hn hm
 obtain ⟨o, ho⟩ : ∃ o, o = 0 := ⟨0, rfl⟩
 go_enter Tryz.func76, Tryz.ntmps76
 go_wp2
 go_loopg [3, 5, 11] 2 (fun g s3 s5 s11 wr => ∃ k : Nat, k ≤ 2 ∧ 2 - k ≤ g ∧ s11 = .int .i64 k ∧ s3 = .int .i64 (lnK n m k : Nat) ∧ w = wr)
 case atStart => exact ⟨0, by omega, by omega, rfl, rfl, rfl⟩
 case round =>
  obtain ⟨k, hk, hg, rfl, rfl, rfl⟩ := hrel
  obtain rfl | rfl | rfl : k = 0 ∨ k = 1 ∨ k = 2 := by omega
  · simp only [lnK]
    go_wp2
    go_roundg (2 - 1)
    case measure => omega
    case rel => exact ⟨1, by omega, by omega, by go_num, by simp [lnK], rfl⟩
  · simp only [lnK]
    go_wp2
    go_roundg (2 - 2)
    case measure => omega
    case rel => exact ⟨2, by omega, by omega, by go_num, by simp [lnK], rfl⟩
  · simp only [lnK]
    clear k0 k1
    go_wp2_with (go_at_call 116; refine c116.out.mono ?_)
    rintro e w1 ⟨a, c, rfl, ow, bl⟩
    have R0 : Hid (w1.ownsRow w.heap.size 52 2 (.slice a 0 c) 0 [] ∧ Below w.heap.size w w1) := hidIt ⟨ow, bl⟩
    clear ow bl c116
    go_wp2
    go_loopg [6, 8, 27] 2 (fun g s6 s8 s27 wr => ∃ k : Nat, k ≤ 2 ∧ 2 - k ≤ g ∧ s27 = .int .i64 k ∧ ∃ a c, s6 = .slice a (lnK n m k) c ∧ Hid (wr.ownsRow w.heap.size 52 2 (.slice a (lnK n m k) c) (lnK n m k) (flK xs ys k) ∧ Below w.heap.size w wr))
    case atStart => exact ⟨0, by omega, by omega, rfl, a, c, rfl, R0⟩
    case round =>
     clear R0 hg
     obtain ⟨k, hk, hg, rfl, R⟩ := hrel
     obtain rfl | rfl | rfl : k = 0 ∨ k = 1 ∨ k = 2 := by omega
     · -- round 0
       obtain ⟨a, c, rfl, R⟩ := R
       simp only [lnK, flK] at R ⊢
       have g1 : wr.cell? ⟨B, 0, none⟩ = some (.slice a1 n c1) := by rw [R.out.2.cell (p := ⟨B, 0, none⟩) hB.out]; exact K0.out
       have hsl : Hid (Sl wr 2 a1 (xs.map VarD.row)) := hidIt (Vrs.on H1.out R.out.2)
       have hsz : Hid (w.heap.size ≤ wr.heap.size) := hidIt R.out.2.size
       have HR := hidIt R.out.1
       go_wp2_with (at_builtin; refine wpList_append_sl rfl _ _ 42 rfl w.heap.size 52 i0 _ 2 i0.bytes Tryz.underlying42 hi hz0 hz1 rfl rfl (by decide) _ _ _ rfl HR.out a1 n c1 (xs.map VarD.row) (by rw [List.length_map]; exact L0.out) rfl hsl.out (hone xs) ?q1 ?q2 hsz.out ?_)
       case q1 => unfold maxLen; omega
       case q2 => exact Nat.le_trans (Nat.mul_le_mul (show _ ≤ 2097152 by omega) hz2.out) (by decide)
       intro v' w2 hown hgr
       have hb2 := hidIt (R.out.2.grown hgr R.out.2.size (fun k hk => (HR.out.lt k hk).1))
       obtain ⟨a', c', rfl⟩ : ∃ a' c', v' = .slice a' (n) c' := by
        rcases hown.2 with ⟨e1, e2⟩ | ⟨g, cap, cur, e1, _⟩
        · exact ⟨none, 0, by rw [e1, e2]⟩
        · exact ⟨_, _, e1⟩
       have HO := hidIt hown
       clear hown hgr g1
       go_wp2
       go_roundg (2 - 1)
       case measure => omega
       case rel => exact ⟨1, by omega, by omega, by go_num, a', c', by simp [lnK], hidIt ⟨by simpa [lnK, flK] using HO.out, hb2.out⟩⟩
     · -- round 1
       obtain ⟨a, c, rfl, R⟩ := R
       simp only [lnK, flK] at R ⊢
       have g1 : wr.cell? ⟨B, 1, none⟩ = some (.slice a2 m c2) := by rw [R.out.2.cell (p := ⟨B, 1, none⟩) hB.out]; exact K1.out
       have hsl : Hid (Sl wr 2 a2 (ys.map VarD.row)) := hidIt (Vrs.on H2.out R.out.2)
       have hsz : Hid (w.heap.size ≤ wr.heap.size) := hidIt R.out.2.size
       have HR := hidIt R.out.1
       go_wp2_with (at_builtin; refine wpList_append_sl rfl _ _ 42 rfl w.heap.size 52 i0 _ 2 i0.bytes Tryz.underlying42 hi hz0 hz1 rfl rfl (by decide) _ _ _ rfl HR.out a2 m c2 (ys.map VarD.row) (by rw [List.length_map]; exact L1.out) rfl hsl.out (hone ys) ?q1 ?q2 hsz.out ?_)
       case q1 => unfold maxLen; omega
       case q2 => exact Nat.le_trans (Nat.mul_le_mul (show _ ≤ 2097152 by omega) hz2.out) (by decide)
       intro v' w2 hown hgr
       have hb2 := hidIt (R.out.2.grown hgr R.out.2.size (fun k hk => (HR.out.lt k hk).1))
       obtain ⟨a', c', rfl⟩ : ∃ a' c', v' = .slice a' (n + m) c' := by
        rcases hown.2 with ⟨e1, e2⟩ | ⟨g, cap, cur, e1, _⟩
        · exact ⟨none, 0, by rw [e1, e2]⟩
        · exact ⟨_, _, e1⟩
       have HO := hidIt hown
       clear hown hgr g1
       go_wp2
       go_roundg (2 - 2)
       case measure => omega
       case rel => exact ⟨2, by omega, by omega, by go_num, a', c', by simp [lnK], hidIt ⟨by simpa [lnK, flK] using HO.out, hb2.out⟩⟩
     · obtain ⟨a, c, rfl, R⟩ := R
       simp only [lnK] at R ⊢
       go_wp2
       go_ret
       have e1 : ((xs ++ ys).map VarD.row).length = n + m := by rw [List.length_map, List.length_append, L0.out, L1.out]
       have e2 : ((xs ++ ys).map VarD.row).flatten = flK xs ys 2 := by simp [flK]
       obtain ⟨a', c', he, hle, hown⟩ := Own.of (w := wr) (B := w.heap.size) (ty := 52) (k := 2) (v := .slice a (n + m) c) (rows := (xs ++ ys).map VarD.row) (fun r hr => by obtain ⟨z, _, rfl⟩ := List.mem_map.1 hr; rfl) (by rw [e1]; exact hsum) (by rw [e1, e2]; exact R.out.1)
       rw [e1] at he
       cases he
       refine ⟨a, c, rfl, hown.sl, ?_, R.out.2⟩
       have := hown.new
       rwa [e1] at this

set_option maxHeartbeats 1000000 in
theorem vars_any (f : FuncX) (w : World) (hf : f.At w) (hsum : f.params.length + f.locals.length ≤ 1048576) :
 Calls Tryz.prog 28 #[.agg #[.int .i64 f.at_, .string f.name, .slice f.pa f.params.length f.pc, .slice f.la f.locals.length f.lc, .string f.result, .slice f.ba f.blocks.length f.bc]] w fun e w' => ∃ a' c', e = .returned (.slice a' (f.params ++ f.locals).length c') ∧ Vrs w' a' (f.params ++ f.locals) ∧ NewA w.heap.size a' (f.params ++ f.locals).length ∧ Below w.heap.size w w' := by
 have hb := hidIt (below_next (below_new w (.cells #[.int .i64 f.at_, .string f.name, .slice f.pa f.params.length f.pc, .slice f.la f.locals.length f.lc, .string f.result, .slice f.ba f.blocks.length f.bc] 45)) (below_new _ (.cells #[.slice f.pa f.params.length f.pc, .slice f.la f.locals.length f.lc] 42)))
 obtain ⟨hh1, hh2⟩ := two_at (w := w) (cs := #[.int .i64 f.at_, .string f.name, .slice f.pa f.params.length f.pc, .slice f.la f.locals.length f.lc, .string f.result, .slice f.ba f.blocks.length f.bc]) (ds := #[.slice f.pa f.params.length f.pc, .slice f.la f.locals.length f.lc]) (t := 45) (u := 42) rfl rfl (Below.refl _ _)
 have c76 := hidIt (concat_two (w.heap.size + 1) f.pa f.la f.params f.locals f.pc f.lc _ (hf.1.on hb.out) (hf.2.1.on hb.out) (Array.getElem?_eq_some_iff.1 hh2).1 (cell_at hh2 0) (cell_at hh2 1) hsum)
 have hs2 : Hid (w.heap.size ≤ ((w.alloc (.cells #[.int .i64 f.at_, .string f.name, .slice f.pa f.params.length f.pc, .slice f.la f.locals.length f.lc, .string f.result, .slice f.ba f.blocks.length f.bc] 45)).alloc (.cells #[.slice f.pa f.params.length f.pc, .slice f.la f.locals.length f.lc] 42)).heap.size) := hidIt hb.out.size
 clear hh1 hh2 hf
 generalize f.params ++ f.locals = l at c76 ⊢
 go_enter Tryz.func28, Tryz.ntmps28
 go_wp2_with (go_at_call 76; refine c76.out.mono ?_)
 rintro e w' ⟨a', c', rfl, hv, hn, hq⟩
 have HV := hidIt hv
 have HN := hidIt hn
 have HQ := hidIt hq
 clear hv hn hq c76
 go_wp2
 go_ret
 exact ⟨a', c', rfl, HV.out, HN.out.mono hs2.out, below_next hb.out HQ.out⟩
end Go.Proofs.YtlppbgmcoknliaaGreatDoor
