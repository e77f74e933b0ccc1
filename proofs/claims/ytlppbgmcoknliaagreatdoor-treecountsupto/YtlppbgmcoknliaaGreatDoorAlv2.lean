/-
  alive: it answers true.
-/
import Derived.Test.YtlppbgmcoknliaaGreatDoorAlv1
import Derived.Deep.RegionHeld3
namespace Go.Proofs.YtlppbgmcoknliaaGreatDoor
set_option linter.unusedVariables false
open Go.RowKit Go.Shelf
attribute [local go_sem] Oper.semAt_some

theorem kSmall (W : World) : Calls Tryz.prog 34 #[] W fun e w' => ∃ b, e = .returned (.agg #[.slice (some ⟨b + 3, 0, none⟩) 1 1, .slice (some ⟨b + 5, 0, none⟩) 1 1, .slice (some ⟨b + 11, 0, none⟩) 1 1]) ∧ (SmAt b 5 0 (.slice (some ⟨b + 4, 0, none⟩) 2 2) w' ∧ w'.heap.size = b + 12 ∧ W.heap.size = b) ∧ Below W.heap.size W w' :=
 (small_any W).mono fun e w' ⟨h1, h2, h3, h4⟩ => ⟨W.heap.size, h1, ⟨h2, h3, rfl⟩, h4⟩
theorem set_ne {w : World} {g i k : Nat} {v : Value} {o : Obj} (h : w.heap[k]? = some o) (hne : k ≠ g) : (w.setCell ⟨g, i, none⟩ v).heap[k]? = some o := (Below.heap_setCell _ _ _ _ hne).trans h
theorem SmAt.set6 {b : Nat} {V : Value} {w : World} (h : SmAt b 5 0 V w) : SmAt b 6 0 V (w.setCell ⟨b + 8, 4, none⟩ (.int .i64 6)) :=
 ⟨set_ne h.b2 (by omega), set_ne h.b3 (by omega), set_ne h.b4 (by omega), set_ne h.b5 (by omega), set_ne h.b6 (by omega), set_ne h.b7 (by omega), by rw [block_set h.b8]; rfl, set_ne h.b9 (by omega), set_ne h.b10 (by omega), set_ne h.b11 (by omega)⟩
theorem SmAt.set9 {b : Nat} {V : Value} {w : World} (h : SmAt b 5 0 V w) : SmAt b 5 9 V (w.setCell ⟨b + 11, 0, none⟩ (.int .i64 9)) :=
 ⟨set_ne h.b2 (by omega), set_ne h.b3 (by omega), set_ne h.b4 (by omega), set_ne h.b5 (by omega), set_ne h.b6 (by omega), set_ne h.b7 (by omega), set_ne h.b8 (by omega), set_ne h.b9 (by omega), set_ne h.b10 (by omega), by rw [block_set h.b11]; rfl⟩
theorem SmAt.setV {b : Nat} {V : Value} {w : World} (h : SmAt b 5 0 V w) : SmAt b 5 0 (.slice none 0 0) (w.setCell ⟨b + 5, 2, none⟩ (.slice none 0 0)) :=
 ⟨set_ne h.b2 (by omega), set_ne h.b3 (by omega), set_ne h.b4 (by omega), by rw [block_set h.b5]; rfl, set_ne h.b6 (by omega), set_ne h.b7 (by omega), set_ne h.b8 (by omega), set_ne h.b9 (by omega), set_ne h.b10 (by omega), set_ne h.b11 (by omega)⟩

/-- What alive holds while it answers. -/
structure AI (w : World) (sa : Option Addr) (sc Bp Bf b3 b8 Bo b9 Bq b10 Bw D : Nat) (W : World) : Prop where
 bel : Below w.heap.size w W
 st : St W sa stepsA
 bp : W.heap[Bp]? = some (.cells #[.string ⟨#[120]⟩, .slice sa 2 sc] 24 (0, 0))
 bo : W.heap[Bo]? = some (.cells #[.slice (some ⟨b8 + 3, 0, none⟩) 1 1, .slice (some ⟨b8 + 5, 0, none⟩) 1 1, .slice (some ⟨b8 + 11, 0, none⟩) 1 1] 36 (0, 0))
 bq : W.heap[Bq]? = some (.cells #[.slice (some ⟨b9 + 3, 0, none⟩) 1 1, .slice (some ⟨b9 + 5, 0, none⟩) 1 1, .slice (some ⟨b9 + 11, 0, none⟩) 1 1] 36 (0, 0))
 bw : W.heap[Bw]? = some (.cells #[.slice (some ⟨b10 + 3, 0, none⟩) 1 1, .slice (some ⟨b10 + 5, 0, none⟩) 1 1, .slice (some ⟨b10 + 11, 0, none⟩) 1 1] 36 (0, 0))
 bf : W.heap[Bf]? = some (.cells #[.int .i64 0, .string ⟨#[109, 97, 105, 110]⟩, .slice none 0 0, .slice (some ⟨b3 + 6, 0, none⟩) 1 1, .string ⟨#[105, 110, 116]⟩, .slice (some ⟨b3 + 10, 0, none⟩) 1 1] 45 (0, 0))
 s3 : SmAt b3 5 0 (.slice (some ⟨b3 + 4, 0, none⟩) 2 2) W
 s8 : SmAt b8 6 0 (.slice (some ⟨b8 + 4, 0, none⟩) 2 2) W
 s9 : SmAt b9 5 9 (.slice (some ⟨b9 + 4, 0, none⟩) 2 2) W
 s10 : SmAt b10 5 0 (.slice none 0 0) W
 n : W.cell? ⟨Bf + 1, 0, none⟩ = some (.int .i64 3)
 d : W.heap[D]? = some (.deferred (some []))
section
variable {w W W' : World} {sa : Option Addr} {sc Bp Bf b3 b8 Bo b9 Bq b10 Bw D : Nat}
theorem AI.on (h : AI w sa sc Bp Bf b3 b8 Bo b9 Bq b10 Bw D W) (hb : Below W.heap.size W W') : AI w sa sc Bp Bf b3 b8 Bo b9 Bq b10 Bw D W' :=
 ⟨below_next h.bel hb, St.on h.st hb, heap_on h.bp hb, heap_on h.bo hb, heap_on h.bq hb, heap_on h.bw hb, heap_on h.bf hb, h.s3.on hb, h.s8.on hb, h.s9.on hb, h.s10.on hb, (hb.cell (p := ⟨Bf + 1, 0, none⟩) (World.block_lt_of_cell? _ _ h.n)).trans h.n, heap_on h.d hb⟩
/-- The cells that are loaded. -/
def SC (sa : Option Addr) (sc Bp Bf b3 b8 Bo b9 Bq b10 Bw : Nat) (W : World) : Prop := W.cell? ⟨Bp, 0, none⟩ = some (.string ⟨#[120]⟩) ∧ W.cell? ⟨Bp, 1, none⟩ = some (.slice sa 2 sc) ∧ W.cell? ⟨Bo, 0, none⟩ = some (.slice (some ⟨b8 + 3, 0, none⟩) 1 1) ∧ W.cell? ⟨Bo, 1, none⟩ = some (.slice (some ⟨b8 + 5, 0, none⟩) 1 1) ∧ W.cell? ⟨Bo, 2, none⟩ = some (.slice (some ⟨b8 + 11, 0, none⟩) 1 1) ∧ W.cell? ⟨Bq, 0, none⟩ = some (.slice (some ⟨b9 + 3, 0, none⟩) 1 1) ∧ W.cell? ⟨Bq, 1, none⟩ = some (.slice (some ⟨b9 + 5, 0, none⟩) 1 1) ∧ W.cell? ⟨Bq, 2, none⟩ = some (.slice (some ⟨b9 + 11, 0, none⟩) 1 1) ∧ W.cell? ⟨Bw, 0, none⟩ = some (.slice (some ⟨b10 + 3, 0, none⟩) 1 1) ∧ W.cell? ⟨Bw, 1, none⟩ = some (.slice (some ⟨b10 + 5, 0, none⟩) 1 1) ∧ W.cell? ⟨Bw, 2, none⟩ = some (.slice (some ⟨b10 + 11, 0, none⟩) 1 1) ∧ W.cell? ⟨Bf, 0, none⟩ = some (.int .i64 0) ∧ W.cell? ⟨Bf, 1, none⟩ = some (.string ⟨#[109, 97, 105, 110]⟩) ∧ W.cell? ⟨Bf, 2, none⟩ = some (.slice none 0 0) ∧ W.cell? ⟨Bf, 3, none⟩ = some (.slice (some ⟨b3 + 6, 0, none⟩) 1 1) ∧ W.cell? ⟨Bf, 4, none⟩ = some (.string ⟨#[105, 110, 116]⟩) ∧ W.cell? ⟨Bf, 5, none⟩ = some (.slice (some ⟨b3 + 10, 0, none⟩) 1 1) ∧ W.cell? ⟨Bf + 1, 0, none⟩ = some (.int .i64 3)
theorem AI.cells (h : AI w sa sc Bp Bf b3 b8 Bo b9 Bq b10 Bw D W) : SC sa sc Bp Bf b3 b8 Bo b9 Bq b10 Bw W :=
 ⟨cell_at h.bp 0, cell_at h.bp 1, cell_at h.bo 0, cell_at h.bo 1, cell_at h.bo 2, cell_at h.bq 0, cell_at h.bq 1, cell_at h.bq 2, cell_at h.bw 0, cell_at h.bw 1, cell_at h.bw 2, cell_at h.bf 0, cell_at h.bf 1, cell_at h.bf 2, cell_at h.bf 3, cell_at h.bf 4, cell_at h.bf 5, h.n⟩
end

set_option maxRecDepth 100000 in
set_option maxHeartbeats 40000000 in
theorem alive_in (n : Nat) (hn : Hid (3 ≤ n)) (w : World) : CallsIn Fence.wide n Tryz.prog 9 #[] w fun e w' => e = .returned (.bool true) ∧ Below w.heap.size w w' := by
 refine callsIn_of_wp_marks Tryz.func9 rfl trivial ?_ rfl
 simp only [Tryz.ntmps9, List.size_toArray, List.length_nil, Nat.reduceSub, Array.replicate_succ, Array.replicate_zero, List.push_toArray, List.append_toArray, List.nil_append, List.cons_append]
 have fl : ∀ (a b c : Value) (w : World), (Sem.run Tryz.prog (Instr.field 36 (.agg #[a, b, c]) 2)) w = .ok c w := fun a b c w => by kernel_rfl
 gi_wp2_with fail
 refine at_wide ((kPlace1 _).mono ?_)
 rintro e w1 ⟨sa, sc, rfl, ⟨hc, hst⟩, hq⟩
 have HC := hidIt hc
 have HB : Hid (Below w.heap.size w w1) := hidIt hq
 have ST := hidIt hst
 clear hc hst hq
 gi_wp2_with fail
 refine at_wide ((kPlace2 _).mono ?_)
 rintro e w2 ⟨sa2, sc2, rfl, hq⟩
 have h1 := hidIt (below_next (below_new w1 (.cells #[.string ⟨#[120]⟩, .slice sa 2 sc] 24)) hq)
 have HB : Hid (Below w.heap.size w w2) := hidIt (below_next HB.out h1.out)
 have ST : Hid (St w2 sa stepsA) := hidIt (St.on ST.out h1.out)
 have BP := hidIt (heap_on (heap_alloc_new w1 (.cells #[.string ⟨#[120]⟩, .slice sa 2 sc] 24)) hq)
 clear h1 hq
 gi_wp2_with fail
 refine at_wide ((kSmall _).mono ?_)
 rintro e w3 ⟨b3, rfl, ⟨hs, hz, hb3⟩, hq⟩
 have h1 := hidIt (below_next (below_new w2 (.cells #[.string ⟨#[]⟩, .slice sa2 0 sc2] 24)) hq)
 have HB : Hid (Below w.heap.size w w3) := hidIt (below_next HB.out h1.out)
 have ST : Hid (St w3 sa stepsA) := hidIt (St.on ST.out h1.out)
 have BP : Hid (w3.heap[w1.heap.size]? = some (.cells #[.string ⟨#[120]⟩, .slice sa 2 sc] 24 (0, 0))) := hidIt (heap_on BP.out h1.out)
 have S3 := hidIt hs
 clear h1 hq hs hz hb3
 obtain ⟨c0, c1, c2, c3, c4, c5⟩ := cells_6 S3.out.b11
 gi_wp2_with fail
 clear c0 c1 c2 c3 c4 c5
 have h1 := hidIt (below_new w3 (.cells #[.int .i64 0, .string ⟨#[109, 97, 105, 110]⟩, .slice none 0 0, .slice (some ⟨b3 + 6, 0, none⟩) 1 1, .string ⟨#[105, 110, 116]⟩, .slice (some ⟨b3 + 10, 0, none⟩) 1 1] 45))
 have HB : Hid (Below w.heap.size w (w3.alloc (.cells #[.int .i64 0, .string ⟨#[109, 97, 105, 110]⟩, .slice none 0 0, .slice (some ⟨b3 + 6, 0, none⟩) 1 1, .string ⟨#[105, 110, 116]⟩, .slice (some ⟨b3 + 10, 0, none⟩) 1 1] 45))) := hidIt (below_next HB.out h1.out)
 have ST : Hid (St (w3.alloc (.cells #[.int .i64 0, .string ⟨#[109, 97, 105, 110]⟩, .slice none 0 0, .slice (some ⟨b3 + 6, 0, none⟩) 1 1, .string ⟨#[105, 110, 116]⟩, .slice (some ⟨b3 + 10, 0, none⟩) 1 1] 45)) sa stepsA) := hidIt (St.on ST.out h1.out)
 have BP : Hid ((w3.alloc (.cells #[.int .i64 0, .string ⟨#[109, 97, 105, 110]⟩, .slice none 0 0, .slice (some ⟨b3 + 6, 0, none⟩) 1 1, .string ⟨#[105, 110, 116]⟩, .slice (some ⟨b3 + 10, 0, none⟩) 1 1] 45)).heap[w1.heap.size]? = some (.cells #[.string ⟨#[120]⟩, .slice sa 2 sc] 24 (0, 0))) := hidIt (heap_on BP.out h1.out)
 have S3 : Hid (SmAt b3 5 0 (.slice (some ⟨b3 + 4, 0, none⟩) 2 2) (w3.alloc (.cells #[.int .i64 0, .string ⟨#[109, 97, 105, 110]⟩, .slice none 0 0, .slice (some ⟨b3 + 6, 0, none⟩) 1 1, .string ⟨#[105, 110, 116]⟩, .slice (some ⟨b3 + 10, 0, none⟩) 1 1] 45))) := hidIt (S3.out.on h1.out)
 have BF := hidIt (heap_alloc_new w3 (.cells #[.int .i64 0, .string ⟨#[109, 97, 105, 110]⟩, .slice none 0 0, .slice (some ⟨b3 + 6, 0, none⟩) 1 1, .string ⟨#[105, 110, 116]⟩, .slice (some ⟨b3 + 10, 0, none⟩) 1 1] 45))
 have HSZ : Hid ((w3.alloc (.cells #[.int .i64 0, .string ⟨#[109, 97, 105, 110]⟩, .slice none 0 0, .slice (some ⟨b3 + 6, 0, none⟩) 1 1, .string ⟨#[105, 110, 116]⟩, .slice (some ⟨b3 + 10, 0, none⟩) 1 1] 45)).heap.size = w3.heap.size + 1) := hidIt (World.size_alloc _ _)
 obtain ⟨Bf, eBf⟩ : ∃ Bf, Bf = w3.heap.size := ⟨_, rfl⟩
 rw [← eBf] at BF HSZ ⊢
 clear eBf h1
 generalize w3.alloc (.cells #[.int .i64 0, .string ⟨#[109, 97, 105, 110]⟩, .slice none 0 0, .slice (some ⟨b3 + 6, 0, none⟩) 1 1, .string ⟨#[105, 110, 116]⟩, .slice (some ⟨b3 + 10, 0, none⟩) 1 1] 45) = wf at *
 skip
 refine at_wide ((kSmall _).mono ?_)
 rintro e w4 ⟨b4, rfl, ⟨hs, hz, hb4⟩, hq⟩
 have HW := hidIt (below_next (below_new wf (.cells #[.int .i64 0] 3)) hq)
 have BN : Hid (w4.heap[Bf + 1]? = some (.cells #[.int .i64 0] 3 (0, 0))) := hidIt (by rw [← HSZ.out]; exact heap_on (heap_alloc_new wf (.cells #[.int .i64 0] 3)) hq)
 have S4 := hidIt hs
 clear hs hz hb4 hq
 gi_wp2_with fail
 refine at_wide ((kRight S4.out).mono ?_)
 rintro e w5 ⟨rfl, hq⟩
 have HW : Hid (Below wf.heap.size wf w5) := hidIt (below_next HW.out hq)
 have BN : Hid (w5.heap[Bf + 1]? = some (.cells #[.int .i64 0] 3 (0, 0))) := hidIt (heap_on BN.out hq)
 clear hq S4
 have BF5 := hidIt (heap_on BF.out HW.out)
 obtain ⟨c0, c1, c2, c3, c4, c5⟩ := cells_6 BF5.out
 gi_wp2_with fail
 refine at_wide ((kUses (S3.out.on HW.out)).mono ?_)
 rintro e w6 ⟨Bu, ps, rfl, ⟨hU, hlen⟩, hq⟩
 have L5 : Hid (Bf + 1 < w5.heap.size) := hidIt (Array.getElem?_eq_some_iff.1 BN.out).1
 have HW : Hid (Below wf.heap.size wf w6) := hidIt (below_next HW.out hq)
 have BN : Hid (w6.heap[Bf + 1]? = some (.cells #[.int .i64 0] 3 (0, 0))) := hidIt (heap_on BN.out hq)
 have HLEN := hidIt hlen
 have L6 : Hid (w5.heap.size ≤ w6.heap.size) := hidIt hq.size
 clear c0 c1 c2 c3 c4 c5 hlen hq
 gi_wp2_with fail
 have hSeq := uses1_seq (n - 1) Bu w5.heap.size ps w6 hU
 have h1n : 1 ≤ n := by have := hn.out; omega
 apply rangeA (n := n) h1n (gf := 74) (lb := #[.pointer (some ⟨Bu, 0, none⟩)]) rfl (enters_of Tryz.func74 (by kernel_rfl) rfl) hSeq KpR.t (KpR.put (w := w6) (Nat.le_refl _)) (fun W hW => KpR.below hW (Nat.le_refl _)) (fun _ => rfl) (fun x W l o o' _ hl hc h => St.put h o' hl hc)
  (fun pre W => (W.cell? ⟨Bf + 1, 0, none⟩ = some (.int .i64 pre.length) ∧ W.frozen? ⟨Bf + 1, 0, none⟩ = false) ∧ Below wf.heap.size wf W)
  (fun _ _ _ => False)
  (OwnFrom.and (Own.from (fun s A B row hs hg hr => ⟨cell_kept hs.1 hg hr, (frozen_kept hs.1 hg hr).trans hs.2⟩) _) (ownFrom_below (Nat.le_refl _) HW.out.size))
  (fun _ _ _ _ _ hs _ _ => hs)
  ⟨⟨cell_at BN.out 0, frozen_at BN.out 0⟩, HW.out⟩
 case hassign =>
  intro l x W K hK
  have HK := hidIt hK
  clear hK
  simp only [encP]
  gi_wp2
  exact HK.out
 case hbody =>
  rintro l pre x W ⟨⟨hc, hf⟩, hB⟩ hsp hax
  have hp : pre.length ≤ 3 := by
   have h1 := hsp.length_le
   rw [List.length_map, List.length_map, List.length_append, List.length_singleton, HLEN.out] at h1
   omega
  have HB2 := hidIt hB
  have HL := hidIt (And.intro L5.out HSZ.out)
  clear hB hSeq hU hax hsp HW BN
  gi_wp2
  refine ⟨KeepsOthers.setCell _ _ _, ⟨by simp [World.setCell], fun k h1 h2 => Below.heap_setCell _ _ _ _ (show k ≠ Bf + 1 by have := HL.out.1; omega)⟩, ⟨?_, ?_⟩, HB2.out.setCell (p := ⟨Bf + 1, 0, none⟩) (show wf.heap.size ≤ Bf + 1 by rw [HL.out.2]; exact Nat.le_refl _) _⟩
  · rw [List.length_append, List.length_singleton]
    exact World.cell?_setCell_same' _ _ _ (by rw [hc]; rfl)
  · rw [World.frozen?_setCell]
    exact hf
 case hstop =>
  rintro D c pre W _ _ h _
  exact h.elim
 case hdone =>
  rintro D xs W hD hS ⟨⟨hc, hf⟩, hB⟩ hK
  have hx : xs.length = 3 := by
   have := congrArg List.length hS
   rw [List.length_map, List.length_map, HLEN.out] at this
   exact this
  rw [hx] at hc
  have HN := hidIt hc
  have HDW : Hid (w.heap.size ≤ D) := hidIt (Nat.le_trans (Nat.le_trans HB.out.size HW.out.size) hD)
  have HK := hidIt hK
  have HW2 := hidIt hB
  clear hc hf hB hK hS hx hSeq hU HW BN h1n hD
  have HB : Hid (Below w.heap.size w W) := hidIt (below_next HB.out HW2.out)
  have ST : Hid (St W sa stepsA) := hidIt (St.on ST.out HW2.out)
  have BP : Hid (W.heap[w1.heap.size]? = some (.cells #[.string ⟨#[120]⟩, .slice sa 2 sc] 24 (0, 0))) := hidIt (heap_on BP.out HW2.out)
  have S3 : Hid (SmAt b3 5 0 (.slice (some ⟨b3 + 4, 0, none⟩) 2 2) W) := hidIt (S3.out.on HW2.out)
  have BF : Hid (W.heap[Bf]? = some (.cells #[.int .i64 0, .string ⟨#[109, 97, 105, 110]⟩, .slice none 0 0, .slice (some ⟨b3 + 6, 0, none⟩) 1 1, .string ⟨#[105, 110, 116]⟩, .slice (some ⟨b3 + 10, 0, none⟩) 1 1] 45 (0, 0))) := hidIt (heap_on BF.out HW2.out)
  clear HW2
  gi_wp2_with fail
  refine at_wide ((kSmall _).mono ?_)
  rintro e w8 ⟨b8, rfl, ⟨hs, hz, hb⟩, hq⟩
  have hX : Hid (Below W.heap.size W ((w8.alloc (.cells #[.slice (some ⟨b8 + 3, 0, none⟩) 1 1, .slice (some ⟨b8 + 5, 0, none⟩) 1 1, .slice (some ⟨b8 + 11, 0, none⟩) 1 1] 36)).setCell ⟨b8 + 8, 4, none⟩ (.int .i64 6))) := hidIt ((below_next hq (below_new w8 (.cells #[.slice (some ⟨b8 + 3, 0, none⟩) 1 1, .slice (some ⟨b8 + 5, 0, none⟩) 1 1, .slice (some ⟨b8 + 11, 0, none⟩) 1 1] 36))).setCell (p := ⟨b8 + 8, 4, none⟩) (show W.heap.size ≤ b8 + 8 by omega) _)
  have hS1 := hs.on (below_new w8 (.cells #[.slice (some ⟨b8 + 3, 0, none⟩) 1 1, .slice (some ⟨b8 + 5, 0, none⟩) 1 1, .slice (some ⟨b8 + 11, 0, none⟩) 1 1] 36))
  have S8 := hidIt hS1.set6
  have BO : Hid (((w8.alloc (.cells #[.slice (some ⟨b8 + 3, 0, none⟩) 1 1, .slice (some ⟨b8 + 5, 0, none⟩) 1 1, .slice (some ⟨b8 + 11, 0, none⟩) 1 1] 36)).setCell ⟨b8 + 8, 4, none⟩ (.int .i64 6)).heap[w8.heap.size]? = some (.cells #[.slice (some ⟨b8 + 3, 0, none⟩) 1 1, .slice (some ⟨b8 + 5, 0, none⟩) 1 1, .slice (some ⟨b8 + 11, 0, none⟩) 1 1] 36 (0, 0))) := hidIt (set_ne (heap_alloc_new w8 (.cells #[.slice (some ⟨b8 + 3, 0, none⟩) 1 1, .slice (some ⟨b8 + 5, 0, none⟩) 1 1, .slice (some ⟨b8 + 11, 0, none⟩) 1 1] 36)) (by omega))
  have e1 : (w8.alloc (.cells #[.slice (some ⟨b8 + 3, 0, none⟩) 1 1, .slice (some ⟨b8 + 5, 0, none⟩) 1 1, .slice (some ⟨b8 + 11, 0, none⟩) 1 1] 36)).cell? ⟨b8 + 11, 5, none⟩ = some (.slice (some ⟨b8 + 10, 0, none⟩) 1 1) := cell_at hS1.b11 5
  have e2 : (w8.alloc (.cells #[.slice (some ⟨b8 + 3, 0, none⟩) 1 1, .slice (some ⟨b8 + 5, 0, none⟩) 1 1, .slice (some ⟨b8 + 11, 0, none⟩) 1 1] 36)).cell? ⟨b8 + 10, 2, none⟩ = some (.slice (some ⟨b8 + 8, 0, none⟩) 2 2) := cell_at hS1.b10 2
  have e3 : (w8.alloc (.cells #[.slice (some ⟨b8 + 3, 0, none⟩) 1 1, .slice (some ⟨b8 + 5, 0, none⟩) 1 1, .slice (some ⟨b8 + 11, 0, none⟩) 1 1] 36)).cell? ⟨b8 + 8, 4, none⟩ = some (.int .i64 5) := cell_at hS1.b8 4
  have fz : (w8.alloc (.cells #[.slice (some ⟨b8 + 3, 0, none⟩) 1 1, .slice (some ⟨b8 + 5, 0, none⟩) 1 1, .slice (some ⟨b8 + 11, 0, none⟩) 1 1] 36)).frozen? ⟨b8 + 8, 4, none⟩ = false := frozen_at hS1.b8 4
  clear hs hS1 hq hz hb
  gi_wp2_with fail
  clear e1 e2 e3 fz
  have HB : Hid (Below w.heap.size w ((w8.alloc (.cells #[.slice (some ⟨b8 + 3, 0, none⟩) 1 1, .slice (some ⟨b8 + 5, 0, none⟩) 1 1, .slice (some ⟨b8 + 11, 0, none⟩) 1 1] 36)).setCell ⟨b8 + 8, 4, none⟩ (.int .i64 6))) := hidIt (below_next HB.out hX.out)
  have ST : Hid (St ((w8.alloc (.cells #[.slice (some ⟨b8 + 3, 0, none⟩) 1 1, .slice (some ⟨b8 + 5, 0, none⟩) 1 1, .slice (some ⟨b8 + 11, 0, none⟩) 1 1] 36)).setCell ⟨b8 + 8, 4, none⟩ (.int .i64 6)) sa stepsA) := hidIt (St.on ST.out hX.out)
  have BP : Hid (((w8.alloc (.cells #[.slice (some ⟨b8 + 3, 0, none⟩) 1 1, .slice (some ⟨b8 + 5, 0, none⟩) 1 1, .slice (some ⟨b8 + 11, 0, none⟩) 1 1] 36)).setCell ⟨b8 + 8, 4, none⟩ (.int .i64 6)).heap[w1.heap.size]? = some (.cells #[.string ⟨#[120]⟩, .slice sa 2 sc] 24 (0, 0))) := hidIt (heap_on BP.out hX.out)
  have S3 : Hid (SmAt b3 5 0 (.slice (some ⟨b3 + 4, 0, none⟩) 2 2) ((w8.alloc (.cells #[.slice (some ⟨b8 + 3, 0, none⟩) 1 1, .slice (some ⟨b8 + 5, 0, none⟩) 1 1, .slice (some ⟨b8 + 11, 0, none⟩) 1 1] 36)).setCell ⟨b8 + 8, 4, none⟩ (.int .i64 6))) := hidIt (S3.out.on hX.out)
  have BF : Hid (((w8.alloc (.cells #[.slice (some ⟨b8 + 3, 0, none⟩) 1 1, .slice (some ⟨b8 + 5, 0, none⟩) 1 1, .slice (some ⟨b8 + 11, 0, none⟩) 1 1] 36)).setCell ⟨b8 + 8, 4, none⟩ (.int .i64 6)).heap[Bf]? = some (.cells #[.int .i64 0, .string ⟨#[109, 97, 105, 110]⟩, .slice none 0 0, .slice (some ⟨b3 + 6, 0, none⟩) 1 1, .string ⟨#[105, 110, 116]⟩, .slice (some ⟨b3 + 10, 0, none⟩) 1 1] 45 (0, 0))) := hidIt (heap_on BF.out hX.out)
  have HN : Hid (((w8.alloc (.cells #[.slice (some ⟨b8 + 3, 0, none⟩) 1 1, .slice (some ⟨b8 + 5, 0, none⟩) 1 1, .slice (some ⟨b8 + 11, 0, none⟩) 1 1] 36)).setCell ⟨b8 + 8, 4, none⟩ (.int .i64 6)).cell? ⟨Bf + 1, 0, none⟩ = some (.int .i64 3)) := hidIt ((hX.out.cell (p := ⟨Bf + 1, 0, none⟩) (World.block_lt_of_cell? _ _ HN.out)).trans HN.out)
  have HK : Hid (((w8.alloc (.cells #[.slice (some ⟨b8 + 3, 0, none⟩) 1 1, .slice (some ⟨b8 + 5, 0, none⟩) 1 1, .slice (some ⟨b8 + 11, 0, none⟩) 1 1] 36)).setCell ⟨b8 + 8, 4, none⟩ (.int .i64 6)).heap[D]? = some (.deferred (some []))) := hidIt (heap_on HK.out hX.out)
  generalize ((w8.alloc (.cells #[.slice (some ⟨b8 + 3, 0, none⟩) 1 1, .slice (some ⟨b8 + 5, 0, none⟩) 1 1, .slice (some ⟨b8 + 11, 0, none⟩) 1 1] 36)).setCell ⟨b8 + 8, 4, none⟩ (.int .i64 6)) = X8 at *
  clear hX
  refine at_wide ((kSmall _).mono ?_)
  rintro e w9 ⟨b9, rfl, ⟨hs, hz, hb⟩, hq⟩
  have hX : Hid (Below X8.heap.size X8 ((w9.alloc (.cells #[.slice (some ⟨b9 + 3, 0, none⟩) 1 1, .slice (some ⟨b9 + 5, 0, none⟩) 1 1, .slice (some ⟨b9 + 11, 0, none⟩) 1 1] 36)).setCell ⟨b9 + 11, 0, none⟩ (.int .i64 9))) := hidIt ((below_next hq (below_new w9 (.cells #[.slice (some ⟨b9 + 3, 0, none⟩) 1 1, .slice (some ⟨b9 + 5, 0, none⟩) 1 1, .slice (some ⟨b9 + 11, 0, none⟩) 1 1] 36))).setCell (p := ⟨b9 + 11, 0, none⟩) (show X8.heap.size ≤ b9 + 11 by omega) _)
  have hS1 := hs.on (below_new w9 (.cells #[.slice (some ⟨b9 + 3, 0, none⟩) 1 1, .slice (some ⟨b9 + 5, 0, none⟩) 1 1, .slice (some ⟨b9 + 11, 0, none⟩) 1 1] 36))
  have S9 := hidIt hS1.set9
  have BQ : Hid (((w9.alloc (.cells #[.slice (some ⟨b9 + 3, 0, none⟩) 1 1, .slice (some ⟨b9 + 5, 0, none⟩) 1 1, .slice (some ⟨b9 + 11, 0, none⟩) 1 1] 36)).setCell ⟨b9 + 11, 0, none⟩ (.int .i64 9)).heap[w9.heap.size]? = some (.cells #[.slice (some ⟨b9 + 3, 0, none⟩) 1 1, .slice (some ⟨b9 + 5, 0, none⟩) 1 1, .slice (some ⟨b9 + 11, 0, none⟩) 1 1] 36 (0, 0))) := hidIt (set_ne (heap_alloc_new w9 (.cells #[.slice (some ⟨b9 + 3, 0, none⟩) 1 1, .slice (some ⟨b9 + 5, 0, none⟩) 1 1, .slice (some ⟨b9 + 11, 0, none⟩) 1 1] 36)) (by omega))
  have e3 : (w9.alloc (.cells #[.slice (some ⟨b9 + 3, 0, none⟩) 1 1, .slice (some ⟨b9 + 5, 0, none⟩) 1 1, .slice (some ⟨b9 + 11, 0, none⟩) 1 1] 36)).cell? ⟨b9 + 11, 0, none⟩ = some (.int .i64 0) := cell_at hS1.b11 0
  have fz : (w9.alloc (.cells #[.slice (some ⟨b9 + 3, 0, none⟩) 1 1, .slice (some ⟨b9 + 5, 0, none⟩) 1 1, .slice (some ⟨b9 + 11, 0, none⟩) 1 1] 36)).frozen? ⟨b9 + 11, 0, none⟩ = false := frozen_at hS1.b11 0
  clear hs hS1 hq hz hb
  gi_wp2_with fail
  clear e3 fz
  have HB : Hid (Below w.heap.size w ((w9.alloc (.cells #[.slice (some ⟨b9 + 3, 0, none⟩) 1 1, .slice (some ⟨b9 + 5, 0, none⟩) 1 1, .slice (some ⟨b9 + 11, 0, none⟩) 1 1] 36)).setCell ⟨b9 + 11, 0, none⟩ (.int .i64 9))) := hidIt (below_next HB.out hX.out)
  have ST : Hid (St ((w9.alloc (.cells #[.slice (some ⟨b9 + 3, 0, none⟩) 1 1, .slice (some ⟨b9 + 5, 0, none⟩) 1 1, .slice (some ⟨b9 + 11, 0, none⟩) 1 1] 36)).setCell ⟨b9 + 11, 0, none⟩ (.int .i64 9)) sa stepsA) := hidIt (St.on ST.out hX.out)
  have BP : Hid (((w9.alloc (.cells #[.slice (some ⟨b9 + 3, 0, none⟩) 1 1, .slice (some ⟨b9 + 5, 0, none⟩) 1 1, .slice (some ⟨b9 + 11, 0, none⟩) 1 1] 36)).setCell ⟨b9 + 11, 0, none⟩ (.int .i64 9)).heap[w1.heap.size]? = some (.cells #[.string ⟨#[120]⟩, .slice sa 2 sc] 24 (0, 0))) := hidIt (heap_on BP.out hX.out)
  have S3 : Hid (SmAt b3 5 0 (.slice (some ⟨b3 + 4, 0, none⟩) 2 2) ((w9.alloc (.cells #[.slice (some ⟨b9 + 3, 0, none⟩) 1 1, .slice (some ⟨b9 + 5, 0, none⟩) 1 1, .slice (some ⟨b9 + 11, 0, none⟩) 1 1] 36)).setCell ⟨b9 + 11, 0, none⟩ (.int .i64 9))) := hidIt (S3.out.on hX.out)
  have BF : Hid (((w9.alloc (.cells #[.slice (some ⟨b9 + 3, 0, none⟩) 1 1, .slice (some ⟨b9 + 5, 0, none⟩) 1 1, .slice (some ⟨b9 + 11, 0, none⟩) 1 1] 36)).setCell ⟨b9 + 11, 0, none⟩ (.int .i64 9)).heap[Bf]? = some (.cells #[.int .i64 0, .string ⟨#[109, 97, 105, 110]⟩, .slice none 0 0, .slice (some ⟨b3 + 6, 0, none⟩) 1 1, .string ⟨#[105, 110, 116]⟩, .slice (some ⟨b3 + 10, 0, none⟩) 1 1] 45 (0, 0))) := hidIt (heap_on BF.out hX.out)
  have HN : Hid (((w9.alloc (.cells #[.slice (some ⟨b9 + 3, 0, none⟩) 1 1, .slice (some ⟨b9 + 5, 0, none⟩) 1 1, .slice (some ⟨b9 + 11, 0, none⟩) 1 1] 36)).setCell ⟨b9 + 11, 0, none⟩ (.int .i64 9)).cell? ⟨Bf + 1, 0, none⟩ = some (.int .i64 3)) := hidIt ((hX.out.cell (p := ⟨Bf + 1, 0, none⟩) (World.block_lt_of_cell? _ _ HN.out)).trans HN.out)
  have HK : Hid (((w9.alloc (.cells #[.slice (some ⟨b9 + 3, 0, none⟩) 1 1, .slice (some ⟨b9 + 5, 0, none⟩) 1 1, .slice (some ⟨b9 + 11, 0, none⟩) 1 1] 36)).setCell ⟨b9 + 11, 0, none⟩ (.int .i64 9)).heap[D]? = some (.deferred (some []))) := hidIt (heap_on HK.out hX.out)
  have S8 : Hid (SmAt b8 6 0 (.slice (some ⟨b8 + 4, 0, none⟩) 2 2) ((w9.alloc (.cells #[.slice (some ⟨b9 + 3, 0, none⟩) 1 1, .slice (some ⟨b9 + 5, 0, none⟩) 1 1, .slice (some ⟨b9 + 11, 0, none⟩) 1 1] 36)).setCell ⟨b9 + 11, 0, none⟩ (.int .i64 9))) := hidIt (S8.out.on hX.out)
  have BO : Hid (((w9.alloc (.cells #[.slice (some ⟨b9 + 3, 0, none⟩) 1 1, .slice (some ⟨b9 + 5, 0, none⟩) 1 1, .slice (some ⟨b9 + 11, 0, none⟩) 1 1] 36)).setCell ⟨b9 + 11, 0, none⟩ (.int .i64 9)).heap[w8.heap.size]? = some (.cells #[.slice (some ⟨b8 + 3, 0, none⟩) 1 1, .slice (some ⟨b8 + 5, 0, none⟩) 1 1, .slice (some ⟨b8 + 11, 0, none⟩) 1 1] 36 (0, 0))) := hidIt (heap_on BO.out hX.out)
  generalize ((w9.alloc (.cells #[.slice (some ⟨b9 + 3, 0, none⟩) 1 1, .slice (some ⟨b9 + 5, 0, none⟩) 1 1, .slice (some ⟨b9 + 11, 0, none⟩) 1 1] 36)).setCell ⟨b9 + 11, 0, none⟩ (.int .i64 9)) = X9 at *
  clear hX
  refine at_wide ((kSmall _).mono ?_)
  rintro e w10 ⟨b10, rfl, ⟨hs, hz, hb⟩, hq⟩
  have hX : Hid (Below X9.heap.size X9 ((w10.alloc (.cells #[.slice (some ⟨b10 + 3, 0, none⟩) 1 1, .slice (some ⟨b10 + 5, 0, none⟩) 1 1, .slice (some ⟨b10 + 11, 0, none⟩) 1 1] 36)).setCell ⟨b10 + 5, 2, none⟩ (.slice none 0 0))) := hidIt ((below_next hq (below_new w10 (.cells #[.slice (some ⟨b10 + 3, 0, none⟩) 1 1, .slice (some ⟨b10 + 5, 0, none⟩) 1 1, .slice (some ⟨b10 + 11, 0, none⟩) 1 1] 36))).setCell (p := ⟨b10 + 5, 2, none⟩) (show X9.heap.size ≤ b10 + 5 by omega) _)
  have hS1 := hs.on (below_new w10 (.cells #[.slice (some ⟨b10 + 3, 0, none⟩) 1 1, .slice (some ⟨b10 + 5, 0, none⟩) 1 1, .slice (some ⟨b10 + 11, 0, none⟩) 1 1] 36))
  have S10 := hidIt hS1.setV
  have BW : Hid (((w10.alloc (.cells #[.slice (some ⟨b10 + 3, 0, none⟩) 1 1, .slice (some ⟨b10 + 5, 0, none⟩) 1 1, .slice (some ⟨b10 + 11, 0, none⟩) 1 1] 36)).setCell ⟨b10 + 5, 2, none⟩ (.slice none 0 0)).heap[w10.heap.size]? = some (.cells #[.slice (some ⟨b10 + 3, 0, none⟩) 1 1, .slice (some ⟨b10 + 5, 0, none⟩) 1 1, .slice (some ⟨b10 + 11, 0, none⟩) 1 1] 36 (0, 0))) := hidIt (set_ne (heap_alloc_new w10 (.cells #[.slice (some ⟨b10 + 3, 0, none⟩) 1 1, .slice (some ⟨b10 + 5, 0, none⟩) 1 1, .slice (some ⟨b10 + 11, 0, none⟩) 1 1] 36)) (by omega))
  have e3 : (w10.alloc (.cells #[.slice (some ⟨b10 + 3, 0, none⟩) 1 1, .slice (some ⟨b10 + 5, 0, none⟩) 1 1, .slice (some ⟨b10 + 11, 0, none⟩) 1 1] 36)).cell? ⟨b10 + 5, 2, none⟩ = some (.slice (some ⟨b10 + 4, 0, none⟩) 2 2) := cell_at hS1.b5 2
  have fz : (w10.alloc (.cells #[.slice (some ⟨b10 + 3, 0, none⟩) 1 1, .slice (some ⟨b10 + 5, 0, none⟩) 1 1, .slice (some ⟨b10 + 11, 0, none⟩) 1 1] 36)).frozen? ⟨b10 + 5, 2, none⟩ = false := frozen_at hS1.b5 2
  clear hs hS1 hq hz hb
  have HB : Hid (Below w.heap.size w ((w10.alloc (.cells #[.slice (some ⟨b10 + 3, 0, none⟩) 1 1, .slice (some ⟨b10 + 5, 0, none⟩) 1 1, .slice (some ⟨b10 + 11, 0, none⟩) 1 1] 36)).setCell ⟨b10 + 5, 2, none⟩ (.slice none 0 0))) := hidIt (below_next HB.out hX.out)
  have ST : Hid (St ((w10.alloc (.cells #[.slice (some ⟨b10 + 3, 0, none⟩) 1 1, .slice (some ⟨b10 + 5, 0, none⟩) 1 1, .slice (some ⟨b10 + 11, 0, none⟩) 1 1] 36)).setCell ⟨b10 + 5, 2, none⟩ (.slice none 0 0)) sa stepsA) := hidIt (St.on ST.out hX.out)
  have BP : Hid (((w10.alloc (.cells #[.slice (some ⟨b10 + 3, 0, none⟩) 1 1, .slice (some ⟨b10 + 5, 0, none⟩) 1 1, .slice (some ⟨b10 + 11, 0, none⟩) 1 1] 36)).setCell ⟨b10 + 5, 2, none⟩ (.slice none 0 0)).heap[w1.heap.size]? = some (.cells #[.string ⟨#[120]⟩, .slice sa 2 sc] 24 (0, 0))) := hidIt (heap_on BP.out hX.out)
  have S3 : Hid (SmAt b3 5 0 (.slice (some ⟨b3 + 4, 0, none⟩) 2 2) ((w10.alloc (.cells #[.slice (some ⟨b10 + 3, 0, none⟩) 1 1, .slice (some ⟨b10 + 5, 0, none⟩) 1 1, .slice (some ⟨b10 + 11, 0, none⟩) 1 1] 36)).setCell ⟨b10 + 5, 2, none⟩ (.slice none 0 0))) := hidIt (S3.out.on hX.out)
  have BF : Hid (((w10.alloc (.cells #[.slice (some ⟨b10 + 3, 0, none⟩) 1 1, .slice (some ⟨b10 + 5, 0, none⟩) 1 1, .slice (some ⟨b10 + 11, 0, none⟩) 1 1] 36)).setCell ⟨b10 + 5, 2, none⟩ (.slice none 0 0)).heap[Bf]? = some (.cells #[.int .i64 0, .string ⟨#[109, 97, 105, 110]⟩, .slice none 0 0, .slice (some ⟨b3 + 6, 0, none⟩) 1 1, .string ⟨#[105, 110, 116]⟩, .slice (some ⟨b3 + 10, 0, none⟩) 1 1] 45 (0, 0))) := hidIt (heap_on BF.out hX.out)
  have HN : Hid (((w10.alloc (.cells #[.slice (some ⟨b10 + 3, 0, none⟩) 1 1, .slice (some ⟨b10 + 5, 0, none⟩) 1 1, .slice (some ⟨b10 + 11, 0, none⟩) 1 1] 36)).setCell ⟨b10 + 5, 2, none⟩ (.slice none 0 0)).cell? ⟨Bf + 1, 0, none⟩ = some (.int .i64 3)) := hidIt ((hX.out.cell (p := ⟨Bf + 1, 0, none⟩) (World.block_lt_of_cell? _ _ HN.out)).trans HN.out)
  have HK : Hid (((w10.alloc (.cells #[.slice (some ⟨b10 + 3, 0, none⟩) 1 1, .slice (some ⟨b10 + 5, 0, none⟩) 1 1, .slice (some ⟨b10 + 11, 0, none⟩) 1 1] 36)).setCell ⟨b10 + 5, 2, none⟩ (.slice none 0 0)).heap[D]? = some (.deferred (some []))) := hidIt (heap_on HK.out hX.out)
  have S8 : Hid (SmAt b8 6 0 (.slice (some ⟨b8 + 4, 0, none⟩) 2 2) ((w10.alloc (.cells #[.slice (some ⟨b10 + 3, 0, none⟩) 1 1, .slice (some ⟨b10 + 5, 0, none⟩) 1 1, .slice (some ⟨b10 + 11, 0, none⟩) 1 1] 36)).setCell ⟨b10 + 5, 2, none⟩ (.slice none 0 0))) := hidIt (S8.out.on hX.out)
  have BO : Hid (((w10.alloc (.cells #[.slice (some ⟨b10 + 3, 0, none⟩) 1 1, .slice (some ⟨b10 + 5, 0, none⟩) 1 1, .slice (some ⟨b10 + 11, 0, none⟩) 1 1] 36)).setCell ⟨b10 + 5, 2, none⟩ (.slice none 0 0)).heap[w8.heap.size]? = some (.cells #[.slice (some ⟨b8 + 3, 0, none⟩) 1 1, .slice (some ⟨b8 + 5, 0, none⟩) 1 1, .slice (some ⟨b8 + 11, 0, none⟩) 1 1] 36 (0, 0))) := hidIt (heap_on BO.out hX.out)
  have S9 : Hid (SmAt b9 5 9 (.slice (some ⟨b9 + 4, 0, none⟩) 2 2) ((w10.alloc (.cells #[.slice (some ⟨b10 + 3, 0, none⟩) 1 1, .slice (some ⟨b10 + 5, 0, none⟩) 1 1, .slice (some ⟨b10 + 11, 0, none⟩) 1 1] 36)).setCell ⟨b10 + 5, 2, none⟩ (.slice none 0 0))) := hidIt (S9.out.on hX.out)
  have BQ : Hid (((w10.alloc (.cells #[.slice (some ⟨b10 + 3, 0, none⟩) 1 1, .slice (some ⟨b10 + 5, 0, none⟩) 1 1, .slice (some ⟨b10 + 11, 0, none⟩) 1 1] 36)).setCell ⟨b10 + 5, 2, none⟩ (.slice none 0 0)).heap[w9.heap.size]? = some (.cells #[.slice (some ⟨b9 + 3, 0, none⟩) 1 1, .slice (some ⟨b9 + 5, 0, none⟩) 1 1, .slice (some ⟨b9 + 11, 0, none⟩) 1 1] 36 (0, 0))) := hidIt (heap_on BQ.out hX.out)
  obtain ⟨p0, p1⟩ := cells_2 BP.out
  gi_wp2_with fail
  clear e3 fz hX
  generalize ((w10.alloc (.cells #[.slice (some ⟨b10 + 3, 0, none⟩) 1 1, .slice (some ⟨b10 + 5, 0, none⟩) 1 1, .slice (some ⟨b10 + 11, 0, none⟩) 1 1] 36)).setCell ⟨b10 + 5, 2, none⟩ (.slice none 0 0)) = X10 at *
  have HI0 : Hid (AI w sa sc w1.heap.size Bf b3 b8 w8.heap.size b9 w9.heap.size b10 w10.heap.size D X10) := hidIt ⟨HB.out, ST.out, BP.out, BO.out, BQ.out, BW.out, BF.out, S3.out, S8.out, S9.out, S10.out, HN.out, HK.out⟩
  have HI := hidIt (HI0.out.on (Below.refl _ X10).drew)
  clear p0 p1 HB ST BP BO BQ BW BF S3 S8 S9 S10 HN HK
  rename_i K5 hK5
  refine wpIn_mono (Q := Exit.then K5 (fun _ _ _ => False)) ?_ (fun e a w h => by cases e <;> first | exact h | exact h.elim)
  refine wpIn_wide.2 ?_
  simp only [List.append_eq, List.cons_append, List.nil_append]
  have sw : X10.cell? ⟨w1.heap.size, 0, none⟩ = some (.string ⟨#[120]⟩) ∧ X10.cell? ⟨w1.heap.size, 1, none⟩ = some (.slice sa 2 sc) ∧ X10.cell? ⟨w8.heap.size, 0, none⟩ = some (.slice (some ⟨b8 + 3, 0, none⟩) 1 1) ∧ X10.cell? ⟨w8.heap.size, 1, none⟩ = some (.slice (some ⟨b8 + 5, 0, none⟩) 1 1) ∧ X10.cell? ⟨w8.heap.size, 2, none⟩ = some (.slice (some ⟨b8 + 11, 0, none⟩) 1 1) ∧ X10.cell? ⟨w9.heap.size, 0, none⟩ = some (.slice (some ⟨b9 + 3, 0, none⟩) 1 1) ∧ X10.cell? ⟨w9.heap.size, 1, none⟩ = some (.slice (some ⟨b9 + 5, 0, none⟩) 1 1) ∧ X10.cell? ⟨w9.heap.size, 2, none⟩ = some (.slice (some ⟨b9 + 11, 0, none⟩) 1 1) ∧ X10.cell? ⟨w10.heap.size, 0, none⟩ = some (.slice (some ⟨b10 + 3, 0, none⟩) 1 1) ∧ X10.cell? ⟨w10.heap.size, 1, none⟩ = some (.slice (some ⟨b10 + 5, 0, none⟩) 1 1) ∧ X10.cell? ⟨w10.heap.size, 2, none⟩ = some (.slice (some ⟨b10 + 11, 0, none⟩) 1 1) ∧ X10.cell? ⟨Bf, 0, none⟩ = some (.int .i64 0) ∧ X10.cell? ⟨Bf, 1, none⟩ = some (.string ⟨#[109, 97, 105, 110]⟩) ∧ X10.cell? ⟨Bf, 2, none⟩ = some (.slice none 0 0) ∧ X10.cell? ⟨Bf, 3, none⟩ = some (.slice (some ⟨b3 + 6, 0, none⟩) 1 1) ∧ X10.cell? ⟨Bf, 4, none⟩ = some (.string ⟨#[105, 110, 116]⟩) ∧ X10.cell? ⟨Bf, 5, none⟩ = some (.slice (some ⟨b3 + 10, 0, none⟩) 1 1) ∧ X10.cell? ⟨Bf + 1, 0, none⟩ = some (.int .i64 3) := HI0.out.cells
  clear HI0
  have T16 : Hid True := hidIt trivial
  have T20 : Hid True := hidIt trivial
  have T23 : Hid True := hidIt trivial
  have U23 : Hid True := hidIt trivial
  go_region_held3 (fun W => W.cell? ⟨w1.heap.size, 0, none⟩ = some (.string ⟨#[120]⟩) ∧ W.cell? ⟨w1.heap.size, 1, none⟩ = some (.slice sa 2 sc) ∧ W.cell? ⟨w8.heap.size, 0, none⟩ = some (.slice (some ⟨b8 + 3, 0, none⟩) 1 1) ∧ W.cell? ⟨w8.heap.size, 1, none⟩ = some (.slice (some ⟨b8 + 5, 0, none⟩) 1 1) ∧ W.cell? ⟨w8.heap.size, 2, none⟩ = some (.slice (some ⟨b8 + 11, 0, none⟩) 1 1) ∧ W.cell? ⟨w9.heap.size, 0, none⟩ = some (.slice (some ⟨b9 + 3, 0, none⟩) 1 1) ∧ W.cell? ⟨w9.heap.size, 1, none⟩ = some (.slice (some ⟨b9 + 5, 0, none⟩) 1 1) ∧ W.cell? ⟨w9.heap.size, 2, none⟩ = some (.slice (some ⟨b9 + 11, 0, none⟩) 1 1) ∧ W.cell? ⟨w10.heap.size, 0, none⟩ = some (.slice (some ⟨b10 + 3, 0, none⟩) 1 1) ∧ W.cell? ⟨w10.heap.size, 1, none⟩ = some (.slice (some ⟨b10 + 5, 0, none⟩) 1 1) ∧ W.cell? ⟨w10.heap.size, 2, none⟩ = some (.slice (some ⟨b10 + 11, 0, none⟩) 1 1) ∧ W.cell? ⟨Bf, 0, none⟩ = some (.int .i64 0) ∧ W.cell? ⟨Bf, 1, none⟩ = some (.string ⟨#[109, 97, 105, 110]⟩) ∧ W.cell? ⟨Bf, 2, none⟩ = some (.slice none 0 0) ∧ W.cell? ⟨Bf, 3, none⟩ = some (.slice (some ⟨b3 + 6, 0, none⟩) 1 1) ∧ W.cell? ⟨Bf, 4, none⟩ = some (.string ⟨#[105, 110, 116]⟩) ∧ W.cell? ⟨Bf, 5, none⟩ = some (.slice (some ⟨b3 + 10, 0, none⟩) 1 1) ∧ W.cell? ⟨Bf + 1, 0, none⟩ = some (.int .i64 3)) (go_keep)
   (first
   | (go_at_call 13; refine (kText HI.out.st).mono ?_; rintro e y ⟨rfl, hq⟩; have HI := hidIt (HI.out.on hq); have sS := HI.out.cells; unfold SC at sS; clear hq)
   | (go_at_call 16; have tk := T16; clear tk T16; refine (kFront1 HI.out.st HC.out).mono ?_; rintro e y ⟨rfl, hq⟩; have HI := hidIt (HI.out.on hq); have sS := HI.out.cells; unfold SC at sS; clear hq)
   | (go_at_call 16; refine (kFront2 HI.out.st).mono ?_; rintro e y ⟨rfl, hq⟩; have HI := hidIt (HI.out.on hq); have sS := HI.out.cells; unfold SC at sS; clear hq)
   | (go_at_call 15; refine (kEqual HI.out.st).mono ?_; rintro e y ⟨rfl, hq⟩; have HI := hidIt (HI.out.on hq); have sS := HI.out.cells; unfold SC at sS; clear hq)
   | (go_at_call 34; refine (kSmall _).mono ?_; rintro e y ⟨bz, rfl, ⟨hs, hz, hbz⟩, hq⟩; have HS := hidIt hs; clear hs hz hbz; have HI := hidIt (HI.out.on hq); have sS := HI.out.cells; unfold SC at sS; clear hq)
   | (go_at_call 20; have tk := T20; clear tk T20; refine (kRight HS.out).mono ?_; rintro e y ⟨rfl, hq⟩; have HI := hidIt (HI.out.on hq); have sS := HI.out.cells; unfold SC at sS; clear hq)
   | (go_at_call 20; refine (kWrong HI.out.s10).mono ?_; rintro e y ⟨rfl, hq⟩; have HI := hidIt (HI.out.on hq); have sS := HI.out.cells; unfold SC at sS; clear hq)
   | (go_at_call 23; have tk := T23; clear tk T23; refine (kSame false (same6 _ _) HI.out.s8 HS.out).mono ?_; rintro e y ⟨rfl, hq⟩; have HI := hidIt (HI.out.on hq); have sS := HI.out.cells; unfold SC at sS; clear hq)
   | (go_at_call 23; have tk := U23; clear tk U23; refine (kSame true (same9 _ _) HI.out.s9 HS.out).mono ?_; rintro e y ⟨rfl, hq⟩; have HI := hidIt (HI.out.on hq); have sS := HI.out.cells; unfold SC at sS; clear hq)
   | (go_at_call 24; refine (kClone HI.out.s8).mono ?_; rintro e y ⟨yc, rfl, hyc, hq⟩; have HY := hidIt hyc; clear hyc; have HI := hidIt (HI.out.on hq); have sS := HI.out.cells; unfold SC at sS; clear hq)
   | (go_at_call 23; refine (kSameC HI.out.s8 HY.out.1 HY.out.2).mono ?_; rintro e y ⟨rfl, hq⟩; have HI := hidIt (HI.out.on hq); have sS := HI.out.cells; unfold SC at sS; clear hq)
   | (go_at_call 28; refine (kVars HI.out.s3).mono ?_; rintro e y ⟨av, cv, rfl, hv, hq⟩; have HV := hidIt hv; clear hv; have HI := hidIt (HI.out.on hq); have sS := HI.out.cells; unfold SC at sS; clear hq)
   | (go_at_call 30; refine (kFind HV.out).mono ?_; rintro e y ⟨rfl, hq⟩; have HI := hidIt (HI.out.on hq); have sS := HI.out.cells; unfold SC at sS; clear hq)
   | (go_at_call 32; refine (kBlock HI.out.s3).mono ?_; rintro e y ⟨rfl, hq⟩; have HI := hidIt (HI.out.on hq); have sS := HI.out.cells; unfold SC at sS; clear hq))
  refine hK5 _ _ ?_
  clear hK5 sw sS
  gi_wp2
  refine ⟨by simp, .inl ⟨_, _, rfl, run_takeDeferred HI.out.d, ?_⟩⟩
  refine ⟨.bool true, ?_, rfl, HI.out.bel.trans (belowK_b (w := w) (Nat.le_refl _) _ D _ _ HDW.out HI.out.d rfl rfl)⟩
  simp [results, Tryz.f9, go_sem]
theorem alive_any (w : World) : Calls Tryz.prog 9 #[] w fun e w' => e = .returned (.bool true) ∧ Below w.heap.size w w' := callsIn_wide.1 (alive_in 3 (hidIt (Nat.le_refl _)) w)
end Go.Proofs.YtlppbgmcoknliaaGreatDoor
