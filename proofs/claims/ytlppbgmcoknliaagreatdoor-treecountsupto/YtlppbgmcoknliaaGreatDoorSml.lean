/-
  Small: the program that it makes, and where it lies.
-/
import Derived.Test.YtlppbgmcoknliaaGreatDoorUse4
namespace Go.Proofs.YtlppbgmcoknliaaGreatDoor
set_option linter.unusedVariables false
open Go.RowKit

/-- Rows that a block holds. -/
theorem Sl.ofFlat {w : World} {g k : Nat} {ty : TypeId} {fr : Nat × Nat} (rows : List (List Value)) (h : w.heap[g]? = some (.cells rows.flatten.toArray ty fr)) (hl : ∀ r ∈ rows, r.length = k) (hb : rows.length ≤ 1048576) : Sl w k (some ⟨g, 0, none⟩) rows := by
 refine ⟨hl, hb, .inr ⟨g, 0, rfl, (Array.getElem?_eq_some_iff.1 h).1, fun j r i v hj hi => ?_⟩⟩
 rw [cell_at h, List.getElem?_toArray, Nat.zero_add]
 exact flat_at hl hj hi

/-- The blocks of such a program, from block b on: N stands in its first statement, A tells where its function stands, V holds its enum's variants. -/
structure SmAt (b : Nat) (N A : Int) (V : Value) (w : World) : Prop where
 b2 : w.heap[b + 2]? = some (.cells #[.string ⟨#[97]⟩, .string ⟨#[105, 110, 116]⟩, .string ⟨#[98]⟩, .string ⟨#[98, 111, 120, 32, 105, 110, 116]⟩] 52 (0, 0))
 b3 : w.heap[b + 3]? = some (.cells #[.int .i64 0, .string ⟨#[112, 97, 105, 114]⟩, .bool false, .bool false, .slice (some ⟨b + 2, 0, none⟩) 2 2] 58 (0, 0))
 b4 : w.heap[b + 4]? = some (.cells #[.string ⟨#[110, 111, 110, 101]⟩, .string ⟨#[]⟩, .string ⟨#[115, 111, 109, 101]⟩, .string ⟨#[98, 111, 120, 32, 105, 110, 116]⟩] 52 (0, 0))
 b5 : w.heap[b + 5]? = some (.cells #[.int .i64 0, .string ⟨#[111, 112, 116]⟩, V] 70 (0, 0))
 b6 : w.heap[b + 6]? = some (.cells #[.string ⟨#[120]⟩, .string ⟨#[105, 110, 116]⟩] 52 (0, 0))
 b7 : w.heap[b + 7]? = some (.cells #[.string ⟨#[120]⟩, .slice none 0 0] 24 (0, 0))
 b8 : w.heap[b + 8]? = some (.cells #[.int .i64 0, .int .i64 1, .string ⟨#[120]⟩, .slice none 0 0, .int .i64 N, .string ⟨#[]⟩, .string ⟨#[]⟩, .slice none 0 0, .int .i64 0, .int .i64 11, .string ⟨#[]⟩, .slice none 0 0, .int .i64 0, .string ⟨#[]⟩, .string ⟨#[]⟩, .slice (some ⟨b + 7, 0, none⟩) 1 1] 68 (0, 0))
 b9 : w.heap[b + 9]? = some (.cells #[.string ⟨#[120]⟩, .slice none 0 0] 24 (0, 0))
 b10 : w.heap[b + 10]? = some (.cells #[.int .i64 0, .string ⟨#[98, 48]⟩, .slice (some ⟨b + 8, 0, none⟩) 2 2, .int .i64 0, .int .i64 7, .string ⟨#[]⟩, .slice none 0 0, .string ⟨#[]⟩, .slice (some ⟨b + 9, 0, none⟩) 1 1, .slice none 0 0, .slice none 0 0] 64 (0, 0))
 b11 : w.heap[b + 11]? = some (.cells #[.int .i64 A, .string ⟨#[109, 97, 105, 110]⟩, .slice none 0 0, .slice (some ⟨b + 6, 0, none⟩) 1 1, .string ⟨#[105, 110, 116]⟩, .slice (some ⟨b + 10, 0, none⟩) 1 1] 45 (0, 0))

def smV (b : Nat) : List VarD := [⟨⟨#[110, 111, 110, 101]⟩, ⟨#[]⟩⟩, ⟨⟨#[115, 111, 109, 101]⟩, ⟨#[98, 111, 120, 32, 105, 110, 116]⟩⟩]
def smS (b : Nat) (N : Int) : List StmtX := [⟨0, 1, ⟨⟨#[120]⟩, none, 0, []⟩, N, ⟨#[]⟩, ⟨#[]⟩, none, 0, []⟩, ⟨0, 11, ⟨⟨#[]⟩, none, 0, []⟩, 0, ⟨#[]⟩, ⟨#[]⟩, some ⟨b + 7, 0, none⟩, 1, [⟨⟨#[120]⟩, none, 0, []⟩]⟩]
def smT (b : Nat) : TermX := ⟨0, 7, ⟨⟨#[]⟩, none, 0, []⟩, ⟨#[]⟩, some ⟨b + 9, 0, none⟩, 1, [⟨⟨#[120]⟩, none, 0, []⟩], none, 0, [], none, 0, []⟩
def smB (b : Nat) (N : Int) : BlockX := ⟨0, ⟨#[98, 48]⟩, some ⟨b + 8, 0, none⟩, 2, smS b N, smT b⟩
def smF (b : Nat) (N A : Int) : FuncX := ⟨A, ⟨#[109, 97, 105, 110]⟩, none, 0, [], some ⟨b + 6, 0, none⟩, 1, [⟨⟨#[120]⟩, ⟨#[105, 110, 116]⟩⟩], ⟨#[105, 110, 116]⟩, some ⟨b + 10, 0, none⟩, 1, [smB b N]⟩
def smU (b : Nat) : StructX := ⟨0, ⟨#[112, 97, 105, 114]⟩, false, false, some ⟨b + 2, 0, none⟩, 2, [⟨⟨#[97]⟩, ⟨#[105, 110, 116]⟩⟩, ⟨⟨#[98]⟩, ⟨#[98, 111, 120, 32, 105, 110, 116]⟩⟩]⟩
def smX (b : Nat) (N A : Int) : ProgX := ⟨some ⟨b + 3, 0, none⟩, 1, [smU b], some ⟨b + 5, 0, none⟩, 1, [⟨0, ⟨#[111, 112, 116]⟩, some ⟨b + 4, 0, none⟩, 2, smV b⟩], some ⟨b + 11, 0, none⟩, 1, [smF b N A]⟩
/-- The one whose enum has no variants. -/
def smW (b : Nat) (N A : Int) : ProgX := ⟨some ⟨b + 3, 0, none⟩, 1, [smU b], some ⟨b + 5, 0, none⟩, 1, [⟨0, ⟨#[111, 112, 116]⟩, none, 0, []⟩], some ⟨b + 11, 0, none⟩, 1, [smF b N A]⟩

theorem one_mem {α : Type} {P : α → Prop} {x : α} (h : P x) : ∀ y ∈ [x], P y := fun y hy => by cases List.mem_singleton.1 hy; exact h
theorem smF_at {b : Nat} {N A : Int} {V : Value} {w : World} (h : SmAt b N A V w) : (smF b N A).At w := by
 refine ⟨Sl.nil, Sl.ofFlat (ty := 52) (fr := (0, 0)) [[.string ⟨#[120]⟩, .string ⟨#[105, 110, 116]⟩]] h.b6 (one_mem rfl) (by decide), Sl.ofFlat (ty := 64) (fr := (0, 0)) [(smB b N).row] h.b10 (one_mem rfl) (by simp), one_mem ⟨⟨Sl.ofFlat (ty := 68) (fr := (0, 0)) ((smS b N).map StmtX.row) h.b8 ?_ (by simp [smS]), ?_⟩, ?_⟩⟩
 · intro r hr
   obtain ⟨z, _, rfl⟩ := List.mem_map.1 hr
   rfl
 · intro y hy
   simp only [smB, smS, List.mem_cons, List.not_mem_nil, or_false] at hy
   rcases hy with rfl | rfl
   · exact ⟨St.nil, Sl.nil, fun p hp => by simp at hp⟩
   · exact ⟨St.nil, Sl.ofFlat (ty := 24) (fr := (0, 0)) [[.string ⟨#[120]⟩, .slice none 0 0]] h.b7 (one_mem rfl) (by decide), one_mem St.nil⟩
 · exact ⟨St.nil, ⟨Sl.ofFlat (ty := 24) (fr := (0, 0)) [[.string ⟨#[120]⟩, .slice none 0 0]] h.b9 (one_mem rfl) (by decide), one_mem St.nil⟩, St.nil, Sl.nil⟩
theorem smU_at {b : Nat} {N A : Int} {V : Value} {w : World} (h : SmAt b N A V w) : (smU b).At w :=
 Sl.ofFlat (ty := 52) (fr := (0, 0)) [[.string ⟨#[97]⟩, .string ⟨#[105, 110, 116]⟩], [.string ⟨#[98]⟩, .string ⟨#[98, 111, 120, 32, 105, 110, 116]⟩]] h.b2 (by intro r hr; simp only [List.mem_cons, List.not_mem_nil, or_false] at hr; rcases hr with rfl | rfl <;> rfl) (by decide)
theorem smX_at {b : Nat} {N A : Int} {w : World} (h : SmAt b N A (.slice (some ⟨b + 4, 0, none⟩) 2 2) w) : (smX b N A).At w :=
 ⟨⟨Sl.ofFlat (ty := 58) (fr := (0, 0)) [(smU b).row] h.b3 (one_mem rfl) (by simp), one_mem (smU_at h)⟩, ⟨Sl.ofFlat (ty := 70) (fr := (0, 0)) [[.int .i64 0, .string ⟨#[111, 112, 116]⟩, .slice (some ⟨b + 4, 0, none⟩) 2 2]] h.b5 (one_mem rfl) (by simp), one_mem (Sl.ofFlat (ty := 52) (fr := (0, 0)) ((smV b).map VarD.row) h.b4 (fun r hr => by obtain ⟨z, _, rfl⟩ := List.mem_map.1 hr; rfl) (by simp [smV]))⟩, ⟨Sl.ofFlat (ty := 45) (fr := (0, 0)) [(smF b N A).row] h.b11 (one_mem rfl) (by simp), one_mem (smF_at h)⟩⟩
theorem smW_at {b : Nat} {N A : Int} {w : World} (h : SmAt b N A (.slice none 0 0) w) : (smW b N A).At w :=
 ⟨⟨Sl.ofFlat (ty := 58) (fr := (0, 0)) [(smU b).row] h.b3 (one_mem rfl) (by simp), one_mem (smU_at h)⟩, ⟨Sl.ofFlat (ty := 70) (fr := (0, 0)) [[.int .i64 0, .string ⟨#[111, 112, 116]⟩, .slice none 0 0]] h.b5 (one_mem rfl) (by simp), one_mem Sl.nil⟩, ⟨Sl.ofFlat (ty := 45) (fr := (0, 0)) [(smF b N A).row] h.b11 (one_mem rfl) (by simp), one_mem (smF_at h)⟩⟩
theorem SmAt.on {b : Nat} {N A : Int} {V : Value} {w w' : World} (h : SmAt b N A V w) (hb : Below w.heap.size w w') : SmAt b N A V w' :=
 ⟨heap_on h.b2 hb, heap_on h.b3 hb, heap_on h.b4 hb, heap_on h.b5 hb, heap_on h.b6 hb, heap_on h.b7 hb, heap_on h.b8 hb, heap_on h.b9 hb, heap_on h.b10 hb, heap_on h.b11 hb⟩

/-- Objects, one behind the other. -/
def allocs (w : World) : List Obj → World
 | [] => w
 | o :: l => allocs (w.alloc o) l
theorem allocs_size : ∀ (l : List Obj) (w : World), (allocs w l).heap.size = w.heap.size + l.length
 | [], w => rfl
 | o :: l, w => by rw [allocs, allocs_size l, World.size_alloc, List.length_cons]; omega
theorem allocs_below : ∀ (l : List Obj) (w : World), Below w.heap.size w (allocs w l)
 | [], w => Below.refl _ _
 | o :: l, w => below_next (below_new w o) (allocs_below l _)
theorem allocs_at : ∀ (l : List Obj) (w : World) (k : Nat) (o : Obj), l[k]? = some o → (allocs w l).heap[w.heap.size + k]? = some o
 | [], w, k, o, h => by simp at h
 | a :: l, w, 0, o, h => by
  simp at h
  subst h
  exact heap_on (heap_alloc_new w a) (allocs_below l _)
 | a :: l, w, k + 1, o, h => by
  have := allocs_at l (w.alloc a) k o (by simpa using h)
  rw [World.size_alloc] at this
  rw [allocs, show w.heap.size + (k + 1) = w.heap.size + 1 + k by omega]
  exact this
def smO (w : World) : List Obj := [(.cells #[.slice (some ⟨w.heap.size + 3, 0, none⟩) 1 1, .slice (some ⟨w.heap.size + 5, 0, none⟩) 1 1, .slice (some ⟨w.heap.size + 11, 0, none⟩) 1 1] 36), (.cells #[.string ⟨#[120]⟩, .slice none 0 0] 24), (.cells #[.string ⟨#[97]⟩, .string ⟨#[105, 110, 116]⟩, .string ⟨#[98]⟩, .string ⟨#[98, 111, 120, 32, 105, 110, 116]⟩] 52), (.cells #[.int .i64 0, .string ⟨#[112, 97, 105, 114]⟩, .bool false, .bool false, .slice (some ⟨w.heap.size + 2, 0, none⟩) 2 2] 58), (.cells #[.string ⟨#[110, 111, 110, 101]⟩, .string ⟨#[]⟩, .string ⟨#[115, 111, 109, 101]⟩, .string ⟨#[98, 111, 120, 32, 105, 110, 116]⟩] 52), (.cells #[.int .i64 0, .string ⟨#[111, 112, 116]⟩, .slice (some ⟨w.heap.size + 4, 0, none⟩) 2 2] 70), (.cells #[.string ⟨#[120]⟩, .string ⟨#[105, 110, 116]⟩] 52), (.cells #[.string ⟨#[120]⟩, .slice none 0 0] 24), (.cells #[.int .i64 0, .int .i64 1, .string ⟨#[120]⟩, .slice none 0 0, .int .i64 5, .string ⟨#[]⟩, .string ⟨#[]⟩, .slice none 0 0, .int .i64 0, .int .i64 11, .string ⟨#[]⟩, .slice none 0 0, .int .i64 0, .string ⟨#[]⟩, .string ⟨#[]⟩, .slice (some ⟨w.heap.size + 7, 0, none⟩) 1 1] 68), (.cells #[.string ⟨#[120]⟩, .slice none 0 0] 24), (.cells #[.int .i64 0, .string ⟨#[98, 48]⟩, .slice (some ⟨w.heap.size + 8, 0, none⟩) 2 2, .int .i64 0, .int .i64 7, .string ⟨#[]⟩, .slice none 0 0, .string ⟨#[]⟩, .slice (some ⟨w.heap.size + 9, 0, none⟩) 1 1, .slice none 0 0, .slice none 0 0] 64), (.cells #[.int .i64 0, .string ⟨#[109, 97, 105, 110]⟩, .slice none 0 0, .slice (some ⟨w.heap.size + 6, 0, none⟩) 1 1, .string ⟨#[105, 110, 116]⟩, .slice (some ⟨w.heap.size + 10, 0, none⟩) 1 1] 45)]

set_option maxHeartbeats 2000000 in
set_option maxRecDepth 100000 in
theorem small_any (w : World) :
 Calls Tryz.prog 34 #[] w fun e w' => e = .returned (.agg #[.slice (some ⟨w.heap.size + 3, 0, none⟩) 1 1, .slice (some ⟨w.heap.size + 5, 0, none⟩) 1 1, .slice (some ⟨w.heap.size + 11, 0, none⟩) 1 1]) ∧ SmAt w.heap.size 5 0 (.slice (some ⟨w.heap.size + 4, 0, none⟩) 2 2) w' ∧ w'.heap.size = w.heap.size + 12 ∧ Below w.heap.size w w' := by
 go_enter Tryz.func34, Tryz.ntmps34
 go_wp2
 simp only [Nat.add_assoc, Nat.reduceAdd]
 have hW : ((((((((((((w.alloc (.cells #[.slice (some ⟨w.heap.size + 3, 0, none⟩) 1 1, .slice (some ⟨w.heap.size + 5, 0, none⟩) 1 1, .slice (some ⟨w.heap.size + 11, 0, none⟩) 1 1] 36)).alloc (.cells #[.string ⟨#[120]⟩, .slice none 0 0] 24)).alloc (.cells #[.string ⟨#[97]⟩, .string ⟨#[105, 110, 116]⟩, .string ⟨#[98]⟩, .string ⟨#[98, 111, 120, 32, 105, 110, 116]⟩] 52)).alloc (.cells #[.int .i64 0, .string ⟨#[112, 97, 105, 114]⟩, .bool false, .bool false, .slice (some ⟨w.heap.size + 2, 0, none⟩) 2 2] 58)).alloc (.cells #[.string ⟨#[110, 111, 110, 101]⟩, .string ⟨#[]⟩, .string ⟨#[115, 111, 109, 101]⟩, .string ⟨#[98, 111, 120, 32, 105, 110, 116]⟩] 52)).alloc (.cells #[.int .i64 0, .string ⟨#[111, 112, 116]⟩, .slice (some ⟨w.heap.size + 4, 0, none⟩) 2 2] 70)).alloc (.cells #[.string ⟨#[120]⟩, .string ⟨#[105, 110, 116]⟩] 52)).alloc (.cells #[.string ⟨#[120]⟩, .slice none 0 0] 24)).alloc (.cells #[.int .i64 0, .int .i64 1, .string ⟨#[120]⟩, .slice none 0 0, .int .i64 5, .string ⟨#[]⟩, .string ⟨#[]⟩, .slice none 0 0, .int .i64 0, .int .i64 11, .string ⟨#[]⟩, .slice none 0 0, .int .i64 0, .string ⟨#[]⟩, .string ⟨#[]⟩, .slice (some ⟨w.heap.size + 7, 0, none⟩) 1 1] 68)).alloc (.cells #[.string ⟨#[120]⟩, .slice none 0 0] 24)).alloc (.cells #[.int .i64 0, .string ⟨#[98, 48]⟩, .slice (some ⟨w.heap.size + 8, 0, none⟩) 2 2, .int .i64 0, .int .i64 7, .string ⟨#[]⟩, .slice none 0 0, .string ⟨#[]⟩, .slice (some ⟨w.heap.size + 9, 0, none⟩) 1 1, .slice none 0 0, .slice none 0 0] 64)).alloc (.cells #[.int .i64 0, .string ⟨#[109, 97, 105, 110]⟩, .slice none 0 0, .slice (some ⟨w.heap.size + 6, 0, none⟩) 1 1, .string ⟨#[105, 110, 116]⟩, .slice (some ⟨w.heap.size + 10, 0, none⟩) 1 1] 45)) = allocs w (smO w) := by simp only [allocs, smO]
 rw [hW]
 clear hW
 have HS : Hid (SmAt w.heap.size 5 0 (.slice (some ⟨w.heap.size + 4, 0, none⟩) 2 2) (allocs w (smO w)) ∧ (allocs w (smO w)).heap.size = w.heap.size + 12 ∧ Below w.heap.size w (allocs w (smO w))) := hidIt ⟨⟨allocs_at _ _ 2 _ rfl, allocs_at _ _ 3 _ rfl, allocs_at _ _ 4 _ rfl, allocs_at _ _ 5 _ rfl, allocs_at _ _ 6 _ rfl, allocs_at _ _ 7 _ rfl, allocs_at _ _ 8 _ rfl, allocs_at _ _ 9 _ rfl, allocs_at _ _ 10 _ rfl, allocs_at _ _ 11 _ rfl⟩, by rw [allocs_size]; rfl, allocs_below _ _⟩
 have h0 := allocs_at (smO w) w 0 _ rfl
 have r0 := cell_at h0 0
 have r1 := cell_at h0 1
 have r2 := cell_at h0 2
 simp only [Nat.add_zero, List.getElem?_toArray, List.getElem?_cons_zero, List.getElem?_cons_succ] at r0 r1 r2
 clear h0
 generalize allocs w (smO w) = W at HS r0 r1 r2 ⊢
 refine bodyPost_ret (show _ = Result.ok (.agg #[.slice (some ⟨w.heap.size + 3, 0, none⟩) 1 1, .slice (some ⟨w.heap.size + 5, 0, none⟩) 1 1, .slice (some ⟨w.heap.size + 11, 0, none⟩) 1 1]) W by simp [results, Tryz.results34, go_sem, r0, r1, r2]) rfl ?_
 exact ⟨rfl, HS.out⟩
end Go.Proofs.YtlppbgmcoknliaaGreatDoor
