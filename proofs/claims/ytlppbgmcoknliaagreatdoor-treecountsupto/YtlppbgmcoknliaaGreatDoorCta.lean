/-
  TreeCounts: three slices that grow side by side, and the counts' arithmetic.
-/
import Derived.Test.YtlppbgmcoknliaaGreatDoorCap
import Derived.Test.YtlppbgmcoknliaaGreatDoorUse4
import Derived.Test.YtlppbgmcoknliaaGreatDoorRgt3
import Derived.Deep.AppendLies
import Derived.ArgAppend
namespace Go.Proofs.YtlppbgmcoknliaaGreatDoor
set_option linter.unusedVariables false
open Go.RowKit

theorem own_keep {w w' : World} {B : Nat} {e : TypeId} {size : Nat} {v : Value} {n : Nat} {xs : List Value} (h : w.ownsRow B e size v n xs) (hk : ∀ k, v.ownBlock = some k → w'.heap[k]? = w.heap[k]?) : w'.ownsRow B e size v n xs := by
  refine ⟨h.1, ?_⟩
  rcases h.2 with h | ⟨g, cap, cur, rfl, hB, hg, r⟩
  · exact .inl h
  · exact .inr ⟨g, cap, cur, rfl, hB, (hk g rfl).trans hg, r⟩
theorem own_apart {w : World} {B C : Nat} {e f : TypeId} {s t : Nat} {u v : Value} {n m : Nat} {xs ys : List Value} (h : w.ownsRow B e s u n xs) (k : w.ownsRow C f t v m ys) (he : e ≠ f) {g : Nat} (hg : u.ownBlock = some g) : some g ≠ v.ownBlock := by
  rcases h.2 with ⟨rfl, _⟩ | ⟨g1, cap, cur, rfl, _, hg1, _⟩
  · simp [Value.ownBlock] at hg
  · simp only [Value.ownBlock, Option.some.injEq] at hg
    subst hg
    exact own_ne k hg1 he
theorem sl_of_own {w : World} {B : Nat} {e : TypeId} {k : Nat} {v : Value} {n : Nat} {rows : List (List Value)} (h : w.ownsRow B e k v n rows.flatten) (hl : ∀ r ∈ rows, r.length = k) (hn : rows.length = n) (hb : n ≤ 1048576) : ∃ a c, v = .slice a n c ∧ Sl w k a rows := by
  rcases h.2 with ⟨rfl, h0⟩ | ⟨g, cap, cur, rfl, _, hg, _, _, _, ht⟩
  · refine ⟨none, 0, by rw [h0], hl, by omega, .inl (List.eq_nil_of_length_eq_zero (by omega))⟩
  · refine ⟨_, _, rfl, hl, by omega, .inr ⟨g, 0, rfl, (Array.getElem?_eq_some_iff.1 hg).1, fun j r i u hj hi => ?_⟩⟩
    have h1 := flat_at hl hj hi
    rw [cell_at hg, Nat.zero_add]
    rw [← ht, List.getElem?_take] at h1
    split at h1
    · rwa [Array.getElem?_toList] at h1
    · cases h1

def sX : StructX := ⟨0, ⟨#[97]⟩, false, false, none, 0, []⟩
def tX (b : Nat) : TermX := ⟨0, 1, ⟨⟨#[]⟩, none, 0, []⟩, ⟨#[]⟩, none, 0, [], some ⟨b, 0, none⟩, 1, [⟨#[98]⟩], none, 0, []⟩
def bX (b : Nat) : BlockX := ⟨0, ⟨#[98]⟩, none, 0, [], tX b⟩
def fX (b c : Nat) : FuncX := ⟨0, ⟨#[102]⟩, none, 0, [], none, 0, [], ⟨#[105, 110, 116]⟩, some ⟨c, 0, none⟩, 1, [bX b]⟩

/-- What stands still in TreeCounts' loop. -/
structure LC where
  m : Nat
  lX : Nat
  lY : Nat
  lG : Nat
  b22 : Nat
  b43 : Nat
  vX0 : Value
  vY0 : Value
  ve1 : Value
  vf1 : Value
  vs2 : Value
  ve2 : Value
  xs : List StructX
  ys : List FuncX
  wz : World
structure LC.Good (C : LC) : Prop where
  mX : C.lX < C.m
  mY : C.lY < C.m
  mG : C.lG < C.m
  xy : C.lX ≠ C.lY
  xg : C.lX ≠ C.lG
  yg : C.lY ≠ C.lG
  m43 : C.b43 < C.m
  nX : ∀ g, C.vX0.ownBlock = some g → g ≠ C.lX ∧ g ≠ C.lY ∧ g ≠ C.lG
  nY : ∀ g, C.vY0.ownBlock = some g → g ≠ C.lX ∧ g ≠ C.lY ∧ g ≠ C.lG
def FrO (m : Nat) (v0 v : Value) : Prop := v.ownBlock = v0.ownBlock ∨ ∀ g, v.ownBlock = some g → m ≤ g
theorem FrO.ne {m : Nat} {v0 v : Value} (h : FrO m v0 v) {b : Nat} (hb : b < m) (h0 : some b ≠ v0.ownBlock) : some b ≠ v.ownBlock := by
  rcases h with h | h
  · rwa [h]
  · intro e
    have := h b e.symm
    omega
theorem FrO.next {m n : Nat} {v0 v u : Value} (h : FrO m v0 v) (hm : m ≤ n) (hl : u.ownBlock = v.ownBlock ∨ ∀ g, u.ownBlock = some g → n ≤ g) : FrO m v0 u := by
  rcases hl with hl | hl
  · exact h.imp (fun h => hl.trans h) fun h g hg => h g (hl ▸ hg)
  · exact .inr fun g hg => Nat.le_trans hm (hl g hg)
/-- TreeCounts' loop: the programs' boxes, the three slices, all else as it was. -/
structure LS (C : LC) (kx ky kg : Nat) (vX vY vG : Value) (W : World) : Prop where
  size : C.m ≤ W.heap.size
  os : W.os = C.wz.os ∧ W.tape = C.wz.tape ∧ W.output = C.wz.output
  fr : ∀ b, b < C.m → b ≠ C.lX → b ≠ C.lY → b ≠ C.lG → some b ≠ C.vX0.ownBlock → some b ≠ C.vY0.ownBlock → W.heap[b]? = C.wz.heap[b]?
  hX : W.heap[C.lX]? = some (.cells #[vX, C.ve1, C.vf1] 36 (0, 0))
  hY : W.heap[C.lY]? = some (.cells #[C.vs2, C.ve2, vY] 36 (0, 0))
  hG : W.heap[C.lG]? = some (.cells #[.int .i64 0, .string ⟨#[102]⟩, .slice none 0 0, .slice none 0 0, .string ⟨#[105, 110, 116]⟩, vG] 45 (0, 0))
  oX : W.ownsRow 0 58 5 vX (C.xs.length + kx) ((C.xs ++ List.replicate kx sX).map StructX.row).flatten
  oY : W.ownsRow 0 45 6 vY (C.ys.length + ky) ((C.ys ++ List.replicate ky (fX C.b22 C.b43)).map FuncX.row).flatten
  oG : W.ownsRow 0 64 11 vG (1 + kg) ((List.replicate (1 + kg) (bX C.b22)).map BlockX.row).flatten
  rX : FrO C.m C.vX0 vX
  rY : FrO C.m C.vY0 vY
  rG : (kg = 0 ∧ vG = .slice (some ⟨C.b43, 0, none⟩) 1 1) ∨ (0 < kg ∧ ∀ g, vG.ownBlock = some g → C.m ≤ g)

theorem LS.xne {C : LC} (hC : C.Good) {kx ky kg : Nat} {vX vY vG : Value} {W : World} (h : LS C kx ky kg vX vY vG W) {g : Nat} (hg : vX.ownBlock = some g) : g ≠ C.lX ∧ g ≠ C.lY ∧ g ≠ C.lG := by
  rcases h.rX with e | e
  · exact hC.nX g (e.symm.trans hg)
  · have := e g hg
    have := hC.mX; have := hC.mY; have := hC.mG
    omega
theorem LS.yne {C : LC} (hC : C.Good) {kx ky kg : Nat} {vX vY vG : Value} {W : World} (h : LS C kx ky kg vX vY vG W) {g : Nat} (hg : vY.ownBlock = some g) : g ≠ C.lX ∧ g ≠ C.lY ∧ g ≠ C.lG := by
  rcases h.rY with e | e
  · exact hC.nY g (e.symm.trans hg)
  · have := e g hg
    have := hC.mX; have := hC.mY; have := hC.mG
    omega
theorem LS.gne {C : LC} (hC : C.Good) {kx ky kg : Nat} {vX vY vG : Value} {W : World} (h : LS C kx ky kg vX vY vG W) (h0 : C.b43 ≠ C.lX ∧ C.b43 ≠ C.lY ∧ C.b43 ≠ C.lG) {g : Nat} (hg : vG.ownBlock = some g) : g ≠ C.lX ∧ g ≠ C.lY ∧ g ≠ C.lG := by
  rcases h.rG with ⟨_, e⟩ | ⟨_, e⟩
  · rw [e] at hg
    simp only [Value.ownBlock, Option.some.injEq] at hg
    subst hg
    exact h0
  · have := e g hg
    have := hC.mX; have := hC.mY; have := hC.mG
    omega
theorem LS.stepX {C : LC} (hC : C.Good) (h0 : C.b43 ≠ C.lX ∧ C.b43 ≠ C.lY ∧ C.b43 ≠ C.lG) {kx ky kg : Nat} {vX vY vG v : Value} {W W' : World} (h : LS C kx ky kg vX vY vG W) (hs : W.heap.size ≤ W'.heap.size) (ho : W'.os = W.os ∧ W'.tape = W.tape ∧ W'.output = W.output)
    (hk : ∀ b, b < W.heap.size → b ≠ C.lX → some b ≠ vX.ownBlock → W'.heap[b]? = W.heap[b]?) (hX : W'.heap[C.lX]? = some (.cells #[v, C.ve1, C.vf1] 36 (0, 0)))
    (oX : W'.ownsRow 0 58 5 v (C.xs.length + (kx + 1)) ((C.xs ++ List.replicate (kx + 1) sX).map StructX.row).flatten) (hl : v.ownBlock = vX.ownBlock ∨ ∀ g, v.ownBlock = some g → W.heap.size ≤ g) : LS C (kx + 1) ky kg v vY vG W' := by
  have lt : ∀ {b : Nat} {o : Obj}, W.heap[b]? = some o → b < W.heap.size := fun hb => (Array.getElem?_eq_some_iff.1 hb).1
  refine ⟨Nat.le_trans h.size hs, ⟨ho.1.trans h.os.1, ho.2.1.trans h.os.2.1, ho.2.2.trans h.os.2.2⟩, fun b h1 h2 h3 h4 h5 h6 => ?_, hX, ?_, ?_, oX, ?_, ?_, h.rX.next h.size hl, h.rY, h.rG⟩
  · rw [hk b (Nat.lt_of_lt_of_le h1 h.size) h2 (h.rX.ne h1 h5)]
    exact h.fr b h1 h2 h3 h4 h5 h6
  · rw [hk _ (lt h.hY) hC.xy.symm (own_ne h.oX h.hY (by decide))]; exact h.hY
  · rw [hk _ (lt h.hG) hC.xg.symm (own_ne h.oX h.hG (by decide))]; exact h.hG
  · exact own_keep h.oY fun k e => hk k (h.oY.lt k e).2 (h.yne hC e).1 (own_apart h.oY h.oX (by decide) e)
  · exact own_keep h.oG fun k e => hk k (h.oG.lt k e).2 (h.gne hC h0 e).1 (own_apart h.oG h.oX (by decide) e)
theorem LS.stepY {C : LC} (hC : C.Good) (h0 : C.b43 ≠ C.lX ∧ C.b43 ≠ C.lY ∧ C.b43 ≠ C.lG) {kx ky kg : Nat} {vX vY vG v : Value} {W W' : World} (h : LS C kx ky kg vX vY vG W) (hs : W.heap.size ≤ W'.heap.size) (ho : W'.os = W.os ∧ W'.tape = W.tape ∧ W'.output = W.output)
    (hk : ∀ b, b < W.heap.size → b ≠ C.lY → some b ≠ vY.ownBlock → W'.heap[b]? = W.heap[b]?) (hY : W'.heap[C.lY]? = some (.cells #[C.vs2, C.ve2, v] 36 (0, 0)))
    (oY : W'.ownsRow 0 45 6 v (C.ys.length + (ky + 1)) ((C.ys ++ List.replicate (ky + 1) (fX C.b22 C.b43)).map FuncX.row).flatten) (hl : v.ownBlock = vY.ownBlock ∨ ∀ g, v.ownBlock = some g → W.heap.size ≤ g) : LS C kx (ky + 1) kg vX v vG W' := by
  have lt : ∀ {b : Nat} {o : Obj}, W.heap[b]? = some o → b < W.heap.size := fun hb => (Array.getElem?_eq_some_iff.1 hb).1
  refine ⟨Nat.le_trans h.size hs, ⟨ho.1.trans h.os.1, ho.2.1.trans h.os.2.1, ho.2.2.trans h.os.2.2⟩, fun b h1 h2 h3 h4 h5 h6 => ?_, ?_, hY, ?_, ?_, oY, ?_, h.rX, h.rY.next h.size hl, h.rG⟩
  · rw [hk b (Nat.lt_of_lt_of_le h1 h.size) h3 (h.rY.ne h1 h6)]
    exact h.fr b h1 h2 h3 h4 h5 h6
  · rw [hk _ (lt h.hX) hC.xy (own_ne h.oY h.hX (by decide))]; exact h.hX
  · rw [hk _ (lt h.hG) hC.yg.symm fun e => (h.yne hC e.symm).2.2 rfl]; exact h.hG
  · exact own_keep h.oX fun k e => hk k (h.oX.lt k e).2 (h.xne hC e).2.1 (own_apart h.oX h.oY (by decide) e)
  · exact own_keep h.oG fun k e => hk k (h.oG.lt k e).2 (h.gne hC h0 e).2.1 (own_apart h.oG h.oY (by decide) e)
theorem LS.stepG {C : LC} (hC : C.Good) {kx ky kg : Nat} {vX vY vG v : Value} {W W' : World} (h : LS C kx ky kg vX vY vG W) (hs : W.heap.size ≤ W'.heap.size) (ho : W'.os = W.os ∧ W'.tape = W.tape ∧ W'.output = W.output)
    (hk : ∀ b, b < W.heap.size → b ≠ C.lG → (0 < kg → some b ≠ vG.ownBlock) → W'.heap[b]? = W.heap[b]?) (hG : W'.heap[C.lG]? = some (.cells #[.int .i64 0, .string ⟨#[102]⟩, .slice none 0 0, .slice none 0 0, .string ⟨#[105, 110, 116]⟩, v] 45 (0, 0)))
    (oG : W'.ownsRow 0 64 11 v (1 + (kg + 1)) ((List.replicate (1 + (kg + 1)) (bX C.b22)).map BlockX.row).flatten) (hl : (0 < kg ∧ v.ownBlock = vG.ownBlock) ∨ ∀ g, v.ownBlock = some g → W.heap.size ≤ g) : LS C kx ky (kg + 1) vX vY v W' := by
  have lt : ∀ {b : Nat} {o : Obj}, W.heap[b]? = some o → b < W.heap.size := fun hb => (Array.getElem?_eq_some_iff.1 hb).1
  refine ⟨Nat.le_trans h.size hs, ⟨ho.1.trans h.os.1, ho.2.1.trans h.os.2.1, ho.2.2.trans h.os.2.2⟩, fun b h1 h2 h3 h4 h5 h6 => ?_, ?_, ?_, hG, ?_, ?_, oG, h.rX, h.rY, ?_⟩
  · rw [hk b (Nat.lt_of_lt_of_le h1 h.size) h4 fun hp e => ?_]
    · exact h.fr b h1 h2 h3 h4 h5 h6
    · rcases h.rG with ⟨h0, _⟩ | ⟨_, h0⟩
      · omega
      · have := h0 b e.symm
        omega
  · rw [hk _ (lt h.hX) hC.xg fun _ => own_ne h.oG h.hX (by decide)]; exact h.hX
  · rw [hk _ (lt h.hY) hC.yg fun _ => own_ne h.oG h.hY (by decide)]; exact h.hY
  · exact own_keep h.oX fun k e => hk k (h.oX.lt k e).2 (h.xne hC e).2.2 fun _ => own_apart h.oX h.oG (by decide) e
  · exact own_keep h.oY fun k e => hk k (h.oY.lt k e).2 (h.yne hC e).2.2 fun _ => own_apart h.oY h.oG (by decide) e
  · rcases hl with ⟨hp, hl⟩ | hl
    · rcases h.rG with ⟨h0, _⟩ | ⟨_, h0⟩
      · omega
      · exact .inr ⟨Nat.succ_pos _, fun g hg => h0 g (hl ▸ hg)⟩
    · exact .inr ⟨Nat.succ_pos _, fun g hg => Nat.le_trans h.size (hl g hg)⟩

/-! The counts. -/
theorem all_rep {α : Type} (r : α → Bool) (x : α) (hx : r x = true) : ∀ n, (List.replicate n x).all r = true
  | 0 => rfl
  | n + 1 => by rw [List.replicate_succ, List.all_cons, hx, all_rep r x hx n]; rfl
theorem everyL_rep {α : Type} (r : α → Bool) (xs : List α) (x : α) (n : Nat) (hx : r x = true) (h : everyL 0 16 r xs = true) : everyL 0 16 r (xs ++ List.replicate n x) = decide (((xs.length + n : Nat) : Int) ≤ 16) := by
  unfold everyL at h ⊢
  rw [Bool.and_eq_true, Bool.and_eq_true] at h
  rw [List.all_append, h.2.2, all_rep r x hx, List.length_append, List.length_replicate, decide_eq_true (by omega)]
  simp
theorem sX_right : structR sX.d = true := by kernel_rfl
theorem fX_right (b c : Nat) : funcR (fX b c).d = true := by
  show funcR (fX 0 0).d = true
  kernel_rfl
theorem bX_right (b : Nat) : blockR (bX b).d = true := by
  show blockR (bX 0).d = true
  kernel_rfl
theorem progR_x (p : ProgD) (n : Nat) (h : progR p = true) : progR ⟨p.structs ++ List.replicate n sX.d, p.enums, p.funcs⟩ = decide (((p.structs.length + n : Nat) : Int) ≤ 16) := by
  unfold progR at h ⊢
  rw [Bool.and_eq_true] at h
  show (everyL 0 16 structR (p.structs ++ List.replicate n sX.d) && (everyL 0 16 enumR p.enums && everyL 0 16 funcR p.funcs)) = _
  rw [everyL_rep structR p.structs sX.d n sX_right h.1, h.2, Bool.and_true]
theorem progR_y (p : ProgD) (b c n : Nat) (h : progR p = true) : progR ⟨p.structs, p.enums, p.funcs ++ List.replicate n (fX b c).d⟩ = decide (((p.funcs.length + n : Nat) : Int) ≤ 16) := by
  unfold progR at h ⊢
  rw [Bool.and_eq_true, Bool.and_eq_true] at h
  show (everyL 0 16 structR p.structs && (everyL 0 16 enumR p.enums && everyL 0 16 funcR (p.funcs ++ List.replicate n (fX b c).d))) = _
  rw [everyL_rep funcR p.funcs (fX b c).d n (fX_right b c) h.2.2, h.1, h.2.1, Bool.true_and, Bool.true_and]
theorem progR_z (b n : Nat) : progR ⟨[], [], [⟨0, ⟨#[102]⟩, [], [], ⟨#[105, 110, 116]⟩, List.replicate (1 + n) (bX b).d⟩]⟩ = decide ((n : Int) < 64) := by
  have e1 : everyL 1 64 blockR (List.replicate (1 + n) (bX b).d) = decide ((n : Int) < 64) := by
    unfold everyL
    rw [all_rep blockR _ (bX_right b), List.length_replicate, decide_eq_true (show (1 : Int) ≤ ((1 + n : Nat) : Int) by omega), Bool.and_true, Bool.true_and]
    exact decide_eq_decide.2 (by omega)
  have e2 : funcR ⟨0, ⟨#[102]⟩, [], [], ⟨#[105, 110, 116]⟩, List.replicate (1 + n) (bX b).d⟩ = decide ((n : Int) < 64) := by
    unfold funcR
    show (nameS ⟨#[102]⟩ && (plainS ⟨#[105, 110, 116]⟩ && (everyL 0 16 (varR typeS) [] && (everyL 0 (24 - (([] : List VarD).length : Int)) (varR typeS) [] && everyL 1 64 blockR (List.replicate (1 + n) (bX b).d))))) = _
    rw [e1, show nameS ⟨#[102]⟩ = true by kernel_rfl, show plainS ⟨#[105, 110, 116]⟩ = true by kernel_rfl, show everyL 0 16 (varR typeS) [] = true by rfl, show everyL 0 (24 - (([] : List VarD).length : Int)) (varR typeS) [] = true by rfl]
    rfl
  show (everyL 0 16 structR [] && (everyL 0 16 enumR [] && everyL 0 16 funcR [_])) = _
  unfold everyL
  simp only [List.all_cons, List.all_nil, List.length_nil, List.length_cons, e2]
  simp
end Go.Proofs.YtlppbgmcoknliaaGreatDoor
