/-
  A range over an iterator whose elements lie in memory, each in a box of its own as it comes.
  The walks of the document's own Find, Block and Vars.
  The walk of TreeUses.
-/
import Derived.Test.YtlppbgmcoknliaaGreatDoorUse4
import Derived.Test.YtlppbgmcoknliaaGreatDoorFnd
import Derived.Test.YtlppbgmcoknliaaGreatDoorVrs
import Derived.Test.YtlppbgmcoknliaaGreatDoorApd
import Derived.Test.YtlppbgmcoknliaaGreatDoorKyk
import Derived.Test.YtlppbgmcoknliaaGreatDoorUse2
import Derived.Deep.RegionLaw
import Derived.Deep.RegionHeld3
import Derived.Test.YtlppbgmcoknliaaGreatDoorRPl
import Derived.Test.YtlppbgmcoknliaaGreatDoorPlQ
import Derived.Test.YtlppbgmcoknliaaGreatDoorGre
import Derived.Test.YtlppbgmcoknliaaGreatDoorRUs
import Derived.Test.YtlppbgmcoknliaaGreatDoorAlv2
import Derived.Shelf.RegionOpen
import Derived.Deep.QuietTactic
import Derived.BigQuiet
import Derived.Test.YtlppbgmcoknliaaGreatDoorEqs
namespace Go.Proofs.YtlppbgmcoknliaaGreatDoor
set_option linter.unusedVariables false
open Go.RowKit Go.Shelf

section
variable {α : Type} {n : Nat} {P : Program} {g : Operand} {ps : Array Tmp} {assign body : Code} {Q : Exit → Act → World → Prop} {a : Act} {w : World}

theorem rangeB (h1 : 1 ≤ n) {gf : Nat} {lb : Array Value} (hg : a.eval g = .func (.func gf) #[] lb) (eg : ∀ args w, (callFunc gf args).run P w = .ok (.enter gf args) w)
    {encs : α → Array Value} {A : α → World → Prop} {Kp : World → World → Prop} {S Sp : List α → Prop} {w0 : World} (hseq : SeqA (n - 1) P gf lb encs A Kp S Sp w0)
    (hKt : ∀ {A B C : World}, Kp A B → Kp B C → Kp A C) (hKb : ∀ (W : World) (l : Nat) (o o' : Obj), w.heap.size ≤ l → W.heap[l]? = some o → Kp W (W.putObj l o')) (hKw : ∀ W, Below w.heap.size w W → Kp w0 W) (hps : ∀ x, (encs x).size = ps.size)
    (hA : ∀ (x : α) (W : World) (l : Nat) (o o' : Obj), w.heap.size ≤ l → W.heap[l]? = some o → o.isCells = false → A x W → A x (W.putObj l o'))
    (hAa : ∀ (x : α) (W : World) (o' : Obj), A x W → A x (W.alloc o')) (hKa : ∀ (W : World) (o' : Obj), w.heap.size ≤ W.heap.size → Kp W (W.alloc o')) (ob : α → Obj)
    (I : List α → World → Prop) (Ix : Code → List α → World → Prop) (hI : OwnFrom w.heap.size I) (hIx : ∀ c, OwnFrom w.heap.size (Ix c)) (h0 : I [] w) (a₁ : α → Nat → Act)
    (hassign : ∀ (l : Nat) (x : α) (W : World) (K : Act → World → Prop), K (a₁ x W.heap.size) (W.alloc (ob x)) →
      assign.wpIn (Fence.wide.inRound l) (n - 1 - 1) P (Exit.then K (fun _ _ _ => False)) { tmps := (ps.zip (encs x)).foldl (fun t (p, v) => t.setIfInBounds p v) a.tmps, defers := [] } W)
    (hbody : ∀ (l : Nat) (pre : List α) (x : α) (B : Nat) (W : World), I pre W → Sp (pre ++ [x]) → A x W → w.heap.size ≤ B → W.heap[B]? = some (ob x) → body.wpIn (Fence.wide.inRound l) (n - 1 - 1) P (ownPostK Kp I Ix (pre ++ [x]) W) (a₁ x B) W)
    (hdone : ∀ (D : Nat) (xs : List α) (W : World), w.heap.size ≤ D → S xs → I xs W → W.heap[D]? = some (.deferred (some [])) → Q .normal { a with defers := { target := .collected D, args := #[] } :: a.defers } W)
    (hstop : ∀ (D : Nat) (c : Code) (pre : List α) (W : World), w.heap.size ≤ D → Sp pre → Ix c pre W → W.heap[D]? = some (.deferred (some [])) → c.wpIn Fence.wide n P Q { a with defers := { target := .collected D, args := #[] } :: a.defers } W) :
    (Code.rangeFunc g ps assign body).wpIn Fence.wide n P Q a w := by
  refine wpIn_rangeFunc ?_
  intro fn hfn
  let rc : LoopState → Option Code → Obj := fun st pe => .loop { state := st, pending := pe, fn := fn, tmps := a.tmps, params := ps, assign := assign, body := body, defers := w.heap.size }
  obtain ⟨D, hD⟩ : ∃ D, D = w.heap.size := ⟨_, rfl⟩
  obtain ⟨r, hr⟩ : ∃ r, r = w.heap.size + 1 := ⟨_, rfl⟩
  obtain ⟨W1, hW1⟩ : ∃ W1, W1 = (w.alloc (.deferred (some []))).alloc (rc .ready none) := ⟨_, rfl⟩
  have hr1 : W1.heap[r]? = some (rc .ready none) := by
    rw [hW1, hr]
    have := World.alloc_heap_new (w.alloc (.deferred (some []))) (rc .ready none)
    rwa [World.size_alloc] at this
  have hD1 : W1.heap[D]? = some (.deferred (some [])) := by
    rw [hW1, hD]
    exact (Below.heap_alloc _ _ _ (by simp)).trans (World.alloc_heap_new w _)
  have hb1 : Below w.heap.size w W1 := by
    rw [hW1]
    exact ((Below.refl _ w).alloc (Nat.le_refl _) _).alloc (by simp) _
  have hs1 : w.heap.size ≤ W1.heap.size := hb1.size
  have hI1 : I [] W1 := by rw [hW1]; exact hI.alloc _ (hI.alloc _ h0)
  have hne : D ≠ r := by omega
  refine ⟨r, [{ target := .collected D, args := #[] }], W1, { target := .fn (.func gf) lb, args := #[.func (.yield r) #[] #[]] }, W1, gf, #[.func (.yield r) #[] #[]] ++ lb, W1, ?_, ?_, fun f' _ => trivial, ?_, fun _ => h1, ?_⟩
  · rw [hW1, hr, hD]
    exact run_enterLoop_outer _ _ _ _ _
  · simp only [resolve, hg]
    simp [go_sem]
  · simp [invoke, go_sem, eg]
  refine (hseq r (fun pre W => I pre W ∧ W.heap[r]? = some (rc .ready none) ∧ W.heap[D]? = some (.deferred (some [])))
    (fun pre W => ∃ c, Ix c pre W ∧ W.heap[r]? = some (rc .done (some c)) ∧ W.heap[D]? = some (.deferred (some []))) W1 (hKw W1 hb1) ?_ ?_ ⟨hI1, hr1, hD1⟩).mono ?_
  · rintro s W W' row ⟨hi, hl, hd⟩ hgr hro
    exact ⟨hI s W W' row hi hgr (fun q e => by obtain ⟨hB, o, ho, hw⟩ := hro q e; exact ⟨Nat.le_trans hs1 hB, o, ho, Obj.not_cells_of_walk hw⟩), (grownBy_keeps hgr (fun q e => (hro q e).2) hl rfl).trans hl, (grownBy_keeps hgr (fun q e => (hro q e).2) hd rfl).trans hd⟩
  · rintro pre x W ⟨hi, hl, hd⟩ hsp hax
    have hlt : r < W.heap.size := (Array.getElem?_eq_some_iff.1 hl).1
    have hlta : r < (W.alloc (ob x)).heap.size := by rw [World.size_alloc]; omega
    have hla : (W.alloc (ob x)).heap[r]? = some (rc .ready none) := (Below.heap_alloc _ _ _ (by omega)).trans hl
    have hda : (W.alloc (ob x)).heap[D]? = some (.deferred (some [])) := (Below.heap_alloc _ _ _ (by have := (Array.getElem?_eq_some_iff.1 hd).1; omega)).trans hd
    have hWs : w.heap.size ≤ W.heap.size := by omega
    refine ⟨fn, _, assign, body, run_yield (P := P) (args := encs x) hl (hps x), roundIn_of_wpIn hfn (hassign _ x W _ ⟨_, run_beginRound hla rfl, ?_⟩)⟩
    have hb : ((W.alloc (ob x)).putObj r (rc .busy none)).heap[r]? = some (rc .busy none) := World.putObj_heap_same hlta
    have hbd : ((W.alloc (ob x)).putObj r (rc .busy none)).heap[D]? = some (.deferred (some [])) := (World.putObj_heap_other hne).trans hda
    have hbo : ((W.alloc (ob x)).putObj r (rc .busy none)).heap[W.heap.size]? = some (ob x) := (World.putObj_heap_other (by omega)).trans (World.alloc_heap_new W (ob x))
    have hk2 : Kp W ((W.alloc (ob x)).putObj r (rc .busy none)) := hKt (hKa W _ hWs) (hKb _ _ _ _ (by omega) hla)
    refine wpIn_mono (hbody r pre x W.heap.size _ (hI.putObj _ (hI.alloc _ hi) (by omega) hla rfl) hsp (hA x _ r _ _ (by omega) hla rfl (hAa x W _ hax)) hWs hbo) ?_
    have behind : ∀ (st : LoopState) (jump : Option Code) (W3 : World), KeepsOthers ((W.alloc (ob x)).putObj r (rc .busy none)) W3 →
        W3.heap[r]? = some (rc .busy none) ∧ (W3.putObj r (rc st jump)).heap[r]? = some (rc st jump) ∧ (W3.putObj r (rc st jump)).heap[D]? = some (.deferred (some [])) := fun st jump W3 hk => by
      have e1 := hk.same _ _ hb rfl
      exact ⟨e1, World.putObj_heap_same (Array.getElem?_eq_some_iff.1 e1).1, (World.putObj_heap_other hne).trans (hk.same _ _ hbd rfl)⟩
    rintro e a3 W3 hp
    cases e with
    | normal =>
      obtain ⟨hk, hkp, hi3⟩ := hp
      obtain ⟨e1, e2, e3⟩ := behind .ready none W3 hk
      exact ⟨_, _, run_endRound (P := P) none e1, .inl ⟨rfl, ⟨hI.putObj _ hi3 (by omega) e1 rfl, e2, e3⟩, hKt (hKt hk2 hkp) (hKb _ _ _ _ (by omega) e1)⟩⟩
    | ret =>
      obtain ⟨hk, hi3⟩ := hp
      obtain ⟨e1, e2, e3⟩ := behind .done (some .ret) W3 hk
      exact ⟨_, _, run_endRound (P := P) (some .ret) e1, .inr ⟨rfl, ⟨.ret, (hIx _).putObj _ hi3 (by omega) e1 rfl, e2, e3⟩⟩⟩
    | exit i =>
      obtain ⟨hk, hi3⟩ := hp
      obtain ⟨e1, e2, e3⟩ := behind .done (some (.exit i)) W3 hk
      exact ⟨_, _, run_endRound (P := P) (some (.exit i)) e1, .inr ⟨rfl, ⟨.exit i, (hIx _).putObj _ hi3 (by omega) e1 rfl, e2, e3⟩⟩⟩
    | goto t =>
      obtain ⟨hk, hi3⟩ := hp
      obtain ⟨e1, e2, e3⟩ := behind .done (some (.goto t)) W3 hk
      exact ⟨_, _, run_endRound (P := P) (some (.goto t)) e1, .inr ⟨rfl, ⟨.goto t, (hIx _).putObj _ hi3 (by omega) e1 rfl, e2, e3⟩⟩⟩
    | panic ch => exact hp.elim
    | outgrown => exact hp.elim
  · rintro e W2 ⟨⟨v, rfl⟩, (⟨xs, hS, hi, hl, hd⟩ | ⟨pre, hSp, c, hi, hl, hd⟩)⟩
    · exact ⟨none, _, run_endLoop (P := P) hl (by simp), hdone D xs _ (by omega) hS (hI.putObj _ hi (by omega) hl rfl) ((World.putObj_heap_other (by omega)).trans hd)⟩
    · exact ⟨some c, _, run_endLoop (P := P) hl (by simp), hstop D c pre _ (by omega) hSp ((hIx c).putObj _ hi (by omega) hl rfl) ((World.putObj_heap_other (by omega)).trans hd)⟩
end
end Go.Proofs.YtlppbgmcoknliaaGreatDoor
namespace Go.Proofs.YtlppbgmcoknliaaGreatDoor
set_option linter.unusedVariables false
open Go.RowKit

set_option maxHeartbeats 1000000 in
set_option maxRecDepth 100000 in
theorem docfind_any (a : Option Addr) (xs : List VarD) (c : Nat) (s : ByteArray) (w : World) (h1 : Vrs w a xs) :
    Calls Tryz.prog 31 #[.slice a xs.length c, .string s] w fun e w' => e = .returned (.int .i64 (idxL (fun v => bq v.name s) xs)) ∧ Below w.heap.size w w' := by
  have n1 := h1.big
  rw [List.length_map] at n1
  have H1 := hidIt h1
  obtain ⟨n, hn⟩ : ∃ n, xs.length = n := ⟨_, rfl⟩
  rw [hn] at n1 ⊢
  have hn1 := hidIt hn
  clear hn h1
  obtain ⟨R, hR0⟩ : ∃ R, idxL (fun v => bq v.name s) xs = R := ⟨_, rfl⟩
  rw [hR0]
  have hR := hidIt hR0
  clear hR0
  go_enter Tryz.func31, Tryz.ntmps31
  go_wp2
  go_loopg [4, 5] n (fun gg _ s5 wr => ∃ k : Nat, k ≤ n ∧ n - k ≤ gg ∧ s5 = .int .i64 k ∧ wr = w ∧ Hid (∀ (j : Nat) (x : VarD), j < k → xs[j]? = some x → bq x.name s = false))
  case atStart => exact ⟨0, Nat.zero_le _, by omega, rfl, rfl, hidIt fun j x hj => absurd hj (Nat.not_lt_zero _)⟩
  case round =>
    obtain ⟨k, hk, hg, rfl, rfl, A⟩ := hrel
    by_cases hlt : k < n
    · obtain ⟨x, hx⟩ : ∃ x, xs[k]? = some x := ⟨_, List.getElem?_eq_getElem (by rw [hn1.out]; exact hlt)⟩
      obtain ⟨b1, o1, rfl, z1, g1⟩ := H1.out.cells (j := k) (r := x.row) (by rw [List.getElem?_map, hx]; rfl)
      have Hx := hidIt hx
      have p0 := g1 wr (Below.refl _ _) 0 _ rfl
      rw [Nat.add_zero] at p0
      clear g1 hx z1
      cases hq : bq x.name s with
      | true =>
        obtain rfl : (k : Int) = R := (idxL_hit Hx.out hq A.out).symm.trans hR.out
        have hq2 : (x.name.toList == s.toList) = true := hq
        clear hq
        go_wp2_with fail
        go_ret
        exact ⟨rfl, Below.refl _ _⟩
      | false =>
        have hq2 : (x.name.toList == s.toList) = false := hq
        have HQ := hidIt hq
        clear hq
        go_wp2_with fail
        go_roundg (n - (k + 1))
        case measure => omega
        case rel =>
          refine ⟨k + 1, by omega, by omega, by go_num, rfl, hidIt fun j u hj hu => ?_⟩
          by_cases e : j = k
          · subst e
            obtain rfl : x = u := Option.some.inj (Hx.out.symm.trans hu)
            exact HQ.out
          · exact A.out j u (by omega) hu
    · have : k = n := by omega
      subst this
      obtain rfl : (-1 : Int) = R := by
        refine (idxL_none fun j x hj => A.out j x ?_ hj).symm.trans hR.out
        have := (List.getElem?_eq_some_iff.1 hj).1
        rw [hn1.out] at this
        exact this
      go_wp2
      go_ret
      exact ⟨rfl, Below.refl _ _⟩

set_option maxHeartbeats 1000000 in
set_option maxRecDepth 100000 in
theorem docblock_any (f : FuncX) (s : ByteArray) (w : World) (h1 : f.At w) :
    Calls Tryz.prog 33 #[.agg #[.int .i64 f.at_, .string f.name, .slice f.pa f.params.length f.pc, .slice f.la f.locals.length f.lc, .string f.result, .slice f.ba f.blocks.length f.bc], .string s] w fun e w' => e = .returned (.int .i64 (idxL (fun v => bq v.name s) f.blocks)) ∧ Below w.heap.size w w' := by
  obtain ⟨at_, nm, pa, pc, params, la, lc, locals, res, ba, bc, xs⟩ := f
  have H1 : Hid (Bls w ba xs) := hidIt h1.2.2
  have n1 : xs.length ≤ 1048576 := by have := H1.out.1.big; rwa [List.length_map] at this
  simp only
  obtain ⟨n, hn⟩ : ∃ n, xs.length = n := ⟨_, rfl⟩
  rw [hn] at n1 ⊢
  have hn1 := hidIt hn
  clear hn h1
  obtain ⟨R, hR0⟩ : ∃ R, idxL (fun v => bq v.name s) xs = R := ⟨_, rfl⟩
  rw [hR0]
  have hR := hidIt hR0
  clear hR0
  have hb := hidIt (below_new w (.cells #[.int .i64 at_, .string nm, .slice pa params.length pc, .slice la locals.length lc, .string res, .slice ba n bc] 45))
  have HH := hidIt (heap_alloc_new w (.cells #[.int .i64 at_, .string nm, .slice pa params.length pc, .slice la locals.length lc, .string res, .slice ba n bc] 45))
  go_enter Tryz.func33, Tryz.ntmps33
  go_wp2_with fail
  generalize w.alloc (.cells #[.int .i64 at_, .string nm, .slice pa params.length pc, .slice la locals.length lc, .string res, .slice ba n bc] 45) = W0 at hb HH ⊢
  go_loopg [4, 5] n (fun gg _ s5 wr => ∃ k : Nat, k ≤ n ∧ n - k ≤ gg ∧ s5 = .int .i64 k ∧ wr = W0 ∧ Hid (∀ (j : Nat) (x : BlockX), j < k → xs[j]? = some x → bq x.name s = false))
  case atStart => exact ⟨0, Nat.zero_le _, by omega, rfl, rfl, hidIt fun j x hj => absurd hj (Nat.not_lt_zero _)⟩
  case round =>
    obtain ⟨k, hk, hg, rfl, rfl, A⟩ := hrel
    have p5 : wr.cell? ⟨w.heap.size, 5, none⟩ = some (.slice ba n bc) := cell_at HH.out 5
    by_cases hlt : k < n
    · obtain ⟨x, hx⟩ : ∃ x, xs[k]? = some x := ⟨_, List.getElem?_eq_getElem (by rw [hn1.out]; exact hlt)⟩
      obtain ⟨b1, o1, rfl, g1⟩ := Sl.cell H1.out.1 (j := k) (r := x.row) (by rw [List.getElem?_map, hx]; rfl)
      have Hx := hidIt hx
      have p0 := g1 wr hb.out 1 _ rfl
      clear g1 hx
      cases hq : bq x.name s with
      | true =>
        obtain rfl : (k : Int) = R := (idxL_hit Hx.out hq A.out).symm.trans hR.out
        have hq2 : (x.name.toList == s.toList) = true := hq
        clear hq
        go_wp2_with fail
        go_ret
        exact ⟨rfl, hb.out⟩
      | false =>
        have hq2 : (x.name.toList == s.toList) = false := hq
        have HQ := hidIt hq
        clear hq
        go_wp2_with fail
        go_roundg (n - (k + 1))
        case measure => omega
        case rel =>
          refine ⟨k + 1, by omega, by omega, by go_num, rfl, hidIt fun j u hj hu => ?_⟩
          by_cases e : j = k
          · subst e
            obtain rfl : x = u := Option.some.inj (Hx.out.symm.trans hu)
            exact HQ.out
          · exact A.out j u (by omega) hu
    · have : k = n := by omega
      subst this
      obtain rfl : (-1 : Int) = R := by
        refine (idxL_none fun j x hj => A.out j x ?_ hj).symm.trans hR.out
        have := (List.getElem?_eq_some_iff.1 hj).1
        rw [hn1.out] at this
        exact this
      go_wp2
      go_ret
      exact ⟨rfl, hb.out⟩

/-- append(v, x...), v the call's own, x any slice whose rows lie in memory: as one step of a region. -/
theorem step_append_sl {P : Program} {ops : Array Oper} {o : Oper} {a : Act} (w : World) {K : Act → World → Prop} {Q : Exit → Act → World → Prop} {E : Prop} (hgd : o.guard = none) (s x : Operand) (t : TypeId)
    (ho : o.op = .call { callee := .builtin .append, args := #[s, x], argTypes := #[t, t] })
    (base : Nat) (e : TypeId) (i : TypeInfo) (z : Value) (size bytes : Nat) (ht : P.underlying t = some (.slice e)) (hi : P.info? e = some i) (hz : i.zero = some z)
    (hsize : i.size = size) (hby : i.bytes = bytes) (hzs : z.cells.size = size) (hsz : 0 < size)
    (v : Value) (n : Nat) (xs : List Value) (hs : a.eval s = v) (hown : w.ownsRow base e size v n xs)
    (ao : Option Addr) (m c : Nat) (rows : List (List Value)) (hm : rows.length = m) (hx : a.eval x = .slice ao m c) (hsl : Sl w size ao rows) (h1 : ∀ u ∈ rows.flatten, u.oneCell' = true)
    (h63 : n + m ≤ maxLen) (hbytes : (n + m) * bytes ≤ 140737488355328) (hbase : base ≤ w.heap.size)
    (h : ∀ v' w', w'.ownsRow base e size v' (n + m) (xs ++ rows.flatten) → w.grownBy w' v.ownBlock → K (a.put o.dst v') w') :
    if Region.wanted o (yielded ops a.tmps) = true then Oper.wp P o a w K Q else E := by
  have hw : Region.wanted o (yielded ops a.tmps) = true := by simp [Region.wanted, hgd]
  rw [if_pos hw]
  cases ao with
  | none =>
    have e0 : rows = [] := by
      rcases hsl.at_ with h0 | ⟨b, off, e, _⟩
      · exact h0
      · cases e
    subst e0
    obtain rfl : 0 = m := hm
    have hrun := run_append_none (P := P) (w := w) base t o.type e i size ht hi v n c xs hown
    unfold Oper.wp
    simp [execOp, ho, resolve, invoke, builtin, hs, hx, hrun, Result.andThen]
    exact h v w (by simpa using hown) ⟨rfl, rfl, rfl, Nat.le_refl _, fun _ _ _ => rfl⟩
  | some p =>
    refine wp_append_own w s x t ho base e i z size bytes ht hi hz hsize hby hzs hsz v n xs hs hown p m c rows.flatten hx (by rw [flat_len hsl.len, hm]) (fun j u hj => ?_) h1 h63 hbytes hbase fun v' w' h1 h2 _ => h v' w' h1 h2
    rcases hsl.at_ with h0 | ⟨b, off, e, hlt, hc⟩
    · rw [h0] at hj; simp at hj
    · cases e
      obtain ⟨j1, r, i1, hj1, hi1, e1⟩ := flat_of hsl.len hj
      rw [Addr.add_lit, e1, ← Nat.add_assoc]
      exact hc j1 r i1 u hj1 hi1

theorem own_fresh {W : World} {B base : Nat} (h : W.heap[B]? = some (.cells #[] 52 (0, 0))) (hB : base ≤ B) : W.ownsRow base 52 2 (.slice (some ⟨B, 0, none⟩) 0 0) 0 [] :=
  ⟨rfl, .inr ⟨B, 0, #[], rfl, hB, h, Nat.le_refl _, Nat.zero_le _, rfl, rfl⟩⟩
set_option maxHeartbeats 2000000 in
set_option maxRecDepth 100000 in
theorem docvars_any (f : FuncX) (w : World) (hf : f.At w) (hsum : f.params.length + f.locals.length ≤ 1048576) :
    Calls Tryz.prog 29 #[.agg #[.int .i64 f.at_, .string f.name, .slice f.pa f.params.length f.pc, .slice f.la f.locals.length f.lc, .string f.result, .slice f.ba f.blocks.length f.bc]] w fun e w' => ∃ a' c', e = .returned (.slice a' (f.params ++ f.locals).length c') ∧ Vrs w' a' (f.params ++ f.locals) ∧ Below w.heap.size w w' := by
  obtain ⟨at_, nm, pa, pc, ps, la, lc, ls, res, ba, bc, bs⟩ := f
  have HP : Hid (Vrs w pa ps) := hidIt hf.1
  have HL : Hid (Vrs w la ls) := hidIt hf.2.1
  simp only at hsum ⊢
  clear hf
  obtain ⟨np, hnp⟩ : ∃ n, ps.length = n := ⟨_, rfl⟩
  obtain ⟨nl, hnl⟩ : ∃ n, ls.length = n := ⟨_, rfl⟩
  rw [hnp, hnl] at hsum
  have HLL : Hid ((ps ++ ls).length = np + nl) := hidIt (by rw [List.length_append, hnp, hnl])
  rw [hnp, hnl, HLL.out]
  have HNP := hidIt hnp
  have HNL := hidIt hnl
  clear hnp hnl
  have hb := hidIt (below_new w (.cells #[.int .i64 at_, .string nm, .slice pa np pc, .slice la nl lc, .string res, .slice ba bs.length bc] 45))
  have HH := hidIt (heap_alloc_new w (.cells #[.int .i64 at_, .string nm, .slice pa np pc, .slice la nl lc, .string res, .slice ba bs.length bc] 45))
  obtain ⟨i0, hi, hz0, hz1, hz2⟩ := infoV
  have hm1 : (0 + np) * i0.bytes ≤ 1048576 * 1000 := Nat.mul_le_mul (by omega) hz2
  have hm2 : (0 + np + nl) * i0.bytes ≤ 1048576 * 1000 := Nat.mul_le_mul (by omega) hz2
  go_enter Tryz.func29, Tryz.ntmps29
  go_upto_region 1 with fail
  generalize w.alloc (.cells #[.int .i64 at_, .string nm, .slice pa np pc, .slice la nl lc, .string res, .slice ba bs.length bc] 45) = W0 at hb HH ⊢
  have p2 : W0.cell? ⟨w.heap.size, 2, none⟩ = some (.slice pa np pc) := cell_at HH.out 2
  have p3 : W0.cell? ⟨w.heap.size, 3, none⟩ = some (.slice la nl lc) := cell_at HH.out 3
  have sw : W0.cell? ⟨w.heap.size, 2, none⟩ = some (.slice pa np pc) ∧ W0.cell? ⟨w.heap.size, 3, none⟩ = some (.slice la nl lc) := ⟨p2, p3⟩
  have hlt : w.heap.size < W0.heap.size := (Array.getElem?_eq_some_iff.1 HH.out).1
  have hne : w.heap.size ≠ W0.heap.size := by omega
  have FB : Hid (Below W0.heap.size W0 (W0.alloc (.cells #[] 52)).drew) := hidIt (below_new W0 _).drew
  have HO0 : Hid ((W0.alloc (.cells #[] 52)).drew.ownsRow w.heap.size 52 2 (.slice (some ⟨W0.heap.size, 0, none⟩) 0 0) 0 []) := hidIt (own_fresh (heap_alloc_new W0 (.cells #[] 52)) hb.out.size)
  have HSZ : Hid (w.heap.size ≤ (W0.alloc (.cells #[] 52)).drew.heap.size) := hidIt (Nat.le_trans hb.out.size FB.out.size)
  clear p2 p3
  go_region_held3 (fun W => W.cell? ⟨w.heap.size, 2, none⟩ = some (.slice pa np pc) ∧ W.cell? ⟨w.heap.size, 3, none⟩ = some (.slice la nl lc)) (go_keep) (first
    | (refine step_append_sl _ rfl (.tmp 3) (.tmp 5) 42 rfl w.heap.size 52 i0 _ 2 i0.bytes Tryz.underlying42 hi hz0 hz1 rfl rfl (by decide) (.slice (some ⟨W0.heap.size, 0, none⟩) 0 0) 0 [] rfl HO0.out pa np pc (ps.map VarD.row) (by rw [List.length_map, HNP.out]) rfl (HP.out.on (below_next hb.out FB.out)) (hone ps) (by unfold maxLen; omega) (by omega) HSZ.out ?_
       intro v1 w1 ho1 hg1
       have BW := hidIt ((below_next hb.out FB.out).grown hg1 HSZ.out fun k hk => (HO0.out.lt k hk).1)
       have HH1 : Hid (w1.heap[w.heap.size]? = some (.cells #[.int .i64 at_, .string nm, .slice pa np pc, .slice la nl lc, .string res, .slice ba bs.length bc] 45 (0, 0))) := hidIt ((hg1.block _ (Nat.lt_of_lt_of_le hlt FB.out.size) (own_ne HO0.out (heap_on HH.out FB.out) (by decide))).trans (heap_on HH.out FB.out))
       have sS : w1.cell? ⟨w.heap.size, 2, none⟩ = some (.slice pa np pc) ∧ w1.cell? ⟨w.heap.size, 3, none⟩ = some (.slice la nl lc) := ⟨cell_at HH1.out 2, cell_at HH1.out 3⟩
       have HO1 := hidIt ho1
       have HSZ1 : Hid (w.heap.size ≤ w1.heap.size) := hidIt BW.out.size
       clear ho1 hg1)
    | (refine step_append_sl _ rfl (.tmp 6) (.tmp 8) 42 rfl w.heap.size 52 i0 _ 2 i0.bytes Tryz.underlying42 hi hz0 hz1 rfl rfl (by decide) v1 (0 + np) ([] ++ (ps.map VarD.row).flatten) rfl HO1.out la nl lc (ls.map VarD.row) (by rw [List.length_map, HNL.out]) rfl (HL.out.on BW.out) (hone ls) (by unfold maxLen; omega) (by omega) HSZ1.out ?_
       intro v2 w2 ho2 hg2
       have BW2 := hidIt (BW.out.grown hg2 HSZ1.out fun k hk => (HO1.out.lt k hk).1)
       have HO2 := hidIt ho2
       have HH2 : Hid (w2.heap[w.heap.size]? = some (.cells #[.int .i64 at_, .string nm, .slice pa np pc, .slice la nl lc, .string res, .slice ba bs.length bc] 45 (0, 0))) := hidIt ((hg2.block _ (Array.getElem?_eq_some_iff.1 HH1.out).1 (own_ne HO1.out HH1.out (by decide))).trans HH1.out)
       have sS : w2.cell? ⟨w.heap.size, 2, none⟩ = some (.slice pa np pc) ∧ w2.cell? ⟨w.heap.size, 3, none⟩ = some (.slice la nl lc) := ⟨cell_at HH2.out 2, cell_at HH2.out 3⟩
       clear ho2 hg2))
  obtain ⟨a', c', hv, _, hown⟩ := Own.of (w := w2) (v := v2) (rows := (ps ++ ls).map VarD.row) (k := 2) (B := w.heap.size) (ty := 52) (fun r hr => by obtain ⟨z, _, rfl⟩ := List.mem_map.1 hr; rfl) (by rw [List.length_map, HLL.out]; exact hsum) (by
    have h := HO2.out
    rw [List.length_map, HLL.out, List.map_append, List.flatten_append]
    simpa using h)
  rw [List.length_map, HLL.out] at hv
  subst hv
  have HV : Hid (Vrs w2 a' (ps ++ ls)) := hidIt hown.sl
  clear hown
  go_wp2
  go_ret
  exact ⟨a', c', rfl, HV.out, BW2.out⟩
end Go.Proofs.YtlppbgmcoknliaaGreatDoor
namespace Go.Proofs.YtlppbgmcoknliaaGreatDoor
set_option linter.unusedVariables false
open Go.RowKit Go.Shelf
attribute [local go_sem] Oper.semAt_some

/-- A program that has one function alone. -/
def oneX (B : Nat) (f : FuncX) : ProgX := ⟨none, 0, [], none, 0, [], some ⟨B, 0, none⟩, 1, [f]⟩
theorem sl_fn {W : World} {B : Nat} {f : FuncX} (h : W.heap[B]? = some (.cells f.row.toArray 45 (0, 0))) : Sl W 6 (some ⟨B, 0, none⟩) ([f].map FuncX.row) := by
  refine ⟨fun r hr => ?_, by simp, .inr ⟨B, 0, rfl, (Array.getElem?_eq_some_iff.1 h).1, fun j r i v hj hi => ?_⟩⟩
  · cases List.mem_singleton.1 hr; rfl
  · cases j with
    | succ j => simp at hj
    | zero =>
      simp at hj
      subst hj
      rw [cell_at h, show 0 + 0 * 6 + i = i by omega, List.getElem?_toArray]
      exact hi
theorem one_ok {W : World} {B : Nat} {f : FuncX} (h : W.heap[B]? = some (.cells f.row.toArray 45 (0, 0))) (hf : f.Ok W) : (oneX B f).Ok W :=
  ⟨⟨⟨Sl.nil, fun x hx => by cases hx⟩, ⟨Sl.nil, fun x hx => by cases hx⟩, sl_fn h, fun x hx => by cases List.mem_singleton.1 hx; exact hf.1⟩, fun x hx => by cases List.mem_singleton.1 hx; exact hf, Nat.le_refl _, Nat.le_refl _, Nat.le_refl _⟩

/-- What stands in memory towards the end. -/
structure UM (w : World) (D : Nat) (q0 q1 q2 q3 q4 q5 : Value) (va wa : Option Addr) (vl : List VarD) (W : World) : Prop where
  bel : Below w.heap.size w W
  box : W.heap[w.heap.size]? = some (.cells #[q0, q1, q2, q3, q4, q5] 45 (0, 0))
  res : W.heap[w.heap.size + 1]? = some (.cells #[.bool false] 4 (0, 0))
  dd : W.heap[D]? = some (.deferred (some []))
  v1 : Vrs W va vl
  v2 : Vrs W wa vl
theorem UM.on {w W W' : World} {D : Nat} {q0 q1 q2 q3 q4 q5 : Value} {va wa : Option Addr} {vl : List VarD} (h : UM w D q0 q1 q2 q3 q4 q5 va wa vl W) (hb : Below W.heap.size W W') : UM w D q0 q1 q2 q3 q4 q5 va wa vl W' :=
  ⟨below_next h.bel hb, heap_on h.box hb, heap_on h.res hb, heap_on h.dd hb, Vrs.on h.v1 hb, Vrs.on h.v2 hb⟩
theorem UM.cells {w W : World} {D : Nat} {q0 q1 q2 q3 q4 q5 : Value} {va wa : Option Addr} {vl : List VarD} (h : UM w D q0 q1 q2 q3 q4 q5 va wa vl W) : W.cell? ⟨w.heap.size, 0, none⟩ = some q0 ∧ W.cell? ⟨w.heap.size, 1, none⟩ = some q1 ∧ W.cell? ⟨w.heap.size, 2, none⟩ = some q2 ∧ W.cell? ⟨w.heap.size, 3, none⟩ = some q3 ∧ W.cell? ⟨w.heap.size, 4, none⟩ = some q4 ∧ W.cell? ⟨w.heap.size, 5, none⟩ = some q5 ∧ W.cell? ⟨w.heap.size + 1, 0, none⟩ = some (.bool false) ∧ W.frozen? ⟨w.heap.size + 1, 0, none⟩ = false :=
  ⟨cell_at h.box 0, cell_at h.box 1, cell_at h.box 2, cell_at h.box 3, cell_at h.box 4, cell_at h.box 5, cell_at h.res 0, frozen_at h.res 0⟩

/-- What there is to call, at one function. -/
structure UC (w : World) (f : FuncX) (s : ByteArray) (g : Bool) (np nl nb : Nat) (vl : List VarD) (vn : Nat) : Prop where
  great : ∀ W B, Below w.heap.size w W → W.heap[B]? = some (.cells #[.int .i64 f.at_, .string f.name, .slice f.pa np f.pc, .slice f.la nl f.lc, .string f.result, .slice f.ba nb f.bc] 45 (0, 0)) → Calls Tryz.prog 19 #[.agg #[.slice none 0 0, .slice none 0 0, .slice (some ⟨B, 0, none⟩) 1 1]] W fun e w' => e = .returned (.bool g) ∧ Below W.heap.size W w'
  ruses : ∀ W, Below w.heap.size w W → Calls Tryz.prog 26 #[.agg #[.int .i64 f.at_, .string f.name, .slice f.pa np f.pc, .slice f.la nl f.lc, .string f.result, .slice f.ba nb f.bc]] W (RUPost W (fnUX f))
  uses : ∀ W, Below w.heap.size w W → Calls Tryz.prog 27 #[.agg #[.int .i64 f.at_, .string f.name, .slice f.pa np f.pc, .slice f.la nl f.lc, .string f.result, .slice f.ba nb f.bc]] W fun e w' => ∃ Bn ps, e = .returned (.func (.func 74) #[] #[.pointer (some ⟨Bn, 0, none⟩)]) ∧ US W.heap.size Bn ps w' ∧ ps.map PlaceX.d = fnU f ∧ Below W.heap.size W w'
  vars : ∀ W, Below w.heap.size w W → Calls Tryz.prog 28 #[.agg #[.int .i64 f.at_, .string f.name, .slice f.pa np f.pc, .slice f.la nl f.lc, .string f.result, .slice f.ba nb f.bc]] W fun e w' => ∃ a' c', e = .returned (.slice a' vn c') ∧ Vrs w' a' vl ∧ Below W.heap.size W w'
  dvars : ∀ W, Below w.heap.size w W → Calls Tryz.prog 29 #[.agg #[.int .i64 f.at_, .string f.name, .slice f.pa np f.pc, .slice f.la nl f.lc, .string f.result, .slice f.ba nb f.bc]] W fun e w' => ∃ a' c', e = .returned (.slice a' vn c') ∧ Vrs w' a' vl ∧ Below W.heap.size W w'
  block : ∀ W, Below w.heap.size w W → Calls Tryz.prog 32 #[.agg #[.int .i64 f.at_, .string f.name, .slice f.pa np f.pc, .slice f.la nl f.lc, .string f.result, .slice f.ba nb f.bc], .string s] W fun e w' => e = .returned (.int .i64 (idxL (fun v => bq v.name s) f.blocks)) ∧ Below W.heap.size W w'
  dblock : ∀ W, Below w.heap.size w W → Calls Tryz.prog 33 #[.agg #[.int .i64 f.at_, .string f.name, .slice f.pa np f.pc, .slice f.la nl f.lc, .string f.result, .slice f.ba nb f.bc], .string s] W fun e w' => e = .returned (.int .i64 (idxL (fun v => bq v.name s) f.blocks)) ∧ Below W.heap.size W w'
theorem uc_of (f : FuncX) (s : ByteArray) (w : World) (hf : f.Ok w) (hz : f.d.sz + 1 ≤ 1048576) : UC w f s (greatB ⟨[], [], [f.d]⟩) f.params.length f.locals.length f.blocks.length (f.params ++ f.locals) (f.params ++ f.locals).length := by
  have hN : fnN f ≤ 1048576 := by have := fnN_le f; omega
  have hS : f.params.length + f.locals.length ≤ 1048576 := by
    have h1 := szL_len (l := f.d.params) (g := VarD.sz) (fun x _ => x.pos)
    have h2 := szL_len (l := f.d.locals) (g := VarD.sz) (fun x _ => x.pos)
    have e1 : f.d.params = f.params := rfl
    have e2 : f.d.locals = f.locals := rfl
    rw [e1] at h1
    rw [e2] at h2
    have h3 : szL VarD.sz f.params + szL VarD.sz f.locals ≤ f.d.sz := by unfold FuncD.sz; rw [e1, e2]; omega
    omega
  exact ⟨fun W B hW hB => great_any (oneX B f) W (one_ok hB (hf.on hW)) (by show szL StructD.sz [] + szL EnumD.sz [] + (f.d.sz + 0) + 1 ≤ _; have e1 : szL StructD.sz [] = 0 := rfl; have e2 : szL EnumD.sz [] = 0 := rfl; omega),
    fun W hW => ruses_any f W (hf.1.on hW) hN, fun W hW => uses_any f W (hf.1.on hW) hN,
    fun W hW => (vars_any f W (hf.1.on hW) hS).mono fun e w' ⟨a, c, h1, h2, _, h3⟩ => ⟨a, c, h1, h2, h3⟩,
    fun W hW => docvars_any f W (hf.1.on hW) hS, fun W hW => block_any f s W (hf.1.on hW), fun W hW => docblock_any f s W (hf.1.on hW)⟩

set_option maxRecDepth 100000 in
set_option maxHeartbeats 40000000 in
theorem treeuses_in (n : Nat) (hn : Hid (3 ≤ n)) (f : FuncX) (s : ByteArray) (w : World) (g : Bool) (np nl nb : Nat) (vl : List VarD) (vn : Nat) (HU : Hid (UC w f s g np nl nb vl vn)) (HVN : Hid (vl.length = vn)) (hbig : fnN f ≤ 1048576) (hvl : vn ≤ 1048576) :
    CallsIn Fence.wide n Tryz.prog 6 #[.agg #[.int .i64 f.at_, .string f.name, .slice f.pa np f.pc, .slice f.la nl f.lc, .string f.result, .slice f.ba nb f.bc], .string s] w fun e w' => e = .returned (.bool true) ∧ Below w.heap.size w w' := by
  refine callsIn_of_wp_marks Tryz.func6 rfl trivial ?_ rfl
  simp only [Tryz.ntmps6, List.size_toArray, List.length_cons, List.length_nil, Nat.reduceAdd, Nat.reduceSub, Array.replicate_succ, Array.replicate_zero, List.push_toArray, List.append_toArray, List.nil_append, List.cons_append]
  obtain ⟨at_, nm, pa, pc, params, la, lc, locals, res, ba, bc, blocks⟩ := f
  simp only
  obtain ⟨hh1, hh2⟩ := two_at (w := w) (cs := #[.int .i64 at_, .string nm, .slice pa np pc, .slice la nl lc, .string res, .slice ba nb bc]) (ds := #[.bool false]) (t := 45) (u := 4) rfl rfl (Below.refl _ _)
  have HF := hidIt hh1
  have HR := hidIt hh2
  have HB := hidIt (below_next (below_new w (.cells #[.int .i64 at_, .string nm, .slice pa np pc, .slice la nl lc, .string res, .slice ba nb bc] 45 (0, 0))) (below_new _ (.cells #[.bool false] 4)))
  clear hh1 hh2
  gi_wp2_with fail
  refine at_wide ((alive_any _).mono ?_)
  rintro e w1 ⟨rfl, hq⟩
  have HF := hidIt (heap_on HF.out hq)
  have HR := hidIt (heap_on HR.out hq)
  have HB := hidIt (below_next HB.out hq)
  clear hq
  have c0 : w1.cell? ⟨w.heap.size, 0, none⟩ = some (.int .i64 at_) := cell_at HF.out 0
  have c1 : w1.cell? ⟨w.heap.size, 1, none⟩ = some (.string nm) := cell_at HF.out 1
  have c2 : w1.cell? ⟨w.heap.size, 2, none⟩ = some (.slice pa np pc) := cell_at HF.out 2
  have c3 : w1.cell? ⟨w.heap.size, 3, none⟩ = some (.slice la nl lc) := cell_at HF.out 3
  have c4 : w1.cell? ⟨w.heap.size, 4, none⟩ = some (.string res) := cell_at HF.out 4
  have c5 : w1.cell? ⟨w.heap.size, 5, none⟩ = some (.slice ba nb bc) := cell_at HF.out 5
  gi_wp2_with fail
  have HB3 := hidIt (below_next HB.out (below_new w1 (.cells #[.int .i64 at_, .string nm, .slice pa np pc, .slice la nl lc, .string res, .slice ba nb bc] 45 (0, 0))))
  have HF3 := hidIt (heap_on HF.out (below_new w1 (.cells #[.int .i64 at_, .string nm, .slice pa np pc, .slice la nl lc, .string res, .slice ba nb bc] 45 (0, 0))))
  have HR3 := hidIt (heap_on HR.out (below_new w1 (.cells #[.int .i64 at_, .string nm, .slice pa np pc, .slice la nl lc, .string res, .slice ba nb bc] 45 (0, 0))))
  refine at_wide ((HU.out.great _ _ HB3.out (heap_alloc_new w1 (.cells #[.int .i64 at_, .string nm, .slice pa np pc, .slice la nl lc, .string res, .slice ba nb bc] 45 (0, 0)))).mono ?_)
  rintro e w2 ⟨rfl, hq⟩
  have HF := hidIt (heap_on HF3.out hq)
  have HR := hidIt (heap_on HR3.out hq)
  have HB := hidIt (below_next HB3.out hq)
  clear hq c0 c1 c2 c3 c4 c5 HB3 HF3 HR3
  cases g with
  | true =>
    have r0 : w2.cell? ⟨w.heap.size + 1, 0, none⟩ = some (.bool false) := cell_at HR.out 0
    have z0 : w2.frozen? ⟨w.heap.size + 1, 0, none⟩ = false := frozen_at HR.out 0
    have hc5 : (w2.setCell ⟨w.heap.size + 1, 0, none⟩ (.bool true)).cell? ⟨w.heap.size + 1, 0, none⟩ = some (.bool true) := World.cell?_setCell_same' w2 _ (.bool true) (by rw [r0]; rfl)
    have HC5 := hidIt hc5
    clear hc5
    gi_wp2_with fail
    refine ⟨.bool true, ?_, rfl, HB.out.setCell (p := ⟨w.heap.size + 1, 0, none⟩) (Nat.le_succ _) _⟩
    have hc5 := HC5.out
    simp [results, Tryz.f6, go_sem, hc5]
  | false =>
    have c0 : w2.cell? ⟨w.heap.size, 0, none⟩ = some (.int .i64 at_) := cell_at HF.out 0
    have c1 : w2.cell? ⟨w.heap.size, 1, none⟩ = some (.string nm) := cell_at HF.out 1
    have c2 : w2.cell? ⟨w.heap.size, 2, none⟩ = some (.slice pa np pc) := cell_at HF.out 2
    have c3 : w2.cell? ⟨w.heap.size, 3, none⟩ = some (.slice la nl lc) := cell_at HF.out 3
    have c4 : w2.cell? ⟨w.heap.size, 4, none⟩ = some (.string res) := cell_at HF.out 4
    have c5 : w2.cell? ⟨w.heap.size, 5, none⟩ = some (.slice ba nb bc) := cell_at HF.out 5
    gi_wp2_with fail
    refine at_wide ((HU.out.ruses _ HB.out).mono ?_)
    rintro e w3 ⟨vu, rfl, hru⟩
    have hq := hru.bel
    have ulen : (fnUX ⟨at_, nm, pa, pc, params, la, lc, locals, res, ba, bc, blocks⟩).length ≤ 1048576 := by
      have e : (fnUX ⟨at_, nm, pa, pc, params, la, lc, locals, res, ba, bc, blocks⟩).length = (fnU ⟨at_, nm, pa, pc, params, la, lc, locals, res, ba, bc, blocks⟩).length := by rw [← fnUX_d, List.length_map]
      rw [e]
      exact Nat.le_trans (flat_le blU_le blocks) hbig
    have UD : Hid ((fnUX ⟨at_, nm, pa, pc, params, la, lc, locals, res, ba, bc, blocks⟩).map PlaceX.d = fnU ⟨at_, nm, pa, pc, params, la, lc, locals, res, ba, bc, blocks⟩) := hidIt (fnUX_d _)
    have HUA : Hid (∀ p ∈ fnUX ⟨at_, nm, pa, pc, params, la, lc, locals, res, ba, bc, blocks⟩, p.At w2) := hidIt hru.at_
    obtain ⟨us, hus⟩ : ∃ us, fnUX ⟨at_, nm, pa, pc, params, la, lc, locals, res, ba, bc, blocks⟩ = us := ⟨_, rfl⟩
    rw [hus] at hru ulen UD HUA
    clear hus
    obtain ⟨ua, uc, rfl, _, hown⟩ := Own.of (w := w3) (rows := us.map PlaceX.row) (k := 2) (fun r hr => by obtain ⟨z, _, rfl⟩ := List.mem_map.1 hr; rfl) (by rw [List.length_map]; exact ulen) (by rw [List.length_map]; exact hru.own)
    rw [List.length_map]
    have HSL : Hid (Sl w3 2 ua (us.map PlaceX.row)) := hidIt hown.sl
    have HUA : Hid (∀ p ∈ us, p.At w3) := hidIt fun p hp => (HUA.out p hp).on hq
    clear hown hru c0 c1 c2 c3 c4 c5
    obtain ⟨nu, hnu⟩ : ∃ n, us.length = n := ⟨_, rfl⟩
    rw [hnu] at ulen ⊢
    have HNU := hidIt hnu
    clear hnu
    have HF := hidIt (heap_on HF.out hq)
    have HR := hidIt (heap_on HR.out hq)
    have HB := hidIt (below_next HB.out hq)
    clear hq
    have hL1 := hidIt (below_new w3 (.cells #[.slice ua nu uc] 46))
    have HL := hidIt (heap_alloc_new w3 (.cells #[.slice ua nu uc] 46))
    have HLZ : Hid ((w3.alloc (.cells #[.slice ua nu uc] 46)).heap.size = w3.heap.size + 1) := hidIt (World.size_alloc _ _)
    have HF := hidIt (heap_on HF.out hL1.out)
    have HR := hidIt (heap_on HR.out hL1.out)
    have HB := hidIt (below_next HB.out hL1.out)
    have HSA := hidIt (Sl.on HSL.out hL1.out)
    have HUA : Hid (∀ p ∈ us, p.At (w3.alloc (.cells #[.slice ua nu uc] 46))) := hidIt fun p hp => (HUA.out p hp).on hL1.out
    have hI1 := hidIt (below_new (w3.alloc (.cells #[.slice ua nu uc] 46)) (.cells #[.int .i64 0] 3))
    have HI : Hid (((w3.alloc (.cells #[.slice ua nu uc] 46)).alloc (.cells #[.int .i64 0] 3)).heap[w3.heap.size + 1]? = some (.cells #[.int .i64 0] 3 (0, 0))) := hidIt (by rw [← HLZ.out]; exact heap_alloc_new (w3.alloc (.cells #[.slice ua nu uc] 46)) _)
    have HF4 := hidIt (heap_on HF.out hI1.out)
    have c0 : ((w3.alloc (.cells #[.slice ua nu uc] 46)).alloc (.cells #[.int .i64 0] 3)).cell? ⟨w.heap.size, 0, none⟩ = some (.int .i64 at_) := cell_at HF4.out 0
    have c1 : ((w3.alloc (.cells #[.slice ua nu uc] 46)).alloc (.cells #[.int .i64 0] 3)).cell? ⟨w.heap.size, 1, none⟩ = some (.string nm) := cell_at HF4.out 1
    have c2 : ((w3.alloc (.cells #[.slice ua nu uc] 46)).alloc (.cells #[.int .i64 0] 3)).cell? ⟨w.heap.size, 2, none⟩ = some (.slice pa np pc) := cell_at HF4.out 2
    have c3 : ((w3.alloc (.cells #[.slice ua nu uc] 46)).alloc (.cells #[.int .i64 0] 3)).cell? ⟨w.heap.size, 3, none⟩ = some (.slice la nl lc) := cell_at HF4.out 3
    have c4 : ((w3.alloc (.cells #[.slice ua nu uc] 46)).alloc (.cells #[.int .i64 0] 3)).cell? ⟨w.heap.size, 4, none⟩ = some (.string res) := cell_at HF4.out 4
    have c5 : ((w3.alloc (.cells #[.slice ua nu uc] 46)).alloc (.cells #[.int .i64 0] 3)).cell? ⟨w.heap.size, 5, none⟩ = some (.slice ba nb bc) := cell_at HF4.out 5
    gi_wp2_with fail
    clear c0 c1 c2 c3 c4 c5 HF4 hL1 HSL
    obtain ⟨BL, eBL⟩ : ∃ B, B = w3.heap.size := ⟨_, rfl⟩
    rw [← eBL] at HL HI HLZ ⊢
    clear eBL
    generalize (w3.alloc (.cells #[.slice ua nu uc] 46)) = wL at *
    have HBW := hidIt (below_next HB.out hI1.out)
    have SZ4 : Hid ((wL.alloc (.cells #[.int .i64 0] 3)).heap.size = BL + 2) := hidIt (by rw [World.size_alloc, HLZ.out])
    generalize wL.alloc (.cells #[.int .i64 0] 3) = w4 at *
    refine at_wide ((HU.out.uses _ HBW.out).mono ?_)
    rintro e w5 ⟨Bn, ps, rfl, hUS, hpd, hq⟩
    have HUS := hidIt hUS
    have HW := hidIt (below_next hI1.out hq)
    have HI := hidIt (heap_on HI.out hq)
    have HLN : Hid (ps.map PlaceX.d = us.map PlaceX.d) := hidIt (hpd.trans UD.out.symm)
    have HSZ : Hid (w4.heap.size ≤ w5.heap.size) := hidIt hq.size
    clear hUS hpd hq hI1 HBW
    gi_wp2_with fail
    have hSeq := uses1_seq (n - 1) Bn w4.heap.size ps w5 HUS.out
    have h1n : 1 ≤ n := by have := hn.out; omega
    apply rangeB (n := n) h1n (gf := 74) (lb := #[.pointer (some ⟨Bn, 0, none⟩)]) rfl (enters_of Tryz.func74 (by kernel_rfl) rfl) hSeq KpR.t (KpR.put (w := w5) (Nat.le_refl _)) (fun W hW => KpR.below hW (Nat.le_refl _)) (fun _ => rfl) (fun x W l o o' _ hl hc h => St.put h o' hl hc)
      (fun x W o' h => PlaceX.At.on h (below_new W o')) (fun W o' h => KpR.below (below_new W o') h) (fun x => .cells #[.string x.loc, .slice x.sa x.steps.length x.sc] 24)
      (fun pre W => (W.cell? ⟨BL + 1, 0, none⟩ = some (.int .i64 pre.length) ∧ W.frozen? ⟨BL + 1, 0, none⟩ = false) ∧ Below wL.heap.size wL W)
      (fun _ _ _ => False)
      (OwnFrom.and (Own.from (fun s A B row hs hg hr => ⟨cell_kept hs.1 hg hr, (frozen_kept hs.1 hg hr).trans hs.2⟩) _) (ownFrom_below (Nat.le_refl _) HW.out.size))
      (fun _ _ _ _ _ hs _ _ => hs)
      ⟨⟨cell_at HI.out 0, frozen_at HI.out 0⟩, HW.out⟩
    case hassign =>
      intro l x W K hK
      obtain ⟨B, eB⟩ : ∃ B, B = W.heap.size := ⟨_, rfl⟩
      rw [← eB] at hK
      have HK := hidIt hK
      clear hK
      simp only [encP]
      gi_wp2
      rw [← eB]
      exact HK.out
    case hbody =>
      rintro l pre x B W ⟨⟨hc, hf⟩, hB⟩ hsp hax hBs hBo
      have hpf : pre.map PlaceX.d ++ [x.d] <+: us.map PlaceX.d := by have := hsp; rwa [List.map_append, HLN.out] at this
      have hlt : pre.length < nu := by
        have h1 := hpf.length_le
        rw [List.length_append, List.length_map, List.length_map, List.length_singleton, HNU.out] at h1
        omega
      obtain ⟨y, hy⟩ : ∃ y, us[pre.length]? = some y := ⟨_, List.getElem?_eq_getElem (by rw [HNU.out]; exact hlt)⟩
      have hxy : x.d = y.d := by
        obtain ⟨t, ht⟩ := hpf
        have h1 : (pre.map PlaceX.d ++ [x.d] ++ t)[pre.length]? = some x.d := by
          rw [List.append_assoc, List.getElem?_append_right (by rw [List.length_map]; exact Nat.le_refl _), List.length_map, Nat.sub_self]
          rfl
        rw [ht, List.getElem?_map, hy] at h1
        exact (Option.some.inj h1).symm
      have CE : Hid (∀ V, Below W.heap.size W V → Calls Tryz.prog 12 #[.agg #[.string x.loc, .slice x.sa x.steps.length x.sc], .agg #[.string y.loc, .slice y.sa y.steps.length y.sc]] V fun e w' => e = .returned (.bool true) ∧ Below V.heap.size V w') := hidIt fun V hV => by
        have h := requal_place x y V (hax.on hV) (((HUA.out y (List.mem_of_getElem? hy)).on hB).on hV)
        rw [hxy, show placeQ y.d y.d = true from placeQ_iff.2 rfl] at h
        exact h
      obtain ⟨b1, o1, rfl, g1⟩ := Sl.cell HSA.out (j := pre.length) (r := y.row) (by rw [List.getElem?_map, hy]; rfl)
      have q0 := g1 W hB 0 _ rfl
      have q1 := g1 W hB 1 _ rfl
      rw [Nat.add_zero] at q0
      have l0 : W.cell? ⟨BL, 0, none⟩ = some (.slice (some ⟨b1, o1, none⟩) nu uc) := cell_at (heap_on HL.out hB) 0
      have x0 : W.cell? ⟨B, 0, none⟩ = some (.string x.loc) := cell_at hBo 0
      have x1 : W.cell? ⟨B, 1, none⟩ = some (.slice x.sa x.steps.length x.sc) := cell_at hBo 1
      have HBW := hidIt hB
      have HCF := hidIt (And.intro hc hf)
      have HXB : Hid (w5.heap.size < W.heap.size) := hidIt (Nat.lt_of_le_of_lt hBs (Array.getElem?_eq_some_iff.1 hBo).1)
      have HLT : Hid (w4.heap.size = BL + 2 ∧ wL.heap.size = BL + 1) := hidIt ⟨SZ4.out, HLZ.out⟩
      obtain ⟨k, hk⟩ : ∃ k, pre.length = k := ⟨_, rfl⟩
      have PLEN : Hid ((pre ++ [x]).length = k + 1) := hidIt (by rw [List.length_append, List.length_singleton, hk])
      rw [hk] at hlt q0 q1 hc HCF
      have hge : decide ((nu : Int) ≤ (k : Int)) = false := decide_eq_false (by omega)
      have hki : (k : Int) < (nu : Int) := by omega
      have hF12 : Fence.wide.fn 12 := trivial
      have hfo : Tryz.prog.follows .mixedOrders = true := by kernel_rfl
      have h1m : 1 ≤ n - 1 - 1 := by have := hn.out; omega
      clear hSeq hpf hy hxy hsp hax hB hf hBs hBo g1 hk HUS HF HR HL HI HLN
      gi_wp2_with fail
      gi_region_with_o (gi_at_call 12; refine CallsIn.mono (CallsIn.inRound l (callsIn_wide.2 (CE.out _ (Below.refl _ _).drew))) ?_; rintro e y ⟨rfl, hq⟩)
      all_goals (
        have hBy : Below W.heap.size W y := below_next (Below.refl _ W).drew hq
        have HY := hidIt hBy
        clear hq hBy CE l0 x0 x1 q0 q1
        have i0 : y.cell? ⟨BL + 1, 0, none⟩ = some (.int .i64 k) := (HY.out.cell (p := ⟨BL + 1, 0, none⟩) (World.block_lt_of_cell? W _ HCF.out.1)).trans HCF.out.1
        have f0 : y.frozen? ⟨BL + 1, 0, none⟩ = false := (HY.out.frozen (p := ⟨BL + 1, 0, none⟩) (World.block_lt_of_cell? W _ HCF.out.1)).trans HCF.out.2
        have HI0 := hidIt (And.intro i0 f0)
        gi_wp2_with fail
        refine ⟨KeepsOthers.trans ⟨HY.out.size, fun _ _ h _ => heap_on h HY.out⟩ (KeepsOthers.setCell _ _ _), ⟨?_, fun k h1 h2 => ?_⟩, ⟨?_, ?_⟩, ?_⟩
        · have h := HY.out.size; simpa [World.setCell] using h
        · rw [Below.heap_setCell _ _ _ _ (show k ≠ BL + 1 by have := HLT.out.1; omega)]
          exact HY.out.block k (Nat.lt_trans h2 HXB.out)
        · rw [PLEN.out]
          exact World.cell?_setCell_same' _ _ _ (by rw [HI0.out.1]; rfl)
        · rw [World.frozen?_setCell]
          exact HI0.out.2
        · exact (below_next HBW.out HY.out).setCell (p := ⟨BL + 1, 0, none⟩) (show wL.heap.size ≤ BL + 1 by rw [HLT.out.2]; exact Nat.le_refl _) _)
    case hdone =>
      rintro D xs W hD hS ⟨⟨hc, hf⟩, hB⟩ hK
      have hx : xs.length = nu := by
        have := congrArg List.length (hS.trans HLN.out)
        rw [List.length_map, List.length_map, HNU.out] at this
        exact this
      rw [hx] at hc
      have HN := hidIt hc
      have HDW : Hid (w.heap.size ≤ D) := hidIt (Nat.le_trans (Nat.le_trans HB.out.size HW.out.size) hD)
      have HK := hidIt hK
      have HF := hidIt (heap_on HF.out hB)
      have HR := hidIt (heap_on HR.out hB)
      have HL := hidIt (heap_on HL.out hB)
      have HB := hidIt (below_next HB.out hB)
      clear hc hf hK hS hx hSeq HW h1n hD HSA HUA HUS HI HLN hB
      have c0 : W.cell? ⟨w.heap.size, 0, none⟩ = some (.int .i64 at_) := cell_at HF.out 0
      have c1 : W.cell? ⟨w.heap.size, 1, none⟩ = some (.string nm) := cell_at HF.out 1
      have c2 : W.cell? ⟨w.heap.size, 2, none⟩ = some (.slice pa np pc) := cell_at HF.out 2
      have c3 : W.cell? ⟨w.heap.size, 3, none⟩ = some (.slice la nl lc) := cell_at HF.out 3
      have c4 : W.cell? ⟨w.heap.size, 4, none⟩ = some (.string res) := cell_at HF.out 4
      have c5 : W.cell? ⟨w.heap.size, 5, none⟩ = some (.slice ba nb bc) := cell_at HF.out 5
      gi_wp2_with fail
      refine at_wide ((HU.out.vars _ HB.out).mono ?_)
      rintro e w6 ⟨va, vc, rfl, hv, hq⟩
      have HV := hidIt hv
      have HN := hidIt ((hq.cell (p := ⟨BL + 1, 0, none⟩) (World.block_lt_of_cell? _ _ HN.out)).trans HN.out)
      have HF := hidIt (heap_on HF.out hq)
      have HR := hidIt (heap_on HR.out hq)
      have HL := hidIt (heap_on HL.out hq)
      have HK := hidIt (heap_on HK.out hq)
      have HB := hidIt (below_next HB.out hq)
      clear hv hq c0 c1 c2 c3 c4 c5
      have c0 : w6.cell? ⟨w.heap.size, 0, none⟩ = some (.int .i64 at_) := cell_at HF.out 0
      have c1 : w6.cell? ⟨w.heap.size, 1, none⟩ = some (.string nm) := cell_at HF.out 1
      have c2 : w6.cell? ⟨w.heap.size, 2, none⟩ = some (.slice pa np pc) := cell_at HF.out 2
      have c3 : w6.cell? ⟨w.heap.size, 3, none⟩ = some (.slice la nl lc) := cell_at HF.out 3
      have c4 : w6.cell? ⟨w.heap.size, 4, none⟩ = some (.string res) := cell_at HF.out 4
      have c5 : w6.cell? ⟨w.heap.size, 5, none⟩ = some (.slice ba nb bc) := cell_at HF.out 5
      gi_wp2_with fail
      refine at_wide ((HU.out.dvars _ HB.out).mono ?_)
      rintro e w7 ⟨wa, wc, rfl, hv, hq⟩
      have HV2 := hidIt hv
      have HV := hidIt (Vrs.on HV.out hq)
      have n0 : w7.cell? ⟨BL + 1, 0, none⟩ = some (.int .i64 nu) := (hq.cell (p := ⟨BL + 1, 0, none⟩) (World.block_lt_of_cell? _ _ HN.out)).trans HN.out
      have HF := hidIt (heap_on HF.out hq)
      have HR := hidIt (heap_on HR.out hq)
      have HL := hidIt (heap_on HL.out hq)
      have HK := hidIt (heap_on HK.out hq)
      have HB := hidIt (below_next HB.out hq)
      have l0 : w7.cell? ⟨BL, 0, none⟩ = some (.slice ua nu uc) := cell_at HL.out 0
      clear hv hq HN c0 c1 c2 c3 c4 c5
      gi_wp2_with fail
      clear l0 n0 HL HN
      rename_i K5 hK5
      have HK5 := hidIt hK5
      clear hK5
      refine wpIn_wide.2 ?_
      go_loopg [10] vn (fun g s10 wr => ∃ k : Nat, k ≤ vn ∧ vn - k ≤ g ∧ s10 = .int .i64 k ∧ Hid (Below w7.heap.size w7 wr))
      case atStart => exact ⟨0, Nat.zero_le _, by omega, rfl, hidIt (Below.refl _ _)⟩
      case round =>
        obtain ⟨k, hk, hg, rfl, HBR⟩ := hrel
        by_cases hlt : k < vn
        · as_aux_lemma =>
          obtain ⟨x, hx⟩ : ∃ x, vl[k]? = some x := ⟨_, List.getElem?_eq_getElem (by rw [HVN.out]; exact hlt)⟩
          obtain ⟨b1, o1, rfl, g1⟩ := Sl.cell HV.out (j := k) (r := x.row) (by rw [List.getElem?_map, hx]; rfl)
          obtain ⟨b2, o2, rfl, g2⟩ := Sl.cell HV2.out (j := k) (r := x.row) (by rw [List.getElem?_map, hx]; rfl)
          have p0 := g1 wr HBR.out 0 _ rfl
          have p1 := g1 wr HBR.out 1 _ rfl
          rw [Nat.add_zero] at p0
          have q0 := g2 wr HBR.out 0 _ rfl
          have q1 := g2 wr HBR.out 1 _ rfl
          rw [Nat.add_zero] at q0
          clear g1 g2 hx
          have hne := neq_var x x
          have hgd := fun op a b w => grd_var op a b x x w
          have hvq : varQ x x = true := by unfold varQ; rw [bq_refl, bq_refl]; rfl
          rw [hvq] at hne
          clear hvq
          go_wp2_with fail
          go_quiet (fail)
          go_wp2
          go_roundg (vn - (k + 1))
          case measure => omega
          case rel => exact ⟨k + 1, by omega, by omega, by go_num, hidIt (below_next HBR.out (below_drewN _ _))⟩
        · have : k = vn := by omega
          subst this
          as_aux_lemma =>
          have HF := hidIt (heap_on HF.out HBR.out)
          have HR := hidIt (heap_on HR.out HBR.out)
          have HK := hidIt (heap_on HK.out HBR.out)
          have HB := hidIt (below_next HB.out HBR.out)
          have HV := hidIt (Vrs.on HV.out HBR.out)
          have HV2 := hidIt (Vrs.on HV2.out HBR.out)
          clear HBR
          go_wp2_with fail
          refine HK5.out _ _ ?_
          clear HK5
          gi_wp2_with fail
          have MI : Hid (UM w D (.int .i64 at_) (.string nm) (.slice pa np pc) (.slice la nl lc) (.string res) (.slice ba nb bc) va wa vl wr) := hidIt ⟨HB.out, HF.out, HR.out, HK.out, HV.out, HV2.out⟩
          clear HB HF HR HK HV HV2
          obtain ⟨FX, hFX⟩ : ∃ X, idxL (fun v => bq v.name s) vl = X := ⟨_, rfl⟩
          obtain ⟨BX, hBX⟩ : ∃ X, idxL (fun v => bq v.name s) blocks = X := ⟨_, rfl⟩
          have C30 : Hid (∀ W, Vrs W va vl → Calls Tryz.prog 30 #[.slice va k vc, .string s] W fun e w' => e = .returned (.int .i64 FX) ∧ Below W.heap.size W w') := hidIt fun W hW => by
            have h := find_any va vl vc s W hW
            rwa [HVN.out, hFX] at h
          have C31 : Hid (∀ W, Vrs W wa vl → Calls Tryz.prog 31 #[.slice wa k wc, .string s] W fun e w' => e = .returned (.int .i64 FX) ∧ Below W.heap.size W w') := hidIt fun W hW => by
            have h := docfind_any wa vl wc s W hW
            rwa [HVN.out, hFX] at h
          have C32 : Hid (∀ W, Below w.heap.size w W → Calls Tryz.prog 32 #[.agg #[.int .i64 at_, .string nm, .slice pa np pc, .slice la nl lc, .string res, .slice ba nb bc], .string s] W fun e w' => e = .returned (.int .i64 BX) ∧ Below W.heap.size W w') := hidIt fun W hW => by
            have h := HU.out.block W hW
            rwa [hBX] at h
          have C33 : Hid (∀ W, Below w.heap.size w W → Calls Tryz.prog 33 #[.agg #[.int .i64 at_, .string nm, .slice pa np pc, .slice la nl lc, .string res, .slice ba nb bc], .string s] W fun e w' => e = .returned (.int .i64 BX) ∧ Below W.heap.size W w') := hidIt fun W hW => by
            have h := HU.out.dblock W hW
            rwa [hBX] at h
          clear hFX hBX
          rename_i K6 hK6
          have HK6 := hidIt hK6
          clear hK6
          refine wpIn_mono (Q := Exit.then K6 (fun _ _ _ => False)) ?_ (fun e a w h => by cases e <;> first | exact h | exact h.elim)
          refine wpIn_wide.2 ?_
          obtain ⟨c0, c1, c2, c3, c4, c5, r0, z0⟩ := MI.out.cells
          have MI := hidIt (MI.out.on (Below.refl _ _).drew)
          go_region_with (first
            | (go_at_call 30; refine (C30.out _ MI.out.v1).mono ?_; rintro e y ⟨rfl, hq⟩; have MI := hidIt (MI.out.on hq); clear hq c0 c1 c2 c3 c4 c5 r0 z0; obtain ⟨c0, c1, c2, c3, c4, c5, r0, z0⟩ := MI.out.cells)
            | (go_at_call 31; refine (C31.out _ MI.out.v2).mono ?_; rintro e y ⟨rfl, hq⟩; have MI := hidIt (MI.out.on hq); clear hq c0 c1 c2 c3 c4 c5 r0 z0; obtain ⟨c0, c1, c2, c3, c4, c5, r0, z0⟩ := MI.out.cells)
            | (go_at_call 32; refine (C32.out _ MI.out.bel).mono ?_; rintro e y ⟨rfl, hq⟩; have MI := hidIt (MI.out.on hq); clear hq c0 c1 c2 c3 c4 c5 r0 z0; obtain ⟨c0, c1, c2, c3, c4, c5, r0, z0⟩ := MI.out.cells)
            | (go_at_call 33; refine (C33.out _ MI.out.bel).mono ?_; rintro e y ⟨rfl, hq⟩; have MI := hidIt (MI.out.on hq); clear hq c0 c1 c2 c3 c4 c5 r0 z0; obtain ⟨c0, c1, c2, c3, c4, c5, r0, z0⟩ := MI.out.cells))
          all_goals (
            refine HK6.out _ _ ?_
            clear HK6
            gi_wp2_with fail
            have hne : D ≠ w.heap.size + 1 := fun e => by
              have h1 := MI.out.dd
              rw [e, MI.out.res] at h1
              cases h1
            have hK' := set_ne (i := 0) (v := .bool true) MI.out.dd hne
            have hc5 := cell_kept (World.cell?_setCell_same' y ⟨w.heap.size + 1, 0, none⟩ (.bool true) (by rw [r0]; rfl)) (grownBy_putObj' _ D (.deferred none)) (fun r e => by cases e; exact ⟨_, hK', rfl⟩)
            refine ⟨by simp, .inl ⟨_, _, rfl, run_takeDeferred hK', ?_⟩⟩
            refine ⟨.bool true, ?_, rfl, (MI.out.bel.setCell (p := ⟨w.heap.size + 1, 0, none⟩) (Nat.le_succ _) _).trans (belowK_b (w := w) (Nat.le_refl _) _ D _ _ HDW.out hK' rfl rfl)⟩
            simp [results, Tryz.f6, go_sem, hc5])
    case hstop =>
      rintro D c pre W _ _ h _
      exact h.elim
theorem treeuses_any (f : FuncX) (s : ByteArray) (w : World) (hf : f.Ok w) (hz : f.d.sz + 1 ≤ 1048576) :
    Calls Tryz.prog 6 #[.agg f.row.toArray, .string s] w fun e w' => e = .returned (.bool true) ∧ Below w.heap.size w w' := by
  have hS : (f.params ++ f.locals).length ≤ 1048576 := by
    have h1 := szL_len (l := f.d.params) (g := VarD.sz) (fun x _ => x.pos)
    have h2 := szL_len (l := f.d.locals) (g := VarD.sz) (fun x _ => x.pos)
    have e1 : f.d.params = f.params := rfl
    have e2 : f.d.locals = f.locals := rfl
    rw [e1] at h1
    rw [e2] at h2
    have h3 : szL VarD.sz f.params + szL VarD.sz f.locals ≤ f.d.sz := by unfold FuncD.sz; rw [e1, e2]; omega
    rw [List.length_append]
    omega
  exact callsIn_wide.1 (treeuses_in 3 (hidIt (Nat.le_refl _)) f s w _ _ _ _ _ _ (hidIt (uc_of f s w hf hz)) (hidIt rfl) (by have := fnN_le f; omega) hS)
end Go.Proofs.YtlppbgmcoknliaaGreatDoor
