/-
  Is a program more than is looked at: as data. No walk here.
  The walk of Great: is a program more than is looked at?
-/
import Derived.Test.YtlppbgmcoknliaaGreatDoorKyk
import Derived.Test.YtlppbgmcoknliaaGreatDoorUse4
import Derived.Test.YtlppbgmcoknliaaGreatDoorKy4
import Derived.Test.YtlppbgmcoknliaaGreatDoorRUs
import Derived.Deep.QuietTactic
import Derived.BigQuiet
namespace Go.Proofs.YtlppbgmcoknliaaGreatDoor
set_option linter.unusedVariables false
open Go.RowKit

def stUd (s : StmtD) : List PlaceD := s.args ++ toD s.to
def blUd (b : BlockD) : List PlaceD := b.stmts.flatMap stUd ++ (b.term.args ++ toD b.term.to)
def fnUd (f : FuncD) : List PlaceD := f.blocks.flatMap blUd
theorem blUd_d (b : BlockX) : blUd b.d = blU b := by
 unfold blUd blU BlockX.d TermX.d
 rw [List.flatMap_map]
 rfl
theorem fnUd_d (f : FuncX) : fnUd f.d = fnU f := by
 unfold fnUd fnU FuncX.d
 simp only [List.flatMap_map]
 exact congrArg (fun g => f.blocks.flatMap g) (funext blUd_d)

/-- How many of each. -/
def stepN (p : PlaceD) : Nat := p.steps.length
def argN (s : StmtD) : Nat := s.args.length
def bl1 (b : BlockD) : Nat := b.stmts.length + b.term.args.length + b.term.blocks.length + b.term.arms.length
def blC (b : BlockD) : Nat := bl1 b + szL argN b.stmts
def fn1 (f : FuncD) : Nat := f.params.length + f.locals.length + f.blocks.length
def fnC (f : FuncD) : Nat := fn1 f + szL blC f.blocks + szL stepN (fnUd f)
def suN (s : StructD) : Nat := s.fields.length
def enN (s : EnumD) : Nat := s.variants.length
def pr1 (p : ProgD) : Nat := p.structs.length + p.enums.length + p.funcs.length
def prC (p : ProgD) : Nat := pr1 p + szL suN p.structs + szL enN p.enums + szL fnC p.funcs
/-- Is it more than is looked at? -/
def greatB (p : ProgD) : Bool := decide (100 < pr1 p) || (decide (5000 < prC p) || decide (60000 < (progK p).length))
theorem great_many {p : ProgD} (h : 100 < pr1 p) : greatB p = true := by unfold greatB; rw [decide_eq_true h]; rfl
theorem great_sum {p : ProgD} (h : 5000 < prC p) : greatB p = true := by unfold greatB; rw [decide_eq_true h]; simp
theorem great_key {p : ProgD} (h1 : ¬ 100 < pr1 p) (h2 : ¬ 5000 < prC p) : greatB p = decide (60000 < (progK p).length) := by unfold greatB; rw [decide_eq_false h1, decide_eq_false h2]; rfl

theorem szL_app {α : Type} (f : α → Nat) (a b : List α) : szL f (a ++ b) = szL f a + szL f b := by unfold szL; rw [List.map_append, List.sum_append]
theorem szL_next {α : Type} (f : α → Nat) (l : List α) (k : Nat) (x : α) (h : l[k]? = some x) : szL f (l.take (k + 1)) = szL f (l.take k) + f x := by
 rw [List.take_add_one, h, szL_app]
 simp [szL]
theorem szL_take {α : Type} (f : α → Nat) (l : List α) (k : Nat) : szL f (l.take k) ≤ szL f l := by
 conv => rhs; rw [← List.take_append_drop k l]
 rw [szL_app]
 omega
theorem szL_mono {α : Type} {f g : α → Nat} : ∀ {l : List α}, (∀ x ∈ l, f x ≤ g x) → szL f l ≤ szL g l
 | [], _ => Nat.le_refl _
 | x :: l, h => by
  have h1 := h x (by simp)
  have h2 := szL_mono (f := f) (g := g) (l := l) fun y hy => h y (by simp [hy])
  have e1 : szL f (x :: l) = f x + szL f l := rfl
  have e2 : szL g (x :: l) = g x + szL g l := rfl
  omega
theorem szL_flat {α β : Type} (f : α → Nat) (g : β → List α) : ∀ l : List β, szL f (l.flatMap g) = szL (fun x => szL f (g x)) l
 | [] => rfl
 | x :: l => by
  rw [List.flatMap_cons, szL_app, szL_flat f g l]
  rfl
theorem place_steps (p : PlaceD) : stepN p ≤ p.sz := by
 have := szL_len (l := p.steps) (g := szS) (fun x _ => Nat.le_add_left 1 _)
 unfold stepN PlaceD.sz
 omega
theorem toD_steps (p : PlaceD) : szL stepN (toD p) ≤ p.sz := by
 have := place_steps p
 unfold toD
 split
 · exact Nat.zero_le _
 · show stepN p + 0 ≤ _
   omega
theorem stU_steps (s : StmtD) : szL stepN (stUd s) ≤ s.sz := by
 have h1 := toD_steps s.to
 have h2 := szL_mono (f := stepN) (g := PlaceD.sz) (l := s.args) fun p _ => place_steps p
 unfold stUd StmtD.sz
 rw [szL_app]
 omega
theorem blU_steps (b : BlockD) : szL stepN (blUd b) ≤ b.sz := by
 have h1 := toD_steps b.term.to
 have h2 := szL_mono (f := stepN) (g := PlaceD.sz) (l := b.term.args) fun p _ => place_steps p
 have h3 := szL_mono (f := fun s => szL stepN (stUd s)) (g := StmtD.sz) (l := b.stmts) fun p _ => stU_steps p
 unfold blUd BlockD.sz TermD.sz
 rw [szL_app, szL_app, szL_flat]
 omega
theorem fnU_steps (f : FuncD) : szL stepN (fnUd f) ≤ f.sz := by
 have h3 := szL_mono (f := fun s => szL stepN (blUd s)) (g := BlockD.sz) (l := f.blocks) fun p _ => blU_steps p
 unfold fnUd FuncD.sz
 rw [szL_flat]
 omega
theorem arg_le (s : StmtD) : argN s ≤ s.sz := by
 have := szL_len (l := s.args) (g := PlaceD.sz) (fun x _ => x.pos)
 unfold argN StmtD.sz
 omega
theorem blC_le (b : BlockD) : blC b ≤ 2 * b.sz := by
 have h1 := szL_len (l := b.stmts) (g := StmtD.sz) (fun x _ => x.pos)
 have h2 := szL_len (l := b.term.args) (g := PlaceD.sz) (fun x _ => x.pos)
 have h3 := szL_len (l := b.term.blocks) (g := szS) (fun x _ => Nat.le_add_left 1 _)
 have h4 := szL_len (l := b.term.arms) (g := ArmD.sz) (fun x _ => x.pos)
 have h5 := szL_mono (f := argN) (g := StmtD.sz) (l := b.stmts) fun p _ => arg_le p
 unfold blC bl1 BlockD.sz TermD.sz
 omega
theorem szL_mul {α : Type} (c : Nat) (f : α → Nat) : ∀ l : List α, szL (fun x => c * f x) l = c * szL f l
 | [] => rfl
 | x :: l => by
  have e1 : szL (fun x => c * f x) (x :: l) = c * f x + szL (fun x => c * f x) l := rfl
  have e2 : szL f (x :: l) = f x + szL f l := rfl
  rw [e1, e2, szL_mul c f l, Nat.mul_add]
theorem fnC_le (f : FuncD) : fnC f ≤ 4 * f.sz := by
 have h1 := szL_len (l := f.params) (g := VarD.sz) (fun x _ => x.pos)
 have h2 := szL_len (l := f.locals) (g := VarD.sz) (fun x _ => x.pos)
 have h3 := szL_len (l := f.blocks) (g := BlockD.sz) (fun x _ => x.pos)
 have h4 := szL_mono (f := blC) (g := fun b => 2 * b.sz) (l := f.blocks) fun p _ => blC_le p
 rw [szL_mul] at h4
 have h5 := fnU_steps f
 unfold fnC fn1
 unfold FuncD.sz at *
 omega
theorem prC_le (p : ProgD) : prC p ≤ 5 * p.sz := by
 have h1 := szL_len (l := p.structs) (g := StructD.sz) (fun x _ => x.pos)
 have h2 := szL_len (l := p.enums) (g := EnumD.sz) (fun x _ => x.pos)
 have h3 := szL_len (l := p.funcs) (g := FuncD.sz) (fun x _ => x.pos)
 have h4 := szL_mono (f := fnC) (g := fun b => 4 * b.sz) (l := p.funcs) fun p _ => fnC_le p
 rw [szL_mul] at h4
 have h5 := szL_mono (f := suN) (g := StructD.sz) (l := p.structs) fun s _ => by
  have := szL_len (l := s.fields) (g := VarD.sz) (fun x _ => x.pos)
  unfold suN StructD.sz; omega
 have h6 := szL_mono (f := enN) (g := EnumD.sz) (l := p.enums) fun s _ => by
  have := szL_len (l := s.variants) (g := VarD.sz) (fun x _ => x.pos)
  unfold enN EnumD.sz; omega
 unfold prC pr1
 unfold ProgD.sz at *
 omega
theorem StmtX.Ok.on {w w' : World} {s : StmtX} (h : s.Ok w) (hb : Below w.heap.size w w') : s.Ok w' := ⟨h.1.on hb, h.2⟩
theorem TermX.Ok.on {w w' : World} {s : TermX} (h : s.Ok w) (hb : Below w.heap.size w w') : s.Ok w' := ⟨h.1.on hb, h.2⟩
theorem BlockX.Ok.on {w w' : World} {s : BlockX} (h : s.Ok w) (hb : Below w.heap.size w w') : s.Ok w' := ⟨h.1.on hb, fun x hx => (h.2.1 x hx).on hb, h.2.2.on hb⟩
theorem FuncX.Ok.on {w w' : World} {s : FuncX} (h : s.Ok w) (hb : Below w.heap.size w w') : s.Ok w' := ⟨h.1.on hb, fun x hx => (h.2.1 x hx).on hb, h.2.2⟩
theorem ProgX.Ok.on {w w' : World} {s : ProgX} (h : s.Ok w) (hb : Below w.heap.size w w') : s.Ok w' := ⟨h.1.on hb, fun x hx => (h.2.1 x hx).on hb, h.2.2⟩
end Go.Proofs.YtlppbgmcoknliaaGreatDoor
namespace Go.Proofs.YtlppbgmcoknliaaGreatDoor
set_option linter.unusedVariables false
open Go.RowKit

theorem stN_le (s : StmtX) : stN s ≤ s.d.sz := by
 have := szL_len (l := s.d.args) (g := PlaceD.sz) (fun x _ => x.pos)
 have e : s.d.args.length = s.args.length := List.length_map _
 unfold stN StmtD.sz
 omega
theorem blN_le (b : BlockX) : blN b ≤ b.d.sz := by
 have h1 := szL_len (l := b.term.d.args) (g := PlaceD.sz) (fun x _ => x.pos)
 have e1 : b.term.d.args.length = b.term.args.length := List.length_map _
 have h2 : szL stN b.stmts ≤ szL (fun s : StmtX => s.d.sz) b.stmts := szL_mono fun s _ => stN_le s
 have e2 : szL StmtD.sz b.d.stmts = szL (fun s : StmtX => s.d.sz) b.stmts := szL_map StmtD.sz StmtX.d b.stmts
 have e3 : (b.stmts.map stN).sum = szL stN b.stmts := rfl
 have e4 : b.d.term = b.term.d := rfl
 unfold blN BlockD.sz
 rw [e4, e3, e2]
 unfold TermD.sz
 omega
theorem fnN_le (f : FuncX) : fnN f ≤ f.d.sz := by
 have h2 : szL blN f.blocks ≤ szL (fun s : BlockX => s.d.sz) f.blocks := szL_mono fun s _ => blN_le s
 have e2 : szL BlockD.sz f.d.blocks = szL (fun s : BlockX => s.d.sz) f.blocks := szL_map BlockD.sz BlockX.d f.blocks
 have e3 : (f.blocks.map blN).sum = szL blN f.blocks := rfl
 unfold fnN FuncD.sz
 rw [e3, e2]
 omega
def suX (s : StructX) : Nat := s.fields.length
def enX (s : EnumX) : Nat := s.variants.length
def fnX (f : FuncX) : Nat := fnC f.d
def blX (b : BlockX) : Nat := blC b.d
def arX (s : StmtX) : Nat := s.args.length
def stX (p : PlaceX) : Nat := p.steps.length
theorem prC_x (p : ProgX) : prC p.d = p.structs.length + p.enums.length + p.funcs.length + szL suX p.structs + szL enX p.enums + szL fnX p.funcs := by
 unfold prC pr1 ProgX.d
 simp only [List.length_map, szL_map]
 rfl
theorem fnC_x (f : FuncX) : fnX f = (f.params.length + f.locals.length + f.blocks.length) + szL blX f.blocks + szL stX (fnUX f) := by
 unfold fnX fnC fn1
 rw [fnUd_d, ← fnUX_d, szL_map]
 unfold FuncX.d
 simp only [List.length_map, szL_map]
 rfl
theorem blC_x (b : BlockX) : blX b = (b.stmts.length + b.term.args.length + b.term.blocks.length + b.term.arms.length) + szL arX b.stmts := by
 unfold blX blC bl1 BlockX.d TermX.d
 simp only [List.length_map, szL_map]
 congr 1
 exact congrArg (fun g => szL g b.stmts) (funext fun s => List.length_map _)
theorem szL_all {α : Type} (f : α → Nat) (l : List α) (n : Nat) (h : l.length = n) : szL f (l.take n) = szL f l := by rw [List.take_of_length_le (by omega)]

set_option maxHeartbeats 20000000 in
set_option maxRecDepth 100000 in
theorem great_any (p : ProgX) (w : World) (hp : p.Ok w) (hz : p.d.sz ≤ 1048576) :
 Calls Tryz.prog 19 #[.agg #[.slice p.sa p.structs.length p.sc, .slice p.ea p.enums.length p.ec, .slice p.fa p.funcs.length p.fc]] w fun e w' => e = .returned (.bool (greatB p.d)) ∧ Below w.heap.size w w' := by
 have CK : Hid (∀ W, Below w.heap.size w W → Calls Tryz.prog 22 #[.agg #[.slice p.sa p.structs.length p.sc, .slice p.ea p.enums.length p.ec, .slice p.fa p.funcs.length p.fc]] W fun e w' => e = .returned (.string (bs (progK p.d))) ∧ Below W.heap.size W w') := hidIt fun W hW => key_prog p W (hp.on hW) hz
 have HP := hidIt hp
 have HZ := hidIt hz
 have hb1 : p.structs.length ≤ 1048576 := by have := hp.1.1.1.big; rwa [List.length_map] at this
 have hb2 : p.enums.length ≤ 1048576 := by have := hp.1.2.1.1.big; rwa [List.length_map] at this
 have hb3 : p.funcs.length ≤ 1048576 := by have := hp.1.2.2.1.big; rwa [List.length_map] at this
 have TOT : Hid (prC p.d ≤ 5242880) := hidIt (by have := prC_le p.d; omega)
 have SUM : Hid (prC p.d = p.structs.length + p.enums.length + p.funcs.length + szL suX p.structs + szL enX p.enums + szL fnX p.funcs) := hidIt (prC_x p)
 have CNT : Hid (pr1 p.d = p.structs.length + p.enums.length + p.funcs.length) := hidIt (by unfold pr1 ProgX.d; simp only [List.length_map])
 clear hp hz
 obtain ⟨sa, sc, ss, ea, ec, es, fa, fc, fs⟩ := p
 obtain ⟨P, hP⟩ : ∃ P : ProgD, (⟨sa, sc, ss, ea, ec, es, fa, fc, fs⟩ : ProgX).d = P := ⟨_, rfl⟩
 have HPd := hidIt hP
 simp only at *
 rw [hP] at CK HZ TOT SUM CNT ⊢
 clear hP
 obtain ⟨n1, e1⟩ : ∃ n, ss.length = n := ⟨_, rfl⟩
 obtain ⟨n2, e2⟩ : ∃ n, es.length = n := ⟨_, rfl⟩
 obtain ⟨n3, e3⟩ : ∃ n, fs.length = n := ⟨_, rfl⟩
 rw [e1] at SUM CNT CK hb1 ⊢
 rw [e2] at SUM CNT CK hb2 ⊢
 rw [e3] at SUM CNT CK hb3 ⊢
 have N1 := hidIt e1
 have N2 := hidIt e2
 have N3 := hidIt e3
 clear e1 e2 e3
 obtain ⟨V, hV⟩ : ∃ V, greatB P = V := ⟨_, rfl⟩
 rw [hV]
 have GV := hidIt hV
 clear hV
 have K0 : Hid (Kept w [(w.heap.size, Obj.cells #[.slice sa n1 sc, .slice ea n2 ec, .slice fa n3 fc] 36 (0, 0))] (w.alloc (.cells #[.slice sa n1 sc, .slice ea n2 ec, .slice fa n3 fc] 36 (0, 0)))) := hidIt (Kept.new (L := []) ⟨Below.refl _ _, fun x hx => by cases hx⟩ _ _)
 by_cases hm : 100 < n1 + n2 + n3
 · have G : Hid (greatB P = true) := hidIt (great_many (by rw [CNT.out]; exact hm))
   have hm2 : (n1 : Int) + (n2 : Int) + (n3 : Int) > 100 := by omega
   clear hm
   obtain rfl : true = V := G.out.symm.trans GV.out
   go_enter Tryz.func19, Tryz.ntmps19
   go_wp2_with fail
   go_ret
   exact ⟨rfl, K0.out.1⟩
 have HM := hidIt hm
 have hm2 : ¬ ((n1 : Int) + (n2 : Int) + (n3 : Int) > 100) := by omega
 clear hm
 go_enter Tryz.func19, Tryz.ntmps19
 go_wp2_with fail
 generalize w.alloc (.cells #[.slice sa n1 sc, .slice ea n2 ec, .slice fa n3 fc] 36) = W0 at K0 ⊢
 clear hm2
 go_loopg [3, 4] n1 (fun g s3 s4 wr => ∃ k m : Nat, k ≤ n1 ∧ n1 - k ≤ g ∧ s3 = .int .i64 m ∧ s4 = .int .i64 k ∧ wr = W0 ∧ Hid (m = n1 + n2 + n3 + szL suX (ss.take k)))
 case atStart => exact ⟨0, n1 + n2 + n3, Nat.zero_le _, by omega, (congrArg (Value.int .i64) (by omega)), rfl, rfl, hidIt rfl⟩
 case round =>
  as_aux_lemma =>
  obtain ⟨k, m, hk, hg, rfl, rfl, rfl, R⟩ := hrel
  have p0 : wr.cell? ⟨w.heap.size, 0, none⟩ = some (.slice sa n1 sc) := cell_at (K0.out.get 0 rfl) 0
  by_cases hlt : k < n1
  · obtain ⟨x, hx⟩ : ∃ x, ss[k]? = some x := ⟨_, List.getElem?_eq_getElem (by rw [N1.out]; exact hlt)⟩
    obtain ⟨b1, o1, rfl, g1⟩ := Sl.cell HP.out.1.1.1 (j := k) (r := x.row) (by rw [List.getElem?_map]; rw [hx]; rfl)
    have g1 := g1 wr K0.out.1
    have p5 := g1 4 _ rfl
    have NX := hidIt (szL_next suX ss k x hx)
    have hs : m + x.fields.length ≤ 5242880 := by
     have h1 := szL_take suX ss (k + 1)
     have h2 := TOT.out
     rw [SUM.out] at h2
     rw [NX.out] at h1
     rw [R.out]
     unfold suX at *
     omega
    have E1 : Hid (m + x.fields.length = n1 + n2 + n3 + szL suX (ss.take (k + 1))) := hidIt (by rw [NX.out, R.out]; unfold suX; omega)
    clear g1 hx NX
    obtain ⟨L, hL⟩ : ∃ L, x.fields.length = L := ⟨_, rfl⟩
    rw [hL] at p5 hs E1
    clear hL
    go_wp2_with fail
    go_roundg (n1 - (k + 1))
    case measure => omega
    case rel => exact ⟨k + 1, m + L, by omega, by omega, (congrArg (Value.int .i64) (by omega)), by go_num, rfl, E1⟩
  · have : k = n1 := by omega
    subst this
    have R1 : Hid (m = k + n2 + n3 + szL suX ss) := hidIt (by rw [R.out, szL_all suX ss k N1.out])
    have hs : m ≤ 5242880 := by
     have h2 := TOT.out
     rw [SUM.out] at h2
     rw [R1.out]
     omega
    clear R
    as_aux_lemma =>
    go_wp2_with fail
    clear p0
    go_loopg [3, 5] n2 (fun g s3 s5 wx => ∃ j m : Nat, j ≤ n2 ∧ n2 - j ≤ g ∧ s3 = .int .i64 m ∧ s5 = .int .i64 j ∧ wx = wr ∧ Hid (m = k + n2 + n3 + szL suX ss + szL enX (es.take j)))
    case atStart => exact ⟨0, m, Nat.zero_le _, by omega, rfl, rfl, rfl, hidIt R1.out⟩
    case round =>
     as_aux_lemma =>
     clear R1 hs
     obtain ⟨j, m, hj, hg2, rfl, rfl, rfl, R⟩ := hrel
     have p0 : wr.cell? ⟨w.heap.size, 1, none⟩ = some (.slice ea n2 ec) := cell_at (K0.out.get 0 rfl) 1
     by_cases hlt : j < n2
     · obtain ⟨x, hx⟩ : ∃ x, es[j]? = some x := ⟨_, List.getElem?_eq_getElem (by rw [N2.out]; exact hlt)⟩
       obtain ⟨b1, o1, rfl, g1⟩ := Sl.cell HP.out.1.2.1.1 (j := j) (r := x.row) (by rw [List.getElem?_map]; rw [hx]; rfl)
       have g1 := g1 wr K0.out.1
       have p5 := g1 2 _ rfl
       have NX := hidIt (szL_next enX es j x hx)
       have hs : m + x.variants.length ≤ 5242880 := by
        have h1 := szL_take enX es (j + 1)
        have h2 := TOT.out
        rw [SUM.out] at h2
        rw [NX.out] at h1
        rw [R.out]
        unfold enX at *
        omega
       have E1 : Hid (m + x.variants.length = k + n2 + n3 + szL suX ss + szL enX (es.take (j + 1))) := hidIt (by rw [NX.out, R.out]; unfold enX; omega)
       clear g1 hx NX
       obtain ⟨L, hL⟩ : ∃ L, x.variants.length = L := ⟨_, rfl⟩
       rw [hL] at p5 hs E1
       clear hL
       go_wp2_with fail
       go_roundg (n2 - (j + 1))
       case measure => omega
       case rel => exact ⟨j + 1, m + L, by omega, by omega, (congrArg (Value.int .i64) (by omega)), by go_num, rfl, E1⟩
     · have : j = n2 := by omega
       subst this
       have R1 : Hid (prC P = m + szL fnX fs) := hidIt (by rw [SUM.out, R.out, szL_all enX es j N2.out])
       have hs : m ≤ 5242880 := by have h2 := TOT.out; rw [R1.out] at h2; omega
       clear R SUM N1 N2
       as_aux_lemma =>
       go_wp2_with fail
       clear p0
       go_loopg [3, 6] n3 (fun g s3 s6 wx => ∃ i q : Nat, i ≤ n3 ∧ n3 - i ≤ g ∧ s3 = .int .i64 q ∧ s6 = .int .i64 i ∧ Hid (q = m + szL fnX (fs.take i) ∧ Kept w [(w.heap.size, Obj.cells #[.slice sa k sc, .slice ea j ec, .slice fa n3 fc] 36 (0, 0))] wx))
       case atStart => exact ⟨0, m, Nat.zero_le _, by omega, rfl, rfl, hidIt ⟨rfl, K0.out⟩⟩
       case round =>
        as_aux_lemma =>
        have HB := R1
        clear hs K0 R1
        obtain ⟨i, q, hi, hg3, rfl, rfl, R⟩ := hrel
        have p0 : wr.cell? ⟨w.heap.size, 2, none⟩ = some (.slice fa n3 fc) := cell_at (R.out.2.get 0 rfl) 2
        have hq : q ≤ 5242880 := by
         have h1 := szL_take fnX fs i
         have h2 := TOT.out
         rw [HB.out] at h2
         rw [R.out.1]
         omega
        by_cases hlt : i < n3
        · as_aux_lemma =>
          obtain ⟨x, hx⟩ : ∃ x, fs[i]? = some x := ⟨_, List.getElem?_eq_getElem (by rw [N3.out]; exact hlt)⟩
          have XO : Hid (x.Ok w) := hidIt (HP.out.2.1 _ (List.mem_of_getElem? hx))
          have XF : Hid (fnX x = (x.params.length + x.locals.length + x.blocks.length) + szL blX x.blocks + szL stX (fnUX x)) := hidIt (fnC_x x)
          have XN : Hid (fnN x ≤ 1048576) := hidIt (by
           have h1 := fnN_le x
           have h2 : x.d.sz ≤ szL FuncD.sz P.funcs := szL_mem (f := FuncD.sz) (by rw [← HPd.out]; exact List.mem_map_of_mem (List.mem_of_getElem? hx))
           have h3 := HZ.out
           unfold ProgD.sz at h3
           omega)
          have UL : Hid ((fnUX x).length ≤ 1048576) := hidIt (by
           have h1 : (fnU x).length ≤ fnN x := flat_le blU_le x.blocks
           have e : (fnUX x).length = (fnU x).length := by rw [← fnUX_d, List.length_map]
           rw [e]
           exact Nat.le_trans h1 XN.out)
          have NX : Hid (szL fnX (fs.take (i + 1)) = szL fnX (fs.take i) + fnX x) := hidIt (szL_next fnX fs i x hx)
          have LIM : Hid (q + fnX x ≤ prC P) := hidIt (by
           have h1 := szL_take fnX fs (i + 1)
           rw [HB.out, R.out.1]
           rw [NX.out] at h1
           omega)
          have QN : Hid (q + fnX x = m + szL fnX (fs.take (i + 1))) := hidIt (by rw [NX.out, R.out.1]; omega)
          have CU : Hid (∀ W, Below w.heap.size w W → Calls Tryz.prog 26 #[.agg #[.int .i64 x.at_, .string x.name, .slice x.pa x.params.length x.pc, .slice x.la x.locals.length x.lc, .string x.result, .slice x.ba x.blocks.length x.bc]] W (RUPost W (fnUX x))) := hidIt fun W hW => ruses_any x W (XO.out.1.on hW) XN.out
          obtain ⟨xa, xn, xpa, xpc, xps, xla, xlc, xls, xr, xba, xbc, xbs⟩ := x
          obtain ⟨b1, o1, rfl, g1⟩ := Sl.cell HP.out.1.2.2.1 (j := i) (r := (⟨xa, xn, xpa, xpc, xps, xla, xlc, xls, xr, xba, xbc, xbs⟩ : FuncX).row) (by rw [List.getElem?_map]; rw [hx]; rfl)
          have g1 := g1 wr R.out.2.1
          simp only at XF CU
          clear hx NX XN
          obtain ⟨X, hX⟩ : ∃ X, fnX (⟨xa, xn, xpa, xpc, xps, xla, xlc, xls, xr, xba, xbc, xbs⟩ : FuncX) = X := ⟨_, rfl⟩
          obtain ⟨us, hus⟩ : ∃ us, fnUX (⟨xa, xn, xpa, xpc, xps, xla, xlc, xls, xr, xba, xbc, xbs⟩ : FuncX) = us := ⟨_, rfl⟩
          rw [hX] at XF LIM QN
          rw [hus] at XF CU UL
          clear hX hus
          have HBL : Hid (Bls w xba xbs) := hidIt XO.out.1.2.2
          have NB : xbs.length ≤ 1048576 := by have := HBL.out.1.big; rwa [List.length_map] at this
          obtain ⟨np, hnp⟩ : ∃ n, xps.length = n := ⟨_, rfl⟩
          obtain ⟨nl, hnl⟩ : ∃ n, xls.length = n := ⟨_, rfl⟩
          obtain ⟨nb, hnb⟩ : ∃ n, xbs.length = n := ⟨_, rfl⟩
          rw [hnp, hnl, hnb] at XF CU
          rw [hnb] at NB
          have N4 := hidIt hnb
          have p1 := g1 0 _ rfl
          have p2 := g1 1 _ rfl
          have p3 := g1 2 _ rfl
          have p4 := g1 3 _ rfl
          have p5 := g1 4 _ rfl
          have p6 := g1 5 _ rfl
          rw [Nat.add_zero] at p1
          simp only [hnp] at p3
          simp only [hnl] at p4
          simp only [hnb] at p6
          have hs : q + (np + nl + nb) ≤ 5242880 := by have h1 := LIM.out; have h2 := TOT.out; rw [XF.out] at h1; omega
          clear g1 hnp hnl hnb XO hq
          go_upto_region 16 with fail
          clear p0 p1 p2 p3 p4 p5 p6
          have HK := hidIt (R.out.2.new #[.int .i64 xa, .string xn, .slice xpa np xpc, .slice xla nl xlc, .string xr, .slice xba nb xbc] 45)
          obtain ⟨B1, eB⟩ : ∃ B1, B1 = wr.heap.size := ⟨_, rfl⟩
          rw [← eB] at HK ⊢
          clear eB
          generalize wr.alloc (.cells #[.int .i64 xa, .string xn, .slice xpa np xpc, .slice xla nl xlc, .string xr, .slice xba nb xbc] 45) = W1 at HK ⊢
          obtain ⟨-, -, p2, p3, -, p5⟩ := cells_6 (HK.out.get 0 rfl)
          by_cases h5 : 5000 < q + (np + nl + nb)
          · have G : Hid (greatB P = true) := hidIt (great_sum (by have h1 := LIM.out; rw [XF.out] at h1; omega))
            have h52 : (q : Int) + ((np : Int) + (nl : Int) + (nb : Int)) > 5000 := by omega
            obtain rfl : true = V := G.out.symm.trans GV.out
            clear h5
            as_aux_lemma =>
            go_wp2_with fail
            go_ret
            exact ⟨rfl, HK.out.1⟩
          have h52 : ¬ ((q : Int) + ((np : Int) + (nl : Int) + (nb : Int)) > 5000) := by omega
          clear h5
          go_wp2_with fail
          clear p2 p3 p5 h52
          go_loopg [3, 8] nb (fun g s3 s8 wx => ∃ a t : Nat, a ≤ nb ∧ nb - a ≤ g ∧ s3 = .int .i64 t ∧ s8 = .int .i64 a ∧ Hid (t = q + (np + nl + nb) + szL blX (xbs.take a) ∧ Kept w [(B1, Obj.cells #[.int .i64 xa, .string xn, .slice xpa np xpc, .slice xla nl xlc, .string xr, .slice xba nb xbc] 45 (0, 0)), (w.heap.size, Obj.cells #[.slice sa k sc, .slice ea j ec, .slice (some ⟨b1, o1, none⟩) n3 fc] 36 (0, 0))] wx))
          case atStart => exact ⟨0, q + (np + nl + nb), Nat.zero_le _, by omega, (congrArg (Value.int .i64) (by omega)), rfl, hidIt ⟨rfl, HK.out⟩⟩
          case round =>
           as_aux_lemma =>
           clear R HK hs
           obtain ⟨a, t, ha, hg4, rfl, rfl, R⟩ := hrel
           have p0 : wr.cell? ⟨B1, 5, none⟩ = some (.slice xba nb xbc) := cell_at (R.out.2.get 0 rfl) 5
           have ht : t ≤ 5242880 := by
            have h1 := szL_take blX xbs a
            have h2 := LIM.out
            have h3 := TOT.out
            rw [XF.out] at h2
            rw [R.out.1]
            omega
           by_cases hlt4 : a < nb
           · as_aux_lemma =>
             obtain ⟨y, hy⟩ : ∃ y, xbs[a]? = some y := ⟨_, List.getElem?_eq_getElem (by rw [N4.out]; exact hlt4)⟩
             have YF : Hid (blX y = (y.stmts.length + y.term.args.length + y.term.blocks.length + y.term.arms.length) + szL arX y.stmts) := hidIt (blC_x y)
             have NX : Hid (szL blX (xbs.take (a + 1)) = szL blX (xbs.take a) + blX y) := hidIt (szL_next blX xbs a y hy)
             have LI2 : Hid (t + blX y ≤ q + X) := hidIt (by
              have h1 := szL_take blX xbs (a + 1)
              rw [R.out.1, XF.out]
              rw [NX.out] at h1
              omega)
             have TN : Hid (t + blX y = q + (np + nl + nb) + szL blX (xbs.take (a + 1))) := hidIt (by rw [NX.out, R.out.1]; omega)
             have HST : Hid (Sts w y.sa y.stmts) := hidIt (HBL.out.2 _ (List.mem_of_getElem? hy)).1
             obtain ⟨b2, o2, rfl, g8⟩ := Sl.cell HBL.out.1 (j := a) (r := y.row) (by rw [List.getElem?_map]; rw [hy]; rfl)
             have g9 := g8 wr R.out.2.1
             clear hy NX
             obtain ⟨ya, yn, ysa, ysc, yss, tm⟩ := y
             obtain ⟨tat, tk, ⟨tl, tsa, tsc, tst⟩, tn, taa, tac, tas, tba, tbc, tbs, tra, trc, trs⟩ := tm
             simp only at YF HST
             obtain ⟨Y, hY⟩ : ∃ Y, blX (⟨ya, yn, ysa, ysc, yss, ⟨tat, tk, ⟨tl, tsa, tsc, tst⟩, tn, taa, tac, tas, tba, tbc, tbs, tra, trc, trs⟩⟩ : BlockX) = Y := ⟨_, rfl⟩
             rw [hY] at YF LI2 TN
             clear hY
             have NS : yss.length ≤ 1048576 := by have := HST.out.1.big; rwa [List.length_map] at this
             obtain ⟨ns, hns⟩ : ∃ n, yss.length = n := ⟨_, rfl⟩
             obtain ⟨tan, htan⟩ : ∃ n, tas.length = n := ⟨_, rfl⟩
             obtain ⟨tbn, htbn⟩ : ∃ n, tbs.length = n := ⟨_, rfl⟩
             obtain ⟨trn, htrn⟩ : ∃ n, trs.length = n := ⟨_, rfl⟩
             rw [hns, htan, htbn, htrn] at YF
             rw [hns] at NS
             have N6 := hidIt hns
             have p2 := g9 2 _ rfl
             have p8 := g9 8 _ rfl
             have p9 := g9 9 _ rfl
             have p10 := g9 10 _ rfl
             simp only [hns] at p2
             simp only [htan] at p8
             simp only [htbn] at p9
             simp only [htrn] at p10
             have hs3 : t + (ns + tan + tbn + trn) ≤ 5242880 := by have h1 := LI2.out; have h2 := LIM.out; have h3 := TOT.out; rw [YF.out] at h1; omega
             have G2 : Hid (∀ W, Below w.heap.size w W → W.cell? ⟨b2, o2 + a * 11 + 2, none⟩ = some (.slice ysa ns ysc)) := hidIt fun W hW => by have h1 := g8 W hW 2 _ rfl; simpa only [hns] using h1
             clear g8 g9 hns htan htbn htrn
             clear p0
             have p0 : wr.cell? ⟨B1, 5, none⟩ = some (.slice (some ⟨b2, o2, none⟩) nb xbc) := cell_at (R.out.2.get 0 rfl) 5
             go_upto_region 22 with fail
             have hw1 : IntKind.i64.wrap ((ns : Int) + (tan : Int)) = (ns : Int) + (tan : Int) := IntWalk.i64_in _ (by omega)
             have hw2 : IntKind.i64.wrap ((ns : Int) + (tan : Int) + (tbn : Int)) = (ns : Int) + (tan : Int) + (tbn : Int) := IntWalk.i64_in _ (by omega)
             have hw3 : IntKind.i64.wrap ((ns : Int) + (tan : Int) + (tbn : Int) + (trn : Int)) = (ns : Int) + (tan : Int) + (tbn : Int) + (trn : Int) := IntWalk.i64_in _ (by omega)
             have hw4 : IntKind.i64.wrap ((t : Int) + ((ns : Int) + (tan : Int) + (tbn : Int) + (trn : Int))) = (t : Int) + ((ns : Int) + (tan : Int) + (tbn : Int) + (trn : Int)) := IntWalk.i64_in _ (by omega)
             have hai : (a : Int) < (nb : Int) := by omega
             have hai0 : (0 : Int) ≤ (a : Int) := by omega
             have HS3 := hidIt hs3
             have HT3 := hidIt ht
             clear hs3 ht
             go_quiet (fail)
             have HK := hidIt (R.out.2.on (below_drewN wr nq))
             clear p0 p2 p8 p9 p10 R hw1 hw2 hw3 hw4
             generalize wr.drewN nq = W2 at HK ⊢
             have hs3 := HS3.out
             as_aux_lemma =>
             by_cases h6 : 5000 < t + (ns + tan + tbn + trn)
             · have G : Hid (greatB P = true) := hidIt (great_sum (by have h1 := LI2.out; have h2 := LIM.out; rw [YF.out] at h1; omega))
               have h62 : (t : Int) + ((ns : Int) + (tan : Int) + (tbn : Int) + (trn : Int)) > 5000 := by omega
               obtain rfl : true = V := G.out.symm.trans GV.out
               clear h6
               go_wp2_with fail
               go_ret
               exact ⟨rfl, HK.out.1⟩
             have h62 : ¬ ((t : Int) + ((ns : Int) + (tan : Int) + (tbn : Int) + (trn : Int)) > 5000) := by omega
             clear h6
             go_wp2_with fail
             clear h62
             go_loopg [3, 9] ns (fun g s3 s9 wx => ∃ c u : Nat, c ≤ ns ∧ ns - c ≤ g ∧ s3 = .int .i64 u ∧ s9 = .int .i64 c ∧ wx = W2 ∧ Hid (u = t + (ns + tan + tbn + trn) + szL arX (yss.take c)))
             case atStart => exact ⟨0, t + (ns + tan + tbn + trn), Nat.zero_le _, by omega, (congrArg (Value.int .i64) (by omega)), rfl, rfl, hidIt rfl⟩
             case round =>
              as_aux_lemma =>
              clear hs3
              obtain ⟨c, u, hc, hg5, rfl, rfl, rfl, S⟩ := hrel
              have hu : u ≤ 5242880 := by
               have h1 := szL_take arX yss c
               have h2 := LIM.out
               have h3 := TOT.out
               have h4 := LI2.out
               rw [YF.out] at h4
               rw [S.out]
               omega
              have p0 : wr.cell? ⟨B1, 5, none⟩ = some (.slice (some ⟨b2, o2, none⟩) nb xbc) := cell_at (HK.out.get 0 rfl) 5
              by_cases hlt5 : c < ns
              · obtain ⟨z, hz⟩ : ∃ z, yss[c]? = some z := ⟨_, List.getElem?_eq_getElem (by rw [N6.out]; exact hlt5)⟩
                obtain ⟨b3, o3, rfl, g9⟩ := Sl.cell HST.out.1 (j := c) (r := z.row) (by rw [List.getElem?_map]; rw [hz]; rfl)
                have p7 := g9 wr HK.out.1 7 _ rfl
                have p2 := G2.out wr HK.out.1
                have NX := hidIt (szL_next arX yss c z hz)
                have hs2 : u + z.args.length ≤ 5242880 := by
                 have h1 := szL_take arX yss (c + 1)
                 have h2 := LIM.out
                 have h3 := TOT.out
                 have h4 := LI2.out
                 rw [YF.out] at h4
                 rw [S.out]
                 rw [NX.out] at h1
                 unfold arX at *
                 omega
                have E1 : Hid (u + z.args.length = t + (ns + tan + tbn + trn) + szL arX (yss.take (c + 1))) := hidIt (by rw [NX.out, S.out]; unfold arX; omega)
                clear g9 hz NX
                obtain ⟨L, hL⟩ : ∃ L, z.args.length = L := ⟨_, rfl⟩
                rw [hL] at p7 hs2 E1
                clear hL
                go_wp2_with fail
                go_roundg (ns - (c + 1))
                case measure => omega
                case rel => exact ⟨c + 1, u + L, by omega, by omega, (congrArg (Value.int .i64) (by omega)), by go_num, rfl, E1⟩
              · have : c = ns := by omega
                subst this
                have p2 := G2.out wr HK.out.1
                have E1 : Hid (u = q + (np + nl + nb) + szL blX (xbs.take (a + 1))) := hidIt (by rw [← TN.out, S.out, szL_all arX yss c N6.out, YF.out]; omega)
                go_wp2_with fail
                go_roundg (nb - (a + 1))
                case measure => omega
                case rel => exact ⟨a + 1, u, by omega, by omega, rfl, by go_num, hidIt ⟨E1.out, HK.out⟩⟩
           · have : a = nb := by omega
             subst this
             have R4 : Hid (t + szL stX us = q + X) := hidIt (by rw [R.out.1, szL_all blX xbs a N4.out, XF.out]; omega)
             as_aux_lemma =>
             obtain ⟨p1, p2, p3, p4, p5⟩ := cells_5 (R.out.2.get 0 rfl)
             go_wp2_with (go_at_call 26; refine (CU.out _ R.out.2.1).mono ?_; rintro e w5 ⟨v, rfl, hru⟩)
             have hbl : Below wr.heap.size wr w5 := hru.bel
             have HK := hidIt (R.out.2.on hbl)
             have hbig := UL.out
             obtain ⟨ua, uc, rfl, _, hown⟩ := Own.of (w := w5) (rows := us.map PlaceX.row) (k := 2) (fun r hr => by obtain ⟨z, _, rfl⟩ := List.mem_map.1 hr; rfl) (by rw [List.length_map]; exact hbig) (by rw [List.length_map]; exact hru.own)
             have HS : Hid (Sl w5 2 ua (us.map PlaceX.row)) := hidIt hown.sl
             rw [List.length_map]
             clear hown hru hbl p0 p1 p2 p3 p4 p5 CU
             obtain ⟨nu, hnu⟩ : ∃ n, us.length = n := ⟨_, rfl⟩
             rw [hnu] at hbig ⊢
             have N5 := hidIt hnu
             clear hnu
             go_wp2_with fail
             go_loopg [3, 11] nu (fun g s3 s11 wx => ∃ c u : Nat, c ≤ nu ∧ nu - c ≤ g ∧ s3 = .int .i64 u ∧ s11 = .int .i64 c ∧ wx = w5 ∧ Hid (u = t + szL stX (us.take c)))
             case atStart => exact ⟨0, t, Nat.zero_le _, by omega, rfl, rfl, rfl, hidIt rfl⟩
             case round =>
              as_aux_lemma =>
              obtain ⟨c, u, hc, hg6, rfl, rfl, rfl, S⟩ := hrel
              have hu : u ≤ 5242880 := by
               have h1 := szL_take stX us c
               have h2 := LIM.out
               have h3 := TOT.out
               rw [← R4.out] at h2
               rw [S.out]
               omega
              by_cases hlt6 : c < nu
              · obtain ⟨y, hy⟩ : ∃ y, us[c]? = some y := ⟨_, List.getElem?_eq_getElem (by rw [N5.out]; exact hlt6)⟩
                obtain ⟨b3, o3, rfl, g9⟩ := Sl.cell HS.out (j := c) (r := y.row) (by rw [List.getElem?_map]; rw [hy]; rfl)
                have p1 := g9 _ (Below.refl _ _) 1 _ rfl
                have NX := hidIt (szL_next stX us c y hy)
                have hs2 : u + y.steps.length ≤ 5242880 := by
                 have h1 := szL_take stX us (c + 1)
                 have h2 := LIM.out
                 have h3 := TOT.out
                 rw [← R4.out] at h2
                 rw [S.out]
                 rw [NX.out] at h1
                 unfold stX at *
                 omega
                have E1 : Hid (u + y.steps.length = t + szL stX (us.take (c + 1))) := hidIt (by rw [NX.out, S.out]; unfold stX; omega)
                clear g9 hy NX
                obtain ⟨L, hL⟩ : ∃ L, y.steps.length = L := ⟨_, rfl⟩
                rw [hL] at p1 hs2 E1
                clear hL
                go_wp2_with fail
                go_roundg (nu - (c + 1))
                case measure => omega
                case rel => exact ⟨c + 1, u + L, by omega, by omega, (congrArg (Value.int .i64) (by omega)), by go_num, rfl, E1⟩
              · have : c = nu := by omega
                subst this
                have E1 : Hid (u = m + szL fnX (fs.take (i + 1))) := hidIt (by rw [← QN.out, S.out, szL_all stX us c N5.out, R4.out])
                go_wp2_with fail
                go_roundg (n3 - (i + 1))
                case measure => omega
                case rel => exact ⟨i + 1, u, by omega, by omega, rfl, by go_num, hidIt ⟨E1.out, HK.out.tail⟩⟩
        · have : i = n3 := by omega
          subst this
          have E9 : Hid (prC P = q) := hidIt (by rw [HB.out, R.out.1, szL_all fnX fs i N3.out])
          as_aux_lemma =>
          by_cases h5 : 5000 < q
          · have G : Hid (greatB P = true) := hidIt (great_sum (by rw [E9.out]; exact h5))
            have h52 : (q : Int) > 5000 := by omega
            obtain rfl : true = V := G.out.symm.trans GV.out
            clear h5
            go_wp2_with fail
            go_ret
            exact ⟨rfl, R.out.2.1⟩
          · have G : Hid (greatB P = decide (60000 < (progK P).length)) := hidIt (great_key (by rw [CNT.out]; exact HM.out) (by rw [E9.out]; exact h5))
            have h52 : ¬ ((q : Int) > 5000) := by omega
            obtain ⟨p1, p2⟩ := cells_2 (R.out.2.get 0 rfl)
            have hlen : Hid ((bs (progK P)).size = (progK P).length) := hidIt (bs_size _)
            have G2 : Hid (decide (60000 < (bs (progK P)).size) = V) := hidIt (by rw [hlen.out]; exact G.out.symm.trans GV.out)
            have hsz : (bs (progK P)).size ≤ 400000000 := by
             rw [hlen.out, ← HPd.out]
             have h1 := progK_sz _ (by rw [HPd.out]; exact HZ.out) (ok_nums HP.out)
             have h2 := HZ.out
             rw [← HPd.out] at h2
             omega
            generalize bs (progK P) = S at CK hsz G2
            clear h5 hlen G
            by_cases h6 : 60000 < S.size
            · have h62 : (S.size : Int) > 60000 := by omega
              obtain rfl : true = V := (decide_eq_true h6).symm.trans G2.out
              clear h6
              go_wp2_with (go_at_call 22; refine (CK.out _ R.out.2.1).mono ?_; rintro e w9 ⟨rfl, hb9⟩)
              go_ret
              exact ⟨rfl, below_next R.out.2.1 hb9⟩
            · have h62 : decide (60000 < (S.size : Int)) = false := decide_eq_false (by omega)
              obtain rfl : false = V := (decide_eq_false h6).symm.trans G2.out
              clear h6
              go_wp2_with (go_at_call 22; refine (CK.out _ R.out.2.1).mono ?_; rintro e w9 ⟨rfl, hb9⟩)
              go_ret
              exact ⟨rfl, below_next R.out.2.1 hb9⟩
end Go.Proofs.YtlppbgmcoknliaaGreatDoor
