/-
  Slices as rows of cells, in whatever world holds them.
  Programs: as data, and as they lie in memory.
-/
import Derived.Test.YtlppbgmcoknliaaGreatDoorSplit
import Derived.Shelf.SlicesQ.Load
import Derived.Laws.StructEq
namespace Go.Proofs.YtlppbgmcoknliaaGreatDoor
set_option linter.unusedVariables false
open Go.RowKit

/-- A slice's address, and its rows of k cells each. -/
structure Sl (w : World) (k : Nat) (a : Option Addr) (rows : List (List Value)) : Prop where
 len : ∀ r ∈ rows, r.length = k
 big : rows.length ≤ 1048576
 at_ : rows = [] ∨ ∃ b off, a = some ⟨b, off, none⟩ ∧ b < w.heap.size ∧ ∀ j r i v, rows[j]? = some r → r[i]? = some v → w.cell? ⟨b, off + j * k + i, none⟩ = some v

theorem Sl.on {w w' : World} {k : Nat} {a : Option Addr} {rows : List (List Value)} (h : Sl w k a rows) (hb : Below w.heap.size w w') : Sl w' k a rows := by
 refine ⟨h.len, h.big, ?_⟩
 rcases h.at_ with h | ⟨b, off, e, hlt, hc⟩
 · exact .inl h
 · refine .inr ⟨b, off, e, Nat.lt_of_lt_of_le hlt hb.size, fun j r i v hr hv => ?_⟩
   rw [hb.cell (p := ⟨b, off + j * k + i, none⟩) hlt]
   exact hc j r i v hr hv
theorem Sl.nil {w : World} {k : Nat} {a : Option Addr} : Sl w k a [] := ⟨fun r h => by simp at h, by simp, .inl rfl⟩

/-- Texts, a cell each. -/
def strs (xs : List ByteArray) : List (List Value) := xs.map fun s => [.string s]
theorem strs_len (xs : List ByteArray) : (strs xs).length = xs.length := by simp [strs]
/-- A slice of texts. -/
def St (w : World) (a : Option Addr) (xs : List ByteArray) : Prop := Sl w 1 a (strs xs)
theorem St.on {w w' : World} {a : Option Addr} {xs : List ByteArray} (h : St w a xs) (hb : Below w.heap.size w w') : St w' a xs := Sl.on h hb
theorem St.big {w : World} {a : Option Addr} {xs : List ByteArray} (h : St w a xs) : xs.length ≤ 1048576 := by have := Sl.big h; rwa [strs_len] at this
theorem St.nil {w : World} {a : Option Addr} : St w a [] := Sl.nil
theorem St.cell {w : World} {a : Option Addr} {xs : List ByteArray} (h : St w a xs) {j : Nat} {s : ByteArray} (hj : xs[j]? = some s) :
 ∃ b off, a = some ⟨b, off, none⟩ ∧ ∀ W, Below w.heap.size w W → W.cell? ⟨b, off + j, none⟩ = some (.string s) := by
 rcases Sl.at_ h with h0 | ⟨b, off, e, hlt, hc⟩
 · have : xs = [] := by simpa [strs] using h0
   rw [this] at hj; simp at hj
 · refine ⟨b, off, e, fun W hW => ?_⟩
   rw [hW.cell (p := ⟨b, off + j, none⟩) hlt]
   have := hc j [.string s] 0 (.string s) (by simp [strs, hj]) rfl
   simpa using this

/-- Are two texts the same? -/
def bq (a b : ByteArray) : Bool := a.toList == b.toList
/-- Are two lists the same, one by one? -/
def lq {α : Type} (f : α → α → Bool) : List α → List α → Bool
 | [], [] => true
 | a :: l, b :: m => f a b && lq f l m
 | _, _ => false
theorem lq_len {α : Type} {f : α → α → Bool} : ∀ {a b : List α}, a.length ≠ b.length → lq f a b = false
 | [], [], h => absurd rfl h
 | [], b :: m, h => rfl
 | a :: l, [], h => rfl
 | a :: l, b :: m, h => by
  rw [lq, lq_len (a := l) (b := m) (by simpa using h), Bool.and_false]
theorem lq_at {α : Type} {f : α → α → Bool} : ∀ {a b : List α} {k : Nat} {x y : α}, a[k]? = some x → b[k]? = some y → f x y = false → lq f a b = false
 | [], _, k, x, y, hx, _, _ => by simp at hx
 | a :: l, [], k, x, y, _, hy, _ => by simp at hy
 | a :: l, b :: m, 0, x, y, hx, hy, h => by
  simp at hx hy
  rw [lq, hx, hy, h, Bool.false_and]
 | a :: l, b :: m, k + 1, x, y, hx, hy, h => by
  simp at hx hy
  rw [lq, lq_at hx hy h, Bool.and_false]
theorem lq_all {α : Type} {f : α → α → Bool} : ∀ {a b : List α}, a.length = b.length → (∀ (j : Nat) (x y : α), a[j]? = some x → b[j]? = some y → f x y = true) → lq f a b = true
 | [], [], _, _ => rfl
 | [], b :: m, hl, _ => by simp at hl
 | a :: l, [], hl, _ => by simp at hl
 | a :: l, b :: m, hl, h => by
  rw [lq, h 0 a b rfl rfl, lq_all (a := l) (b := m) (by simpa using hl) fun j x y hx hy => h (j + 1) x y (by simpa using hx) (by simpa using hy)]
  rfl
/-- Are two lists of texts the same? -/
def sq (a b : List ByteArray) : Bool := lq bq a b
end Go.Proofs.YtlppbgmcoknliaaGreatDoor
namespace Go.Proofs.YtlppbgmcoknliaaGreatDoor
set_option linter.unusedVariables false
open Go.RowKit

structure PlaceD where
 loc : ByteArray
 steps : List ByteArray
structure VarD where
 name : ByteArray
 type : ByteArray
structure ArmD where
 variant : ByteArray
 loc : ByteArray
 block : ByteArray
structure StmtD where
 at_ : Int
 kind : Int
 to : PlaceD
 n : Int
 name : ByteArray
 variant : ByteArray
 args : List PlaceD
structure TermD where
 at_ : Int
 kind : Int
 to : PlaceD
 name : ByteArray
 args : List PlaceD
 blocks : List ByteArray
 arms : List ArmD
structure BlockD where
 at_ : Int
 name : ByteArray
 stmts : List StmtD
 term : TermD
structure FuncD where
 at_ : Int
 name : ByteArray
 params : List VarD
 locals : List VarD
 result : ByteArray
 blocks : List BlockD
structure StructD where
 at_ : Int
 name : ByteArray
 safe : Bool
 hook : Bool
 fields : List VarD
structure EnumD where
 at_ : Int
 name : ByteArray
 variants : List VarD
structure ProgD where
 structs : List StructD
 enums : List EnumD
 funcs : List FuncD

def VarD.row (v : VarD) : List Value := [.string v.name, .string v.type]
def ArmD.row (a : ArmD) : List Value := [.string a.variant, .string a.loc, .string a.block]

/-- A place, and where its steps lie. -/
structure PlaceX where
 loc : ByteArray
 sa : Option Addr
 sc : Nat
 steps : List ByteArray
def PlaceX.row (p : PlaceX) : List Value := [.string p.loc, .slice p.sa p.steps.length p.sc]
def PlaceX.d (p : PlaceX) : PlaceD := ⟨p.loc, p.steps⟩
def PlaceX.At (w : World) (p : PlaceX) : Prop := St w p.sa p.steps
/-- Places, one behind the other. -/
def Pls (w : World) (a : Option Addr) (ps : List PlaceX) : Prop := Sl w 2 a (ps.map PlaceX.row) ∧ ∀ p ∈ ps, p.At w
def Vrs (w : World) (a : Option Addr) (vs : List VarD) : Prop := Sl w 2 a (vs.map VarD.row)
def Ars (w : World) (a : Option Addr) (vs : List ArmD) : Prop := Sl w 3 a (vs.map ArmD.row)

structure StmtX where
 at_ : Int
 kind : Int
 to : PlaceX
 n : Int
 name : ByteArray
 variant : ByteArray
 aa : Option Addr
 ac : Nat
 args : List PlaceX
def StmtX.row (s : StmtX) : List Value := [.int .i64 s.at_, .int .i64 s.kind, .string s.to.loc, .slice s.to.sa s.to.steps.length s.to.sc, .int .i64 s.n, .string s.name, .string s.variant, .slice s.aa s.args.length s.ac]
def StmtX.d (s : StmtX) : StmtD := ⟨s.at_, s.kind, s.to.d, s.n, s.name, s.variant, s.args.map PlaceX.d⟩
def StmtX.At (w : World) (s : StmtX) : Prop := s.to.At w ∧ Pls w s.aa s.args
def Sts (w : World) (a : Option Addr) (xs : List StmtX) : Prop := Sl w 8 a (xs.map StmtX.row) ∧ ∀ x ∈ xs, x.At w

structure TermX where
 at_ : Int
 kind : Int
 to : PlaceX
 name : ByteArray
 aa : Option Addr
 ac : Nat
 args : List PlaceX
 ba : Option Addr
 bc : Nat
 blocks : List ByteArray
 ra : Option Addr
 rc : Nat
 arms : List ArmD
def TermX.row (t : TermX) : List Value := [.int .i64 t.at_, .int .i64 t.kind, .string t.to.loc, .slice t.to.sa t.to.steps.length t.to.sc, .string t.name, .slice t.aa t.args.length t.ac, .slice t.ba t.blocks.length t.bc, .slice t.ra t.arms.length t.rc]
def TermX.d (t : TermX) : TermD := ⟨t.at_, t.kind, t.to.d, t.name, t.args.map PlaceX.d, t.blocks, t.arms⟩
def TermX.At (w : World) (t : TermX) : Prop := t.to.At w ∧ Pls w t.aa t.args ∧ St w t.ba t.blocks ∧ Ars w t.ra t.arms

structure BlockX where
 at_ : Int
 name : ByteArray
 sa : Option Addr
 sc : Nat
 stmts : List StmtX
 term : TermX
def BlockX.row (b : BlockX) : List Value := [.int .i64 b.at_, .string b.name, .slice b.sa b.stmts.length b.sc, .int .i64 b.term.at_, .int .i64 b.term.kind, .string b.term.to.loc, .slice b.term.to.sa b.term.to.steps.length b.term.to.sc, .string b.term.name, .slice b.term.aa b.term.args.length b.term.ac, .slice b.term.ba b.term.blocks.length b.term.bc, .slice b.term.ra b.term.arms.length b.term.rc]
def BlockX.d (b : BlockX) : BlockD := ⟨b.at_, b.name, b.stmts.map StmtX.d, b.term.d⟩
def BlockX.At (w : World) (b : BlockX) : Prop := Sts w b.sa b.stmts ∧ b.term.At w
def Bls (w : World) (a : Option Addr) (xs : List BlockX) : Prop := Sl w 11 a (xs.map BlockX.row) ∧ ∀ x ∈ xs, x.At w

structure FuncX where
 at_ : Int
 name : ByteArray
 pa : Option Addr
 pc : Nat
 params : List VarD
 la : Option Addr
 lc : Nat
 locals : List VarD
 result : ByteArray
 ba : Option Addr
 bc : Nat
 blocks : List BlockX
def FuncX.row (f : FuncX) : List Value := [.int .i64 f.at_, .string f.name, .slice f.pa f.params.length f.pc, .slice f.la f.locals.length f.lc, .string f.result, .slice f.ba f.blocks.length f.bc]
def FuncX.d (f : FuncX) : FuncD := ⟨f.at_, f.name, f.params, f.locals, f.result, f.blocks.map BlockX.d⟩
def FuncX.At (w : World) (f : FuncX) : Prop := Vrs w f.pa f.params ∧ Vrs w f.la f.locals ∧ Bls w f.ba f.blocks
def Fns (w : World) (a : Option Addr) (xs : List FuncX) : Prop := Sl w 6 a (xs.map FuncX.row) ∧ ∀ x ∈ xs, x.At w

structure StructX where
 at_ : Int
 name : ByteArray
 safe : Bool
 hook : Bool
 fa : Option Addr
 fc : Nat
 fields : List VarD
def StructX.row (s : StructX) : List Value := [.int .i64 s.at_, .string s.name, .bool s.safe, .bool s.hook, .slice s.fa s.fields.length s.fc]
def StructX.d (s : StructX) : StructD := ⟨s.at_, s.name, s.safe, s.hook, s.fields⟩
def StructX.At (w : World) (s : StructX) : Prop := Vrs w s.fa s.fields
def Strs (w : World) (a : Option Addr) (xs : List StructX) : Prop := Sl w 5 a (xs.map StructX.row) ∧ ∀ x ∈ xs, x.At w

structure EnumX where
 at_ : Int
 name : ByteArray
 va : Option Addr
 vc : Nat
 variants : List VarD
def EnumX.row (s : EnumX) : List Value := [.int .i64 s.at_, .string s.name, .slice s.va s.variants.length s.vc]
def EnumX.d (s : EnumX) : EnumD := ⟨s.at_, s.name, s.variants⟩
def EnumX.At (w : World) (s : EnumX) : Prop := Vrs w s.va s.variants
def Ens (w : World) (a : Option Addr) (xs : List EnumX) : Prop := Sl w 3 a (xs.map EnumX.row) ∧ ∀ x ∈ xs, x.At w

structure ProgX where
 sa : Option Addr
 sc : Nat
 structs : List StructX
 ea : Option Addr
 ec : Nat
 enums : List EnumX
 fa : Option Addr
 fc : Nat
 funcs : List FuncX
def ProgX.row (p : ProgX) : List Value := [.slice p.sa p.structs.length p.sc, .slice p.ea p.enums.length p.ec, .slice p.fa p.funcs.length p.fc]
def ProgX.d (p : ProgX) : ProgD := ⟨p.structs.map StructX.d, p.enums.map EnumX.d, p.funcs.map FuncX.d⟩
def ProgX.At (w : World) (p : ProgX) : Prop := Strs w p.sa p.structs ∧ Ens w p.ea p.enums ∧ Fns w p.fa p.funcs

theorem Pls.on {w w' : World} {a : Option Addr} {ps : List PlaceX} (h : Pls w a ps) (hb : Below w.heap.size w w') : Pls w' a ps := ⟨h.1.on hb, fun p hp => St.on (h.2 p hp) hb⟩
theorem Vrs.on {w w' : World} {a : Option Addr} {ps : List VarD} (h : Vrs w a ps) (hb : Below w.heap.size w w') : Vrs w' a ps := Sl.on h hb
theorem Ars.on {w w' : World} {a : Option Addr} {ps : List ArmD} (h : Ars w a ps) (hb : Below w.heap.size w w') : Ars w' a ps := Sl.on h hb
theorem PlaceX.At.on {w w' : World} {p : PlaceX} (h : p.At w) (hb : Below w.heap.size w w') : p.At w' := St.on h hb
theorem StmtX.At.on {w w' : World} {p : StmtX} (h : p.At w) (hb : Below w.heap.size w w') : p.At w' := ⟨h.1.on hb, h.2.on hb⟩
theorem TermX.At.on {w w' : World} {p : TermX} (h : p.At w) (hb : Below w.heap.size w w') : p.At w' := ⟨h.1.on hb, h.2.1.on hb, h.2.2.1.on hb, h.2.2.2.on hb⟩
theorem Sts.on {w w' : World} {a : Option Addr} {ps : List StmtX} (h : Sts w a ps) (hb : Below w.heap.size w w') : Sts w' a ps := ⟨h.1.on hb, fun p hp => (h.2 p hp).on hb⟩
theorem BlockX.At.on {w w' : World} {p : BlockX} (h : p.At w) (hb : Below w.heap.size w w') : p.At w' := ⟨h.1.on hb, h.2.on hb⟩
theorem Bls.on {w w' : World} {a : Option Addr} {ps : List BlockX} (h : Bls w a ps) (hb : Below w.heap.size w w') : Bls w' a ps := ⟨h.1.on hb, fun p hp => (h.2 p hp).on hb⟩
theorem FuncX.At.on {w w' : World} {p : FuncX} (h : p.At w) (hb : Below w.heap.size w w') : p.At w' := ⟨h.1.on hb, h.2.1.on hb, h.2.2.on hb⟩
theorem Fns.on {w w' : World} {a : Option Addr} {ps : List FuncX} (h : Fns w a ps) (hb : Below w.heap.size w w') : Fns w' a ps := ⟨h.1.on hb, fun p hp => (h.2 p hp).on hb⟩
theorem StructX.At.on {w w' : World} {p : StructX} (h : p.At w) (hb : Below w.heap.size w w') : p.At w' := Vrs.on h hb
theorem Strs.on {w w' : World} {a : Option Addr} {ps : List StructX} (h : Strs w a ps) (hb : Below w.heap.size w w') : Strs w' a ps := ⟨h.1.on hb, fun p hp => (h.2 p hp).on hb⟩
theorem EnumX.At.on {w w' : World} {p : EnumX} (h : p.At w) (hb : Below w.heap.size w w') : p.At w' := Vrs.on h hb
theorem Ens.on {w w' : World} {a : Option Addr} {ps : List EnumX} (h : Ens w a ps) (hb : Below w.heap.size w w') : Ens w' a ps := ⟨h.1.on hb, fun p hp => (h.2 p hp).on hb⟩
theorem ProgX.At.on {w w' : World} {p : ProgX} (h : p.At w) (hb : Below w.heap.size w w') : p.At w' := ⟨h.1.on hb, h.2.1.on hb, h.2.2.on hb⟩

/-- Are two the same, but for what At tells? -/
def placeQ (a b : PlaceD) : Bool := bq a.loc b.loc && sq a.steps b.steps
def varQ (a b : VarD) : Bool := bq a.name b.name && bq a.type b.type
def armQ (a b : ArmD) : Bool := bq a.variant b.variant && (bq a.loc b.loc && bq a.block b.block)
def stmtQ (a b : StmtD) : Bool := a.kind == b.kind && (a.n == b.n && (bq a.name b.name && (bq a.variant b.variant && (placeQ a.to b.to && lq placeQ a.args b.args))))
def termQ (a b : TermD) : Bool := a.kind == b.kind && (bq a.name b.name && (placeQ a.to b.to && (lq placeQ a.args b.args && (sq a.blocks b.blocks && lq armQ a.arms b.arms))))
def blockQ (a b : BlockD) : Bool := bq a.name b.name && (lq stmtQ a.stmts b.stmts && termQ a.term b.term)
def funcQ (a b : FuncD) : Bool := bq a.name b.name && (bq a.result b.result && (lq varQ a.params b.params && (lq varQ a.locals b.locals && lq blockQ a.blocks b.blocks)))
def structQ (a b : StructD) : Bool := bq a.name b.name && (a.safe == b.safe && (a.hook == b.hook && lq varQ a.fields b.fields))
def enumQ (a b : EnumD) : Bool := bq a.name b.name && lq varQ a.variants b.variants
def progQ (a b : ProgD) : Bool := lq structQ a.structs b.structs && (lq enumQ a.enums b.enums && lq funcQ a.funcs b.funcs)
theorem lq_map {α β : Type} (f : α → α → Bool) (g : β → α) : ∀ xs ys : List β, lq f (xs.map g) (ys.map g) = lq (fun x y => f (g x) (g y)) xs ys
 | [], [] => rfl
 | [], y :: ys => rfl
 | x :: xs, [] => rfl
 | x :: xs, y :: ys => by simp only [List.map_cons, lq, lq_map f g xs ys]
end Go.Proofs.YtlppbgmcoknliaaGreatDoor
