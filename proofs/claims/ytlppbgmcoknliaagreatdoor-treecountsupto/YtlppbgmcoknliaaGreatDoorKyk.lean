/-
  A program as one text: no two that aren't the same come to the same. No walk here.
  How long a program's text is at the most. No walk here.
  The walks of digits, key, flag, Number.
  The walks of keys, varKeys, placeKeys.
  The walk of Key: a program as one text.
-/
import Derived.Test.YtlppbgmcoknliaaGreatDoorDat
import Derived.Test.YtlppbgmcoknliaaGreatDoorSiz
import Derived.Test.YtlppbgmcoknliaaGreatDoorEqs
import Derived.OpenShut
import Derived.Deep.RegionHeld3
import Derived.Test.YtlppbgmcoknliaaGreatDoorCln
import Derived.Test.YtlppbgmcoknliaaGreatDoorUse4
namespace Go.Proofs.YtlppbgmcoknliaaGreatDoor
set_option linter.unusedVariables false
open Go.RowKit

/-- A number's digits. -/
def decL (n : Nat) : List UInt8 := if n < 10 then [UInt8.ofNat (48 + n)] else decL (n / 10) ++ [UInt8.ofNat (48 + n % 10)]
termination_by n
decreasing_by omega

def dgt (b : UInt8) : Bool := decide (48 ≤ b.toNat) && decide (b.toNat ≤ 57)
theorem dgt_of {k : Nat} (h : k < 10) : dgt (UInt8.ofNat (48 + k)) = true ∧ (UInt8.ofNat (48 + k)).toNat = 48 + k := by
 have e : (UInt8.ofNat (48 + k)).toNat = 48 + k := by rw [UInt8.toNat_ofNat']; omega
 refine ⟨?_, e⟩
 unfold dgt
 rw [e]
 simp only [Bool.and_eq_true, decide_eq_true_eq]
 omega
theorem decL_dgt (n : Nat) : ∀ b ∈ decL n, dgt b = true := by
 induction n using decL.induct with
 | case1 n h =>
  rw [decL, if_pos h]
  intro b hb
  rw [List.mem_singleton.1 hb]
  exact (dgt_of h).1
 | case2 n h ih =>
  rw [decL, if_neg h]
  intro b hb
  rcases List.mem_append.1 hb with hb | hb
  · exact ih b hb
  · rw [List.mem_singleton.1 hb]
    exact (dgt_of (Nat.mod_lt n (by omega))).1
def decV (l : List UInt8) : Nat := l.foldl (fun v b => v * 10 + (b.toNat - 48)) 0
theorem decV_decL (n : Nat) : decV (decL n) = n := by
 induction n using decL.induct with
 | case1 n h =>
  rw [decL, if_pos h]
  simp only [decV, List.foldl_cons, List.foldl_nil, (dgt_of h).2]
  omega
 | case2 n h ih =>
  rw [decL, if_neg h]
  have e := (dgt_of (Nat.mod_lt n (by omega : 10 > 0))).2
  unfold decV at ih ⊢
  rw [List.foldl_append, ih]
  simp only [List.foldl_cons, List.foldl_nil, e]
  omega
theorem decL_inj {a b : Nat} (h : decL a = decL b) : a = b := by rw [← decV_decL a, ← decV_decL b, h]
theorem decL_len20 (n : Nat) (hn : n < 18446744073709551616) : (decL n).length ≤ 20 := by
 have key : ∀ (k m : Nat), m < 10 ^ (k + 1) → (decL m).length ≤ k + 1 := by
  intro k
  induction k with
  | zero => intro m hm; rw [decL, if_pos (by simpa using hm)]; simp
  | succ k ih =>
   intro m hm
   by_cases h : m < 10
   · rw [decL, if_pos h]; simp
   · rw [decL, if_neg h, List.length_append, List.length_singleton]
     have := ih (m / 10) (by rw [Nat.pow_succ] at hm; omega)
     omega
 exact key 19 n (by omega)
/-- Digits, and what follows them. -/
theorem digits_split {x y : List UInt8} (hx : ∀ b ∈ x, dgt b = true) (hy : ∀ b ∈ y, dgt b = true) {c d : UInt8} {r s : List UInt8} (hc : dgt c = false) (hd : dgt d = false) (h : x ++ c :: r = y ++ d :: s) : x = y ∧ c = d ∧ r = s := by
 induction x generalizing y with
 | nil =>
  cases y with
  | nil => simp at h; exact ⟨rfl, h.1, h.2⟩
  | cons b y =>
   simp only [List.nil_append, List.cons_append, List.cons.injEq] at h
   rw [h.1, hy b (by simp)] at hc
   exact absurd hc (by decide)
 | cons a x ih =>
  cases y with
  | nil =>
   simp only [List.nil_append, List.cons_append, List.cons.injEq] at h
   rw [← h.1, hx a (by simp)] at hd
   exact absurd hd (by decide)
  | cons b y =>
   simp only [List.cons_append, List.cons.injEq] at h
   obtain ⟨h1, h2, h3⟩ := ih (fun c hc => hx c (by simp [hc])) (fun c hc => hy c (by simp [hc])) h.2
   exact ⟨by rw [h.1, h1], h2, h3⟩
theorem dec_split {a b : Nat} {c d : UInt8} {r s : List UInt8} (hc : dgt c = false) (hd : dgt d = false) (h : decL a ++ c :: r = decL b ++ d :: s) : a = b ∧ c = d ∧ r = s := by
 obtain ⟨h1, h2, h3⟩ := digits_split (decL_dgt a) (decL_dgt b) hc hd h
 exact ⟨decL_inj h1, h2, h3⟩

/-- A code: two with the same beginning are the same, and so is what follows. -/
structure Cod {α : Type} (f : α → List UInt8) (q : α → α → Bool) : Prop where
 one : ∀ a b, q a b = true → f a = f b
 two : ∀ a b r s, f a ++ r = f b ++ s → q a b = true ∧ r = s

/-- A text, with how long it is. -/
def keyS (s : ByteArray) : List UInt8 := decL s.size ++ 58 :: s.data.toList
theorem Cod.of {α β : Type} {f : β → List UInt8} {q : β → β → Bool} (hf : Cod f q) (g : α → β) {f' : α → List UInt8} {q' : α → α → Bool} (h1 : ∀ a, f' a = f (g a)) (h2 : ∀ a b, q' a b = q (g a) (g b)) : Cod f' q' :=
 ⟨fun a b h => by rw [h1, h1]; exact hf.one _ _ (by rw [← h2]; exact h), fun a b r s h => by rw [h1, h1] at h; rw [h2]; exact hf.two _ _ _ _ h⟩
/-- A list, with how many there are. -/
def keyL {α : Type} (c : UInt8) (f : α → List UInt8) (l : List α) : List UInt8 := decL l.length ++ c :: l.flatMap f
theorem flat_cod {α : Type} {f : α → List UInt8} {q : α → α → Bool} (hf : Cod f q) : ∀ (a b : List α) (r s : List UInt8), a.length = b.length → a.flatMap f ++ r = b.flatMap f ++ s → lq q a b = true ∧ r = s
 | [], [], r, s, _, h => ⟨rfl, by simpa using h⟩
 | [], y :: b, _, _, hl, _ => by simp at hl
 | x :: a, [], _, _, hl, _ => by simp at hl
 | x :: a, y :: b, r, s, hl, h => by
  simp only [List.flatMap_cons, List.append_assoc] at h
  obtain ⟨h1, h2⟩ := hf.two _ _ _ _ h
  obtain ⟨h3, h4⟩ := flat_cod hf a b r s (by simpa using hl) h2
  exact ⟨by rw [lq, h1, h3]; rfl, h4⟩
theorem flat_one {α : Type} {f : α → List UInt8} {q : α → α → Bool} (hf : Cod f q) : ∀ (a b : List α), lq q a b = true → a.length = b.length ∧ a.flatMap f = b.flatMap f
 | [], [], _ => ⟨rfl, rfl⟩
 | [], y :: b, h => by simp [lq] at h
 | x :: a, [], h => by simp [lq] at h
 | x :: a, y :: b, h => by
  rw [lq, Bool.and_eq_true] at h
  obtain ⟨h1, h2⟩ := flat_one hf a b h.2
  exact ⟨by simp [h1], by simp [hf.one _ _ h.1, h2]⟩
theorem Cod.list {α : Type} {f : α → List UInt8} {q : α → α → Bool} (hf : Cod f q) {c : UInt8} (hc : dgt c = false) : Cod (keyL c f) (lq q) := by
 refine ⟨fun a b h => ?_, fun a b r s h => ?_⟩
 · obtain ⟨h1, h2⟩ := flat_one hf a b h
   unfold keyL
   rw [h1, h2]
 · unfold keyL at h
   rw [List.append_assoc, List.append_assoc, List.cons_append, List.cons_append] at h
   obtain ⟨h1, _, h3⟩ := dec_split hc hc h
   exact flat_cod hf a b r s h1 h3
/-- A number's text. -/
def numK (n : Int) : List UInt8 := if n < 0 then 45 :: decL n.natAbs else decL n.natAbs
def flagL (b : Bool) : List UInt8 := if b then [49] else [48]
def placeK (p : PlaceD) : List UInt8 := keyS p.loc ++ keyL 91 keyS p.steps
def varK (v : VarD) : List UInt8 := keyS v.name ++ keyS v.type
def armK (a : ArmD) : List UInt8 := keyS a.variant ++ (keyS a.loc ++ keyS a.block)
def stmtK (s : StmtD) : List UInt8 := numK s.kind ++ (keyL 40 placeK [s.to] ++ (numK s.n ++ 59 :: (keyS s.name ++ (keyS s.variant ++ keyL 40 placeK s.args))))
def termK (t : TermD) : List UInt8 := numK t.kind ++ (keyL 40 placeK [t.to] ++ (keyS t.name ++ (keyL 40 placeK t.args ++ (keyL 91 keyS t.blocks ++ keyL 97 armK t.arms))))
def blockK (b : BlockD) : List UInt8 := keyS b.name ++ (keyL 116 stmtK b.stmts ++ termK b.term)
def funcK (f : FuncD) : List UInt8 := keyS f.name ++ (keyL 123 varK f.params ++ (keyL 123 varK f.locals ++ (keyS f.result ++ keyL 98 blockK f.blocks)))
def structK (s : StructD) : List UInt8 := keyS s.name ++ (flagL s.safe ++ (flagL s.hook ++ keyL 123 varK s.fields))
def enumK (s : EnumD) : List UInt8 := keyS s.name ++ keyL 123 varK s.variants
def progK (p : ProgD) : List UInt8 := keyL 115 structK p.structs ++ (keyL 101 enumK p.enums ++ keyL 102 funcK p.funcs)
end Go.Proofs.YtlppbgmcoknliaaGreatDoor
namespace Go.Proofs.YtlppbgmcoknliaaGreatDoor
set_option linter.unusedVariables false
open Go.RowKit

theorem flat_sz {α : Type} {f : α → List UInt8} {g : α → Nat} {c : Nat} : ∀ {l : List α}, (∀ x ∈ l, (f x).length ≤ c * g x) → (l.flatMap f).length ≤ c * szL g l
 | [], _ => Nat.zero_le _
 | x :: l, h => by
  have h1 := h x (by simp)
  have h2 := flat_sz (l := l) (f := f) (g := g) (c := c) fun y hy => h y (by simp [hy])
  have h3 : szL g (x :: l) = g x + szL g l := rfl
  rw [List.flatMap_cons, List.length_append, h3, Nat.mul_add]
  omega
theorem keyL_sz {α : Type} {f : α → List UInt8} {g : α → Nat} {c : Nat} {k : UInt8} {l : List α} (h : ∀ x ∈ l, (f x).length ≤ c * g x) (hl : l.length < 18446744073709551616) : (keyL k f l).length ≤ 21 + c * szL g l := by
 have h1 := flat_sz h
 have h2 := decL_len20 _ hl
 unfold keyL
 rw [List.length_append, List.length_cons]
 omega
theorem szL_len {α : Type} {g : α → Nat} : ∀ {l : List α}, (∀ x ∈ l, 1 ≤ g x) → l.length ≤ szL g l
 | [], _ => Nat.zero_le _
 | x :: l, h => by
  have h1 := h x (by simp)
  have h2 := szL_len (l := l) (g := g) fun y hy => h y (by simp [hy])
  have h3 : szL g (x :: l) = g x + szL g l := rfl
  rw [List.length_cons, h3]
  omega
theorem keyS_sz (s : ByteArray) (h : szS s ≤ 1048576) : (keyS s).length ≤ 22 * szS s := by
 unfold szS at h ⊢
 have h2 := decL_len20 s.size (by omega)
 unfold keyS
 rw [List.length_append, List.length_cons, ← size_list]
 omega
theorem numK_sz {n : Int} (h : -9223372036854775808 ≤ n ∧ n ≤ 9223372036854775807) : (numK n).length ≤ 21 := by
 have h2 := decL_len20 n.natAbs (by omega)
 unfold numK
 split
 · rw [List.length_cons]; omega
 · omega
theorem keys_sz {k : UInt8} {l : List ByteArray} (h : szL szS l ≤ 1048576) : (keyL k keyS l).length ≤ 21 + 22 * szL szS l :=
 keyL_sz (fun x hx => keyS_sz x (Nat.le_trans (szL_mem (f := szS) hx) h)) (by have := szL_len (l := l) (g := szS) (fun x _ => Nat.le_add_left 1 _); omega)
theorem placeK_sz (p : PlaceD) (h : p.sz ≤ 1048576) : (placeK p).length ≤ 22 * p.sz := by
 have e : p.sz = szS p.loc + szL szS p.steps + 1 := rfl
 have h1 := keyS_sz p.loc (by omega)
 have h2 := keys_sz (k := 91) (l := p.steps) (by omega)
 unfold placeK
 rw [List.length_append]
 omega
theorem varK_sz (v : VarD) (h : v.sz ≤ 1048576) : (varK v).length ≤ 22 * v.sz := by
 have e : v.sz = szS v.name + szS v.type := rfl
 have h1 := keyS_sz v.name (by omega)
 have h2 := keyS_sz v.type (by omega)
 unfold varK
 rw [List.length_append]
 omega
theorem armK_sz (v : ArmD) (h : v.sz ≤ 1048576) : (armK v).length ≤ 22 * v.sz := by
 have e : v.sz = szS v.variant + szS v.loc + szS v.block := rfl
 have h1 := keyS_sz v.variant (by omega)
 have h2 := keyS_sz v.loc (by omega)
 have h3 := keyS_sz v.block (by omega)
 unfold armK
 rw [List.length_append, List.length_append]
 omega
theorem PlaceD.pos (p : PlaceD) : 1 ≤ p.sz := Nat.le_add_left 1 _
theorem VarD.pos (v : VarD) : 1 ≤ v.sz := by unfold VarD.sz szS; omega
theorem ArmD.pos (v : ArmD) : 1 ≤ v.sz := by unfold ArmD.sz szS; omega
theorem StmtD.pos (v : StmtD) : 1 ≤ v.sz := Nat.le_add_left 1 _
theorem BlockD.pos (v : BlockD) : 1 ≤ v.sz := Nat.le_add_left 1 _
theorem FuncD.pos (v : FuncD) : 1 ≤ v.sz := Nat.le_add_left 1 _
theorem StructD.pos (v : StructD) : 1 ≤ v.sz := Nat.le_add_left 1 _
theorem EnumD.pos (v : EnumD) : 1 ≤ v.sz := Nat.le_add_left 1 _
theorem places_sz {k : UInt8} {l : List PlaceD} (h : szL PlaceD.sz l ≤ 1048576) : (keyL k placeK l).length ≤ 21 + 22 * szL PlaceD.sz l :=
 keyL_sz (fun x hx => placeK_sz x (Nat.le_trans (szL_mem (f := PlaceD.sz) hx) h)) (by have := szL_len (l := l) (g := PlaceD.sz) (fun x _ => x.pos); omega)
theorem vars_sz {k : UInt8} {l : List VarD} (h : szL VarD.sz l ≤ 1048576) : (keyL k varK l).length ≤ 21 + 22 * szL VarD.sz l :=
 keyL_sz (fun x hx => varK_sz x (Nat.le_trans (szL_mem (f := VarD.sz) hx) h)) (by have := szL_len (l := l) (g := VarD.sz) (fun x _ => x.pos); omega)
theorem arms_sz {k : UInt8} {l : List ArmD} (h : szL ArmD.sz l ≤ 1048576) : (keyL k armK l).length ≤ 21 + 22 * szL ArmD.sz l :=
 keyL_sz (fun x hx => armK_sz x (Nat.le_trans (szL_mem (f := ArmD.sz) hx) h)) (by have := szL_len (l := l) (g := ArmD.sz) (fun x _ => x.pos); omega)
/-- Its numbers are 64-bit ones. -/
def StmtD.Nums (s : StmtD) : Prop := (-9223372036854775808 ≤ s.kind ∧ s.kind ≤ 9223372036854775807) ∧ (-9223372036854775808 ≤ s.n ∧ s.n ≤ 9223372036854775807)
def TermD.Nums (s : TermD) : Prop := -9223372036854775808 ≤ s.kind ∧ s.kind ≤ 9223372036854775807
theorem stmtK_sz (s : StmtD) (h : s.sz ≤ 1048576) (hn : s.Nums) : (stmtK s).length ≤ 100 * s.sz := by
 have e : s.sz = s.to.sz + szS s.name + szS s.variant + szL PlaceD.sz s.args + 1 := rfl
 have h1 := numK_sz hn.1
 have h2 := numK_sz hn.2
 have h3 := places_sz (k := 40) (l := [s.to]) (by show s.to.sz + 0 ≤ _; omega)
 have h4 := keyS_sz s.name (by omega)
 have h5 := keyS_sz s.variant (by omega)
 have h6 := places_sz (k := 40) (l := s.args) (by omega)
 have e2 : szL PlaceD.sz [s.to] = s.to.sz + 0 := rfl
 unfold stmtK
 simp only [List.length_append, List.length_cons]
 omega
theorem termK_sz (s : TermD) (h : s.sz ≤ 1048576) (hn : s.Nums) : (termK s).length ≤ 200 * s.sz := by
 have e : s.sz = s.to.sz + szS s.name + szL PlaceD.sz s.args + szL szS s.blocks + szL ArmD.sz s.arms + 1 := rfl
 have h1 := numK_sz hn
 have h3 := places_sz (k := 40) (l := [s.to]) (by show s.to.sz + 0 ≤ _; omega)
 have h4 := keyS_sz s.name (by omega)
 have h5 := places_sz (k := 40) (l := s.args) (by omega)
 have h6 := keys_sz (k := 91) (l := s.blocks) (by omega)
 have h7 := arms_sz (k := 97) (l := s.arms) (by omega)
 have e2 : szL PlaceD.sz [s.to] = s.to.sz + 0 := rfl
 unfold termK
 simp only [List.length_append]
 omega
def BlockD.Nums (b : BlockD) : Prop := (∀ s ∈ b.stmts, s.Nums) ∧ b.term.Nums
def FuncD.Nums (f : FuncD) : Prop := ∀ b ∈ f.blocks, b.Nums
def ProgD.Nums (p : ProgD) : Prop := ∀ f ∈ p.funcs, f.Nums
theorem stmts_sz {k : UInt8} {l : List StmtD} (h : szL StmtD.sz l ≤ 1048576) (hn : ∀ s ∈ l, s.Nums) : (keyL k stmtK l).length ≤ 21 + 100 * szL StmtD.sz l :=
 keyL_sz (fun x hx => stmtK_sz x (Nat.le_trans (szL_mem (f := StmtD.sz) hx) h) (hn x hx)) (by have := szL_len (l := l) (g := StmtD.sz) (fun x _ => x.pos); omega)
theorem blockK_sz (s : BlockD) (h : s.sz ≤ 1048576) (hn : s.Nums) : (blockK s).length ≤ 200 * s.sz := by
 have e : s.sz = szS s.name + szL StmtD.sz s.stmts + s.term.sz + 1 := rfl
 have h1 := keyS_sz s.name (by omega)
 have h2 := stmts_sz (k := 116) (l := s.stmts) (by omega) hn.1
 have h3 := termK_sz s.term (by omega) hn.2
 unfold blockK
 simp only [List.length_append]
 omega
theorem blocks_sz {k : UInt8} {l : List BlockD} (h : szL BlockD.sz l ≤ 1048576) (hn : ∀ s ∈ l, s.Nums) : (keyL k blockK l).length ≤ 21 + 200 * szL BlockD.sz l :=
 keyL_sz (fun x hx => blockK_sz x (Nat.le_trans (szL_mem (f := BlockD.sz) hx) h) (hn x hx)) (by have := szL_len (l := l) (g := BlockD.sz) (fun x _ => x.pos); omega)
theorem funcK_sz (s : FuncD) (h : s.sz ≤ 1048576) (hn : s.Nums) : (funcK s).length ≤ 200 * s.sz := by
 have e : s.sz = szS s.name + szS s.result + szL VarD.sz s.params + szL VarD.sz s.locals + szL BlockD.sz s.blocks + 1 := rfl
 have h1 := keyS_sz s.name (by omega)
 have h2 := keyS_sz s.result (by omega)
 have h3 := vars_sz (k := 123) (l := s.params) (by omega)
 have h4 := vars_sz (k := 123) (l := s.locals) (by omega)
 have h5 := blocks_sz (k := 98) (l := s.blocks) (by omega) hn
 unfold funcK
 simp only [List.length_append]
 omega
theorem funcs_sz {k : UInt8} {l : List FuncD} (h : szL FuncD.sz l ≤ 1048576) (hn : ∀ s ∈ l, s.Nums) : (keyL k funcK l).length ≤ 21 + 200 * szL FuncD.sz l :=
 keyL_sz (fun x hx => funcK_sz x (Nat.le_trans (szL_mem (f := FuncD.sz) hx) h) (hn x hx)) (by have := szL_len (l := l) (g := FuncD.sz) (fun x _ => x.pos); omega)
theorem structK_sz (s : StructD) (h : s.sz ≤ 1048576) : (structK s).length ≤ 200 * s.sz := by
 have e : s.sz = szS s.name + szL VarD.sz s.fields + 1 := rfl
 have h1 := keyS_sz s.name (by omega)
 have h2 := vars_sz (k := 123) (l := s.fields) (by omega)
 have h3 : ∀ b, (flagL b).length = 1 := fun b => by cases b <;> rfl
 unfold structK
 simp only [List.length_append, h3]
 omega
theorem enumK_sz (s : EnumD) (h : s.sz ≤ 1048576) : (enumK s).length ≤ 200 * s.sz := by
 have e : s.sz = szS s.name + szL VarD.sz s.variants + 1 := rfl
 have h1 := keyS_sz s.name (by omega)
 have h2 := vars_sz (k := 123) (l := s.variants) (by omega)
 unfold enumK
 simp only [List.length_append]
 omega
theorem structs_sz {k : UInt8} {l : List StructD} (h : szL StructD.sz l ≤ 1048576) : (keyL k structK l).length ≤ 21 + 200 * szL StructD.sz l :=
 keyL_sz (fun x hx => structK_sz x (Nat.le_trans (szL_mem (f := StructD.sz) hx) h)) (by have := szL_len (l := l) (g := StructD.sz) (fun x _ => x.pos); omega)
theorem enums_sz {k : UInt8} {l : List EnumD} (h : szL EnumD.sz l ≤ 1048576) : (keyL k enumK l).length ≤ 21 + 200 * szL EnumD.sz l :=
 keyL_sz (fun x hx => enumK_sz x (Nat.le_trans (szL_mem (f := EnumD.sz) hx) h)) (by have := szL_len (l := l) (g := EnumD.sz) (fun x _ => x.pos); omega)
theorem progK_sz (p : ProgD) (h : p.sz ≤ 1048576) (hn : p.Nums) : (progK p).length ≤ 300 * p.sz := by
 have e : p.sz = szL StructD.sz p.structs + szL EnumD.sz p.enums + szL FuncD.sz p.funcs + 1 := rfl
 have h1 := structs_sz (k := 115) (l := p.structs) (by omega)
 have h2 := enums_sz (k := 101) (l := p.enums) (by omega)
 have h3 := funcs_sz (k := 102) (l := p.funcs) (by omega) hn
 unfold progK
 simp only [List.length_append]
 omega
theorem fit_str {s : ByteArray} {n : Nat} (h : szS s ≤ n) (hn : n ≤ 1048576) : s.size ≤ 100000000 := by unfold szS at h; omega
end Go.Proofs.YtlppbgmcoknliaaGreatDoor
namespace Go.Proofs.YtlppbgmcoknliaaGreatDoor
set_option linter.unusedVariables false
open Go.RowKit

theorem ten_one (d : Nat) (h : d < 10) : (⟨#[48, 49, 50, 51, 52, 53, 54, 55, 56, 57]⟩ : ByteArray).extract d (d + 1) = ⟨#[UInt8.ofNat (48 + d)]⟩ :=
 match d, h with
 | 0, _ => by kernel_rfl
 | 1, _ => by kernel_rfl
 | 2, _ => by kernel_rfl
 | 3, _ => by kernel_rfl
 | 4, _ => by kernel_rfl
 | 5, _ => by kernel_rfl
 | 6, _ => by kernel_rfl
 | 7, _ => by kernel_rfl
 | 8, _ => by kernel_rfl
 | 9, _ => by kernel_rfl
set_option maxHeartbeats 2000000 in
set_option maxRecDepth 100000 in
theorem digits_any (N : Nat) (hN : N < 18446744073709551616) (w : World) :
 Calls Tryz.prog 53 #[.int .u64 N] w fun e w' => e = .returned (.string (bs (decL N))) ∧ w' = w := by
 have R0 : Hid (decL N ++ [] = decL N) := hidIt (by simp)
 have HL : Hid ((decL N).length ≤ 20) := hidIt (decL_len20 N hN)
 go_enter Tryz.func53, Tryz.ntmps53
 go_wp2_with fail
 go_loopg [0, 3] N (fun g s0 s2 wr => ∃ m : Nat, ∃ o : ByteArray, m ≤ g ∧ m < 18446744073709551616 ∧ s0 = .int .u64 m ∧ s2 = .string o ∧ wr = w ∧ Hid (decL m ++ o.data.toList = decL N))
 case atStart => exact ⟨N, _, Nat.le_refl _, hN, rfl, rfl, rfl, hidIt (by simp)⟩
 case round =>
  obtain ⟨m, o, hg, hm, rfl, rfl, rfl, R⟩ := hrel
  clear R0
  have hz : ¬ 9223372036854775807 < min (m % 10 + 1) 10 - m % 10 + o.size := by
   have h1 := HL.out
   rw [← R.out, List.length_append] at h1
   have h2 : o.size = o.data.toList.length := Lib.size_eq o
   omega
  have E : Hid ((⟨#[48, 49, 50, 51, 52, 53, 54, 55, 56, 57]⟩ : ByteArray).extract (m % 10) (m % 10 + 1) = ⟨#[UInt8.ofNat (48 + m % 10)]⟩) := hidIt (ten_one (m % 10) (Nat.mod_lt _ (by omega)))
  by_cases h0 : m < 10
  · have hq : ((m : Int) / 10 == 0) = true := by simp; omega
    have E2 : Hid ((⟨#[48, 49, 50, 51, 52, 53, 54, 55, 56, 57]⟩ : ByteArray).extract (m % 10) (m % 10 + 1) ++ o = bs (decL N)) := hidIt (by
     rw [E.out, ← R.out, decL, if_pos h0, Nat.mod_eq_of_lt h0]
     refine ByteArray.ext (Array.ext' ?_)
     rw [ByteArray.data_append, Array.toList_append]
     rfl)
    clear h0
    go_wp2_with fail
    go_ret
    exact ⟨by rw [E2.out]; rfl, rfl⟩
  · have hq : ((m : Int) / 10 == 0) = false := by simp; omega
    have E2 : Hid (decL (m / 10) ++ ((⟨#[48, 49, 50, 51, 52, 53, 54, 55, 56, 57]⟩ : ByteArray).extract (m % 10) (m % 10 + 1) ++ o).data.toList = decL N) := hidIt (by
     rw [E.out, ← R.out]
     conv => rhs; rw [decL, if_neg h0]
     rw [ByteArray.data_append, Array.toList_append]
     simp)
    have hc : Hid ((m : Int) / 10 = ((m / 10 : Nat) : Int)) := hidIt (by omega)
    go_wp2_with fail
    go_roundg (m / 10)
    case measure => omega
    case rel => exact ⟨m / 10, _, Nat.le_refl _, by omega, by first | rfl | rw [hc.out], rfl, rfl, E2⟩

set_option maxHeartbeats 2000000 in
set_option maxRecDepth 100000 in
theorem key_any (s : ByteArray) (hs : s.size ≤ 100000000) (w : World) :
 Calls Tryz.prog 54 #[.string s] w fun e w' => e = .returned (.string (bs (keyS s))) ∧ Below w.heap.size w w' := by
 have c1 : Hid (∀ W, Calls Tryz.prog 53 #[.int .u64 s.size] W fun e w' => e = .returned (.string (bs (decL s.size))) ∧ w' = W) := hidIt fun W => digits_any s.size (by omega) W
 have hl : (bs (decL s.size)).size ≤ 20 := by rw [bs_size]; exact decL_len20 _ (by omega)
 have hz1 : ¬ 9223372036854775807 < (bs (decL s.size)).size + 1 := by omega
 have hz2 : ¬ 9223372036854775807 < (bs (decL s.size)).size + 1 + s.size := by omega
 have E : Hid (bs (decL s.size) ++ ⟨#[58]⟩ ++ s = bs (keyS s)) := hidIt (by
  refine ByteArray.ext (Array.ext' ?_)
  simp only [ByteArray.data_append, Array.toList_append, keyS, bs]
  simp)
 clear hl
 generalize bs (decL s.size) = D at *
 generalize bs (keyS s) = K at *
 go_enter Tryz.func54, Tryz.ntmps54
 go_wp2_with (go_at_call 53; refine (c1.out _).mono ?_; rintro e w1 ⟨rfl, rfl⟩)
 go_ret
 exact ⟨by rw [E.out]; rfl, Below.refl _ _⟩

theorem flag_any (b : Bool) (w : World) :
 Calls Tryz.prog 55 #[.bool b] w fun e w' => e = .returned (.string (bs (flagL b))) ∧ w' = w := by
 cases b <;> (go_enter Tryz.func55, Tryz.ntmps55; go_wp2_with fail; go_ret; exact ⟨rfl, rfl⟩)

set_option maxHeartbeats 2000000 in
set_option maxRecDepth 100000 in
theorem numb_any (n : Int) (hn : (Lit.int .i64 n).wf = true) (w : World) :
 Calls Tryz.prog 57 #[.int .i64 n] w fun e w' => e = .returned (.string (bs (numK n))) ∧ w' = w := by
 obtain ⟨l1, l2⟩ := bounds_i64 hn
 clear hn
 by_cases hneg : n < 0
 · have c1 : Hid (∀ W, Calls Tryz.prog 53 #[.int .u64 (n.natAbs : Int)] W fun e w' => e = .returned (.string (bs (decL n.natAbs))) ∧ w' = W) := hidIt fun W => digits_any n.natAbs (by omega) W
   have hl : (bs (decL n.natAbs)).size ≤ 20 := by rw [bs_size]; exact decL_len20 _ (by omega)
   have hz1 : ¬ 9223372036854775807 < 1 + (bs (decL n.natAbs)).size := by omega
   have E : Hid (⟨#[45]⟩ ++ bs (decL n.natAbs) = bs (numK n)) := hidIt (by
    unfold numK
    rw [if_pos hneg]
    refine ByteArray.ext (Array.ext' ?_)
    simp only [ByteArray.data_append, Array.toList_append, bs]
    simp)
   have W : Hid (-(n + 1) + 1 = (n.natAbs : Int)) := hidIt (by omega)
   clear hl
   generalize bs (decL n.natAbs) = D at *
   generalize (n.natAbs : Int) = A at *
   generalize bs (numK n) = K at *
   go_enter Tryz.func57, Tryz.ntmps57
   go_wp2_with (go_at_call 53; rw [W.out]; refine (c1.out _).mono ?_; rintro e w1 ⟨rfl, rfl⟩)
   go_ret
   exact ⟨by rw [E.out]; rfl, rfl⟩
 · have c1 : Hid (∀ W, Calls Tryz.prog 53 #[.int .u64 (n.natAbs : Int)] W fun e w' => e = .returned (.string (bs (decL n.natAbs))) ∧ w' = W) := hidIt fun W => digits_any n.natAbs (by omega) W
   have E : Hid (bs (decL n.natAbs) = bs (numK n)) := hidIt (by
    unfold numK
    rw [if_neg hneg])
   have W : Hid (∀ K : Ending → World → Prop, ∀ W, Calls Tryz.prog 53 #[.int .u64 (n.natAbs : Int)] W K → Calls Tryz.prog 53 #[.int .u64 n] W K) := hidIt (fun K W h => by rwa [show (n.natAbs : Int) = n by omega] at h)
   have hn0 : 0 ≤ n := by omega
   generalize bs (decL n.natAbs) = D at *
   generalize (n.natAbs : Int) = A at *
   generalize bs (numK n) = K at *
   go_enter Tryz.func57, Tryz.ntmps57
   go_wp2_with (go_at_call 53; refine W.out _ _ ?_; refine (c1.out _).mono ?_; rintro e w1 ⟨rfl, rfl⟩)
   go_ret
   exact ⟨by rw [E.out]; rfl, rfl⟩
end Go.Proofs.YtlppbgmcoknliaaGreatDoor
namespace Go.Proofs.YtlppbgmcoknliaaGreatDoor
set_option linter.unusedVariables false
open Go.RowKit

theorem Sl.cell {w : World} {k : Nat} {a : Option Addr} {rows : List (List Value)} (h : Sl w k a rows) {j : Nat} {r : List Value} (hj : rows[j]? = some r) :
 ∃ b off, a = some ⟨b, off, none⟩ ∧ ∀ W, Below w.heap.size w W → ∀ i v, r[i]? = some v → W.cell? ⟨b, off + j * k + i, none⟩ = some v := by
 rcases h.at_ with h0 | ⟨b, off, e, hlt, hc⟩
 · rw [h0] at hj; simp at hj
 · refine ⟨b, off, e, fun W hW i v hi => ?_⟩
   rw [hW.cell (p := ⟨b, off + j * k + i, none⟩) hlt]
   exact hc j r i v hj hi
theorem app_bs (a b : List UInt8) : bs a ++ bs b = bs (a ++ b) := by
 refine ByteArray.ext (Array.ext' ?_)
 rw [ByteArray.data_append, Array.toList_append]
 rfl
theorem keyL_step {α : Type} (n : Nat) (c : UInt8) (f : α → List UInt8) (xs : List α) (k : Nat) (x : α) (h : xs[k]? = some x) : decL n ++ c :: (xs.take (k + 1)).flatMap f = (decL n ++ c :: (xs.take k).flatMap f) ++ f x := by
 rw [List.take_add_one, h, Option.toList_some, List.flatMap_append, List.flatMap_singleton]
 simp
theorem part_len {α : Type} (n : Nat) (c : UInt8) (f : α → List UInt8) (xs : List α) (k : Nat) : (decL n ++ c :: (xs.take k).flatMap f).length ≤ (decL n ++ c :: xs.flatMap f).length := by
 conv => rhs; rw [← List.take_append_drop k xs]
 simp only [List.flatMap_append, List.length_append, List.length_cons]
 omega

set_option maxHeartbeats 4000000 in
set_option maxRecDepth 100000 in
theorem keys_any (a : Option Addr) (xs : List ByteArray) (c : Nat) (w : World) (h : St w a xs) (hz : szL szS xs ≤ 1048576) :
 Calls Tryz.prog 59 #[.slice a xs.length c] w fun e w' => e = .returned (.string (bs (keyL 91 keyS xs))) ∧ Below w.heap.size w w' := by
 have hS : Hid (Sl w 1 a (xs.map (fun s => [Value.string s]))) := hidIt h
 have hbig : xs.length ≤ 1048576 := by have := hS.out.big; rwa [List.length_map] at this
 have HT : Hid ((keyL 91 keyS xs).length ≤ 30000000) := hidIt (by have := keys_sz (k := 91) hz; omega)
 have HF : Hid (∀ x ∈ xs, szS x ≤ 1048576) := hidIt fun x hx => Nat.le_trans (szL_mem (f := szS) hx) hz
 obtain ⟨n, hn⟩ : ∃ n, xs.length = n := ⟨_, rfl⟩
 have c53 : Hid (∀ W, Calls Tryz.prog 53 #[.int .u64 n] W fun e w' => e = .returned (.string (bs (decL n))) ∧ w' = W) := hidIt fun W => digits_any n (by omega) W
 have hKe : Hid (keyL 91 keyS xs = decL n ++ 91 :: xs.flatMap (keyS)) := hidIt (by rw [← hn]; rfl)
 rw [hKe.out]
 rw [hKe.out] at HT
 rw [hn] at hbig ⊢
 have hn := hidIt hn
 have E0 : Hid (bs (decL n) ++ ⟨#[91]⟩ = bs (decL n ++ 91 :: (xs.take 0).flatMap (keyS))) := hidIt (by rw [show (⟨#[91]⟩ : ByteArray) = bs [91] from rfl, app_bs]; simp)
 have hz0 : ¬ 9223372036854775807 < (bs (decL n)).size + 1 := by rw [bs_size]; have := decL_len20 n (by omega); omega
 clear h hz hKe
 generalize bs (decL n) = D0 at c53 E0 hz0
 go_enter Tryz.func59, Tryz.ntmps59
 go_wp2_with (go_at_call 53; refine (c53.out _).mono ?_; rintro e w1 ⟨rfl, rfl⟩)
 go_loopg [3, 4] n (fun g s3 s4 wr => ∃ k : Nat, ∃ t : ByteArray, k ≤ n ∧ n - k ≤ g ∧ s3 = .string t ∧ s4 = .int .i64 k ∧ Hid (t = bs (decL n ++ 91 :: (xs.take k).flatMap (keyS)) ∧ Below w1.heap.size w1 wr))
 case atStart => exact ⟨0, _, Nat.zero_le _, by omega, rfl, rfl, hidIt ⟨E0.out, Below.refl _ _⟩⟩
 case round =>
  clear E0 hz0 c53
  obtain ⟨k, t, hk, hg, rfl, rfl, R⟩ := hrel
  by_cases hlt : k < n
  · obtain ⟨x, hx⟩ : ∃ x, xs[k]? = some x := ⟨_, List.getElem?_eq_getElem (by rw [hn.out]; exact hlt)⟩
    obtain ⟨b1, o1, rfl, g1⟩ := hS.out.cell (j := k) (r := (fun s => [Value.string s]) x) (by rw [List.getElem?_map, hx]; rfl)
    have HX := hidIt hx
    have G1 : Hid (∀ W, Below w1.heap.size w1 W → W.cell? ⟨b1, o1 + k, none⟩ = some (.string x)) := hidIt (fun W hW => by
     have h1 := g1 W hW
     exact by simpa using h1 0 _ rfl)
    have E1 : Hid (t ++ bs ((keyS) x) = bs (decL n ++ 91 :: (xs.take (k + 1)).flatMap (keyS))) := hidIt (by rw [keyL_step n 91 (keyS) xs k x HX.out, R.out.1, app_bs])
    have hzt : t.size + (bs ((keyS) x)).size ≤ 30000000 := by
     have h1 := part_len n 91 (keyS) xs (k + 1)
     rw [keyL_step n 91 (keyS) xs k x HX.out, List.length_append] at h1
     have h2 := HT.out
     have h3 : t.size = (decL n ++ 91 :: (xs.take k).flatMap (keyS)).length := by rw [R.out.1, bs_size]
     rw [bs_size, h3]
     exact Nat.le_trans h1 h2
    have hzz : ¬ 9223372036854775807 < t.size + (bs (keyS x)).size := by omega
    have C0 : Hid (∀ W, Below w1.heap.size w1 W → Calls Tryz.prog 54 #[.string x] W fun e w' => e = .returned (.string (bs (keyS x))) ∧ Below W.heap.size W w') := hidIt (fun W _ => key_any x (fit_str (HF.out x (List.mem_of_getElem? HX.out)) (Nat.le_refl _)) W)
    clear g1 hx
    have HB := hidIt R.out.2
    have p0 := G1.out _ HB.out
    go_wp2_with (go_at_call 54; refine (C0.out _ HB.out).mono ?_; rintro e y ⟨rfl, hq⟩; have HB := hidIt (below_next HB.out hq); clear hq)
    go_roundg (n - (k + 1))
    case measure => omega
    case rel => exact ⟨k + 1, _, by omega, by omega, rfl, by go_num, hidIt ⟨E1.out, HB.out⟩⟩
  · have : k = n := by omega
    subst this
    have E1 : Hid (t = bs (decL k ++ 91 :: xs.flatMap (keyS))) := hidIt (by rw [R.out.1, List.take_of_length_le (by rw [hn.out]; exact Nat.le_refl _)])
    go_wp2_with fail
    go_ret
    exact ⟨by rw [E1.out]; rfl, R.out.2⟩

set_option maxHeartbeats 4000000 in
set_option maxRecDepth 100000 in
theorem varKeys_any (a : Option Addr) (xs : List VarD) (c : Nat) (w : World) (h : Vrs w a xs) (hz : szL VarD.sz xs ≤ 1048576) :
 Calls Tryz.prog 56 #[.slice a xs.length c] w fun e w' => e = .returned (.string (bs (keyL 123 varK xs))) ∧ Below w.heap.size w w' := by
 have hS : Hid (Sl w 2 a (xs.map VarD.row)) := hidIt h
 have hbig : xs.length ≤ 1048576 := by have := hS.out.big; rwa [List.length_map] at this
 have HT : Hid ((keyL 123 varK xs).length ≤ 30000000) := hidIt (by have := vars_sz (k := 123) hz; omega)
 have HF : Hid (∀ x ∈ xs, x.sz ≤ 1048576) := hidIt fun x hx => Nat.le_trans (szL_mem (f := VarD.sz) hx) hz
 obtain ⟨n, hn⟩ : ∃ n, xs.length = n := ⟨_, rfl⟩
 have c53 : Hid (∀ W, Calls Tryz.prog 53 #[.int .u64 n] W fun e w' => e = .returned (.string (bs (decL n))) ∧ w' = W) := hidIt fun W => digits_any n (by omega) W
 have hKe : Hid (keyL 123 varK xs = decL n ++ 123 :: xs.flatMap (varK)) := hidIt (by rw [← hn]; rfl)
 rw [hKe.out]
 rw [hKe.out] at HT
 rw [hn] at hbig ⊢
 have hn := hidIt hn
 have E0 : Hid (bs (decL n) ++ ⟨#[123]⟩ = bs (decL n ++ 123 :: (xs.take 0).flatMap (varK))) := hidIt (by rw [show (⟨#[123]⟩ : ByteArray) = bs [123] from rfl, app_bs]; simp)
 have hz0 : ¬ 9223372036854775807 < (bs (decL n)).size + 1 := by rw [bs_size]; have := decL_len20 n (by omega); omega
 clear h hz hKe
 generalize bs (decL n) = D0 at c53 E0 hz0
 go_enter Tryz.func56, Tryz.ntmps56
 go_wp2_with (go_at_call 53; refine (c53.out _).mono ?_; rintro e w1 ⟨rfl, rfl⟩)
 go_loopg [3, 4] n (fun g s3 s4 wr => ∃ k : Nat, ∃ t : ByteArray, k ≤ n ∧ n - k ≤ g ∧ s3 = .string t ∧ s4 = .int .i64 k ∧ Hid (t = bs (decL n ++ 123 :: (xs.take k).flatMap (varK)) ∧ Below w1.heap.size w1 wr))
 case atStart => exact ⟨0, _, Nat.zero_le _, by omega, rfl, rfl, hidIt ⟨E0.out, Below.refl _ _⟩⟩
 case round =>
  clear E0 hz0 c53
  obtain ⟨k, t, hk, hg, rfl, rfl, R⟩ := hrel
  by_cases hlt : k < n
  · obtain ⟨x, hx⟩ : ∃ x, xs[k]? = some x := ⟨_, List.getElem?_eq_getElem (by rw [hn.out]; exact hlt)⟩
    obtain ⟨b1, o1, rfl, g1⟩ := hS.out.cell (j := k) (r := VarD.row x) (by rw [List.getElem?_map, hx]; rfl)
    have HX := hidIt hx
    have G1 : Hid (∀ W, Below w1.heap.size w1 W → W.cell? ⟨b1, o1 + k * 2, none⟩ = some (.string x.name) ∧ W.cell? ⟨b1, o1 + k * 2 + 1, none⟩ = some (.string x.type)) := hidIt (fun W hW => by
     have h1 := g1 W hW
     exact ⟨by simpa using h1 0 _ rfl, by simpa using h1 1 _ rfl⟩)
    have E1 : Hid (t ++ bs ((varK) x) = bs (decL n ++ 123 :: (xs.take (k + 1)).flatMap (varK))) := hidIt (by rw [keyL_step n 123 (varK) xs k x HX.out, R.out.1, app_bs])
    have hzt : t.size + (bs ((varK) x)).size ≤ 30000000 := by
     have h1 := part_len n 123 (varK) xs (k + 1)
     rw [keyL_step n 123 (varK) xs k x HX.out, List.length_append] at h1
     have h2 := HT.out
     have h3 : t.size = (decL n ++ 123 :: (xs.take k).flatMap (varK)).length := by rw [R.out.1, bs_size]
     rw [bs_size, h3]
     exact Nat.le_trans h1 h2
    have C0 : Hid (∀ W, Below w1.heap.size w1 W → Calls Tryz.prog 54 #[.string x.name] W fun e w' => e = .returned (.string (bs (keyS x.name))) ∧ Below W.heap.size W w') := hidIt (fun W _ => key_any x.name (fit_str (n := 1048576) (by have := HF.out x (List.mem_of_getElem? HX.out); unfold VarD.sz at this; omega) (Nat.le_refl _)) W)
    have C1 : Hid (∀ W, Below w1.heap.size w1 W → Calls Tryz.prog 54 #[.string x.type] W fun e w' => e = .returned (.string (bs (keyS x.type))) ∧ Below W.heap.size W w') := hidIt (fun W _ => key_any x.type (fit_str (n := 1048576) (by have := HF.out x (List.mem_of_getElem? HX.out); unfold VarD.sz at this; omega) (Nat.le_refl _)) W)
    have E2 : Hid (bs (keyS x.name) ++ bs (keyS x.type) = bs ((varK) x)) := hidIt (app_bs _ _)
    have hz1 : (bs (keyS x.name)).size + (bs (keyS x.type)).size = (bs ((varK) x)).size := by rw [← E2.out, ByteArray.size_append]
    obtain ⟨S0, e0⟩ : ∃ S, bs (keyS x.name) = S := ⟨_, rfl⟩
    obtain ⟨S1, e1⟩ : ∃ S, bs (keyS x.type) = S := ⟨_, rfl⟩
    rw [e0, e1] at E2 hz1
    rw [e0] at C0
    rw [e1] at C1
    rw [← E2.out] at E1
    have hzz : ¬ 9223372036854775807 < S0.size + S1.size := by omega
    have hzz2 : ¬ 9223372036854775807 < t.size + (S0.size + S1.size) := by omega
    clear g1 hx e0 e1 E2 hz1 hzt
    have HB := hidIt R.out.2.drew
    have sw := G1.out _ R.out.2
    have K1 : Hid True := hidIt trivial
    go_wp2_with fail
    go_region_held3 (fun W => W.cell? ⟨b1, o1 + k * 2, none⟩ = some (.string x.name) ∧ W.cell? ⟨b1, o1 + k * 2 + 1, none⟩ = some (.string x.type)) (go_keep)
     (first
     | (go_at_call 54; have tk := K1; clear tk K1; refine (C0.out _ HB.out).mono ?_; rintro e y ⟨rfl, hq⟩; have HB := hidIt (below_next HB.out hq); have sS := G1.out _ HB.out; clear hq)
     | (go_at_call 54; refine (C1.out _ HB.out).mono ?_; rintro e y ⟨rfl, hq⟩; have HB := hidIt (below_next HB.out hq); have sS := G1.out _ HB.out; clear hq))
    go_wp2
    go_roundg (n - (k + 1))
    case measure => omega
    case rel => exact ⟨k + 1, _, by omega, by omega, rfl, by go_num, hidIt ⟨E1.out, HB.out⟩⟩
  · have : k = n := by omega
    subst this
    have E1 : Hid (t = bs (decL k ++ 123 :: xs.flatMap (varK))) := hidIt (by rw [R.out.1, List.take_of_length_le (by rw [hn.out]; exact Nat.le_refl _)])
    go_wp2_with fail
    go_ret
    exact ⟨by rw [E1.out]; rfl, R.out.2⟩

set_option maxHeartbeats 4000000 in
set_option maxRecDepth 100000 in
theorem placeKeys_any (a : Option Addr) (xs : List PlaceX) (c : Nat) (w : World) (h : Pls w a xs) (hz : szL PlaceD.sz (xs.map PlaceX.d) ≤ 1048576) :
 Calls Tryz.prog 58 #[.slice a xs.length c] w fun e w' => e = .returned (.string (bs (keyL 40 placeK (xs.map PlaceX.d)))) ∧ Below w.heap.size w w' := by
 have hS : Hid (Sl w 2 a (xs.map PlaceX.row)) := hidIt h.1
 have hbig : xs.length ≤ 1048576 := by have := hS.out.big; rwa [List.length_map] at this
 have HT : Hid ((keyL 40 placeK (xs.map PlaceX.d)).length ≤ 30000000) := hidIt (by have := places_sz (k := 40) hz; omega)
 have HF : Hid (∀ x ∈ xs, x.d.sz ≤ 1048576) := hidIt fun x hx => Nat.le_trans (szL_mem (f := PlaceD.sz) (List.mem_map_of_mem hx)) hz
 have HP := hidIt h.2
 obtain ⟨n, hn⟩ : ∃ n, xs.length = n := ⟨_, rfl⟩
 have c53 : Hid (∀ W, Calls Tryz.prog 53 #[.int .u64 n] W fun e w' => e = .returned (.string (bs (decL n))) ∧ w' = W) := hidIt fun W => digits_any n (by omega) W
 have hKe : Hid (keyL 40 placeK (xs.map PlaceX.d) = decL n ++ 40 :: xs.flatMap (fun x : PlaceX => placeK x.d)) := hidIt (by rw [← hn]; unfold keyL; rw [List.length_map, List.flatMap_map])
 rw [hKe.out]
 rw [hKe.out] at HT
 rw [hn] at hbig ⊢
 have hn := hidIt hn
 have E0 : Hid (bs (decL n) ++ ⟨#[40]⟩ = bs (decL n ++ 40 :: (xs.take 0).flatMap (fun x : PlaceX => placeK x.d))) := hidIt (by rw [show (⟨#[40]⟩ : ByteArray) = bs [40] from rfl, app_bs]; simp)
 have hz0 : ¬ 9223372036854775807 < (bs (decL n)).size + 1 := by rw [bs_size]; have := decL_len20 n (by omega); omega
 clear h hz hKe
 generalize bs (decL n) = D0 at c53 E0 hz0
 go_enter Tryz.func58, Tryz.ntmps58
 go_wp2_with (go_at_call 53; refine (c53.out _).mono ?_; rintro e w1 ⟨rfl, rfl⟩)
 go_loopg [3, 4] n (fun g s3 s4 wr => ∃ k : Nat, ∃ t : ByteArray, k ≤ n ∧ n - k ≤ g ∧ s3 = .string t ∧ s4 = .int .i64 k ∧ Hid (t = bs (decL n ++ 40 :: (xs.take k).flatMap (fun x : PlaceX => placeK x.d)) ∧ Below w1.heap.size w1 wr))
 case atStart => exact ⟨0, _, Nat.zero_le _, by omega, rfl, rfl, hidIt ⟨E0.out, Below.refl _ _⟩⟩
 case round =>
  clear E0 hz0 c53
  obtain ⟨k, t, hk, hg, rfl, rfl, R⟩ := hrel
  by_cases hlt : k < n
  · obtain ⟨x, hx⟩ : ∃ x, xs[k]? = some x := ⟨_, List.getElem?_eq_getElem (by rw [hn.out]; exact hlt)⟩
    obtain ⟨b1, o1, rfl, g1⟩ := hS.out.cell (j := k) (r := PlaceX.row x) (by rw [List.getElem?_map, hx]; rfl)
    have HX := hidIt hx
    have G1 : Hid (∀ W, Below w1.heap.size w1 W → W.cell? ⟨b1, o1 + k * 2, none⟩ = some (.string x.loc) ∧ W.cell? ⟨b1, o1 + k * 2 + 1, none⟩ = some (.slice x.sa x.steps.length x.sc)) := hidIt (fun W hW => by
     have h1 := g1 W hW
     exact ⟨by simpa using h1 0 _ rfl, by simpa using h1 1 _ rfl⟩)
    have E1 : Hid (t ++ bs ((fun x : PlaceX => placeK x.d) x) = bs (decL n ++ 40 :: (xs.take (k + 1)).flatMap (fun x : PlaceX => placeK x.d))) := hidIt (by rw [keyL_step n 40 (fun x : PlaceX => placeK x.d) xs k x HX.out, R.out.1, app_bs])
    have hzt : t.size + (bs ((fun x : PlaceX => placeK x.d) x)).size ≤ 30000000 := by
     have h1 := part_len n 40 (fun x : PlaceX => placeK x.d) xs (k + 1)
     rw [keyL_step n 40 (fun x : PlaceX => placeK x.d) xs k x HX.out, List.length_append] at h1
     have h2 := HT.out
     have h3 : t.size = (decL n ++ 40 :: (xs.take k).flatMap (fun x : PlaceX => placeK x.d)).length := by rw [R.out.1, bs_size]
     rw [bs_size, h3]
     exact Nat.le_trans h1 h2
    have C0 : Hid (∀ W, Below w1.heap.size w1 W → Calls Tryz.prog 54 #[.string x.loc] W fun e w' => e = .returned (.string (bs (keyS x.loc))) ∧ Below W.heap.size W w') := hidIt (fun W _ => key_any x.loc (fit_str (n := 1048576) (by have := HF.out x (List.mem_of_getElem? HX.out); unfold PlaceX.d PlaceD.sz at this; simp only at this; omega) (Nat.le_refl _)) W)
    have C1 : Hid (∀ W, Below w1.heap.size w1 W → Calls Tryz.prog 59 #[.slice x.sa x.steps.length x.sc] W fun e w' => e = .returned (.string (bs (keyL 91 keyS x.steps))) ∧ Below W.heap.size W w') := hidIt (fun W hW => keys_any x.sa x.steps x.sc W (St.on (HP.out x (List.mem_of_getElem? HX.out)) hW) (by have := HF.out x (List.mem_of_getElem? HX.out); unfold PlaceX.d PlaceD.sz at this; simp only at this; omega))
    have E2 : Hid (bs (keyS x.loc) ++ bs (keyL 91 keyS x.steps) = bs ((fun x : PlaceX => placeK x.d) x)) := hidIt (app_bs _ _)
    have hz1 : (bs (keyS x.loc)).size + (bs (keyL 91 keyS x.steps)).size = (bs ((fun x : PlaceX => placeK x.d) x)).size := by rw [← E2.out, ByteArray.size_append]
    obtain ⟨S0, e0⟩ : ∃ S, bs (keyS x.loc) = S := ⟨_, rfl⟩
    obtain ⟨S1, e1⟩ : ∃ S, bs (keyL 91 keyS x.steps) = S := ⟨_, rfl⟩
    rw [e0, e1] at E2 hz1
    rw [e0] at C0
    rw [e1] at C1
    rw [← E2.out] at E1
    have hzz : ¬ 9223372036854775807 < S0.size + S1.size := by omega
    have hzz2 : ¬ 9223372036854775807 < t.size + (S0.size + S1.size) := by omega
    clear g1 hx e0 e1 E2 hz1 hzt
    have HB := hidIt R.out.2.drew
    have sw := G1.out _ R.out.2
    have K1 : Hid True := hidIt trivial
    go_wp2_with fail
    go_region_held3 (fun W => W.cell? ⟨b1, o1 + k * 2, none⟩ = some (.string x.loc) ∧ W.cell? ⟨b1, o1 + k * 2 + 1, none⟩ = some (.slice x.sa x.steps.length x.sc)) (go_keep)
     (first
     | (go_at_call 54; have tk := K1; clear tk K1; refine (C0.out _ HB.out).mono ?_; rintro e y ⟨rfl, hq⟩; have HB := hidIt (below_next HB.out hq); have sS := G1.out _ HB.out; clear hq)
     | (go_at_call 59; refine (C1.out _ HB.out).mono ?_; rintro e y ⟨rfl, hq⟩; have HB := hidIt (below_next HB.out hq); have sS := G1.out _ HB.out; clear hq))
    go_wp2
    go_roundg (n - (k + 1))
    case measure => omega
    case rel => exact ⟨k + 1, _, by omega, by omega, rfl, by go_num, hidIt ⟨E1.out, HB.out⟩⟩
  · have : k = n := by omega
    subst this
    have E1 : Hid (t = bs (decL k ++ 40 :: xs.flatMap (fun x : PlaceX => placeK x.d))) := hidIt (by rw [R.out.1, List.take_of_length_le (by rw [hn.out]; exact Nat.le_refl _)])
    go_wp2_with fail
    go_ret
    exact ⟨by rw [E1.out]; rfl, R.out.2⟩

end Go.Proofs.YtlppbgmcoknliaaGreatDoor
namespace Go.Proofs.YtlppbgmcoknliaaGreatDoor
set_option linter.unusedVariables false
open Go.RowKit

theorem digits_below (n : Nat) (hn : n < 18446744073709551616) (W : World) : Calls Tryz.prog 53 #[.int .u64 n] W fun e w' => e = .returned (.string (bs (decL n))) ∧ Below W.heap.size W w' := (digits_any n hn W).mono fun e w' ⟨h1, h2⟩ => ⟨h1, by rw [h2]; exact Below.refl _ _⟩
theorem flag_below (b : Bool) (W : World) : Calls Tryz.prog 55 #[.bool b] W fun e w' => e = .returned (.string (bs (flagL b))) ∧ Below W.heap.size W w' := (flag_any b W).mono fun e w' ⟨h1, h2⟩ => ⟨h1, by rw [h2]; exact Below.refl _ _⟩
theorem numb_below (n : Int) (hn : (Lit.int .i64 n).wf = true) (W : World) : Calls Tryz.prog 57 #[.int .i64 n] W fun e w' => e = .returned (.string (bs (numK n))) ∧ Below W.heap.size W w' := (numb_any n hn W).mono fun e w' ⟨h1, h2⟩ => ⟨h1, by rw [h2]; exact Below.refl _ _⟩
theorem le_of_append {a b c : List UInt8} {n : Nat} (h : a ++ b = c) (hc : c.length ≤ n) : a.length + b.length ≤ n := by rw [← List.length_append, h]; exact hc
/-- The text of the structs up to k. -/
def txS (p : ProgD) (k : Nat) : List UInt8 := decL p.structs.length ++ 115 :: (p.structs.take k).flatMap structK
def txE (p : ProgD) (k : Nat) : List UInt8 := keyL 115 structK p.structs ++ (decL p.enums.length ++ 101 :: (p.enums.take k).flatMap enumK)
def txF (p : ProgD) (k : Nat) : List UInt8 := keyL 115 structK p.structs ++ (keyL 101 enumK p.enums ++ (decL p.funcs.length ++ 102 :: (p.funcs.take k).flatMap funcK))
theorem flat_len_take {α : Type} (f : α → List UInt8) (l : List α) (k : Nat) : ((l.take k).flatMap f).length ≤ (l.flatMap f).length := by
 conv => rhs; rw [← List.take_append_drop k l]
 rw [List.flatMap_append, List.length_append]
 omega
theorem flat_next {α : Type} (f : α → List UInt8) (l : List α) (k : Nat) (x : α) (h : l[k]? = some x) : (l.take (k + 1)).flatMap f = (l.take k).flatMap f ++ f x := by
 rw [List.take_add_one, h]
 simp
theorem txS_len (p : ProgD) (k : Nat) : (txS p k).length ≤ (progK p).length := by
 have := flat_len_take structK p.structs k
 unfold txS progK keyL
 simp only [List.length_append, List.length_cons]
 omega
theorem txE_len (p : ProgD) (k : Nat) : (txE p k).length ≤ (progK p).length := by
 have := flat_len_take enumK p.enums k
 unfold txE progK keyL
 simp only [List.length_append, List.length_cons]
 omega
theorem txF_len (p : ProgD) (k : Nat) : (txF p k).length ≤ (progK p).length := by
 have := flat_len_take funcK p.funcs k
 unfold txF progK keyL
 simp only [List.length_append, List.length_cons]
 omega
theorem txS_next {p : ProgD} {k : Nat} {x : StructD} (h : p.structs[k]? = some x) : txS p (k + 1) = txS p k ++ structK x := by
 unfold txS
 rw [flat_next structK _ _ _ h]
 simp
theorem txE_next {p : ProgD} {k : Nat} {x : EnumD} (h : p.enums[k]? = some x) : txE p (k + 1) = txE p k ++ enumK x := by
 unfold txE
 rw [flat_next enumK _ _ _ h]
 simp
theorem txF_next {p : ProgD} {k : Nat} {x : FuncD} (h : p.funcs[k]? = some x) : txF p (k + 1) = txF p k ++ funcK x := by
 unfold txF
 rw [flat_next funcK _ _ _ h]
 simp
theorem txE_zero (p : ProgD) : txE p 0 = txS p p.structs.length ++ (decL p.enums.length ++ [101]) := by
 unfold txE txS keyL
 rw [List.take_of_length_le (Nat.le_refl _)]
 simp
theorem txF_zero (p : ProgD) : txF p 0 = txE p p.enums.length ++ (decL p.funcs.length ++ [102]) := by
 unfold txF txE
 conv => lhs; rw [show keyL 101 enumK p.enums = decL p.enums.length ++ 101 :: p.enums.flatMap enumK from rfl]
 rw [List.take_of_length_le (Nat.le_refl _)]
 simp
theorem txF_all (p : ProgD) : txF p p.funcs.length = progK p := by
 unfold txF progK
 rw [List.take_of_length_le (Nat.le_refl _)]
 rfl
end Go.Proofs.YtlppbgmcoknliaaGreatDoor
