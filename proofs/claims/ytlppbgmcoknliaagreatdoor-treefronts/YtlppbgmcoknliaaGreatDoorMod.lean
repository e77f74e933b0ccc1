/-
  The tokens of a text, as pure functions on lists of bytes. No walk here.
-/
import Derived.WalkKit
import Derived.WalkSpells
namespace Go.Proofs.YtlppbgmcoknliaaGreatDoor
set_option linter.unusedVariables false
open Go.RowKit

theorem hidIt {p : Prop} (h : p) : Hid p := h

def isLetter (b : UInt8) : Bool := decide (97 ≤ b.toNat) && decide (b.toNat ≤ 122)
def isDigit (b : UInt8) : Bool := decide (48 ≤ b.toNat) && decide (b.toNat ≤ 57)
def nameByte (b : UInt8) : Bool := isLetter b || isDigit b || b.toNat == 95
def noFeed (b : UInt8) : Bool := !(b.toNat == 10)
def signs : List UInt8 := [123, 125, 40, 41, 59, 44, 46, 42, 58, 61]
def isSign (b : UInt8) : Bool := signs.contains b
def isBlank (b : UInt8) : Bool := b.toNat == 32 || b.toNat == 9 || b.toNat == 10

def words : List (List UInt8) :=
  [[115, 116, 114, 117, 99, 116], [101, 110, 117, 109], [102, 110], [108, 101, 116], [115, 97, 102, 101], [104, 111, 111, 107],
   [105, 110, 116], [98, 111, 120], [114, 101, 102], [109, 117, 116], [97, 100, 100], [115, 117, 98], [108, 101, 115, 115],
   [117, 115, 101], [110, 101, 119], [116, 97, 103], [111, 117, 116], [103, 111, 116, 111], [105, 102], [109, 97, 116, 99, 104],
   [99, 104, 101, 99, 107], [99, 97, 108, 108], [99, 97, 116, 99, 104], [114, 101, 116, 117, 114, 110]]
def isWord (l : List UInt8) : Bool := words.contains l

/-- How many bytes at the beginning keep to p. -/
def spanL (p : UInt8 → Bool) : List UInt8 → Nat
  | [] => 0
  | b :: l => if p b then spanL p l + 1 else 0

/-- How many bytes are passed over; true: within a remark. -/
def passL : Bool → List UInt8 → Nat
  | _, [] => 0
  | false, b :: l => if isBlank b then passL false l + 1 else if b.toNat == 35 then passL true l + 1 else 0
  | true, b :: l => if b.toNat == 10 then passL false l + 1 else passL true l + 1

def valStep (n : Nat) (b : UInt8) : Nat := min (n * 10 + (b.toNat - 48)) 1099511627777
def valL (l : List UInt8) : Nat := l.foldl valStep 0

def dropMinus : List UInt8 → List UInt8
  | [] => []
  | b :: l => if b.toNat == 45 then l else b :: l

/-- What a token is, but for its place: kind, size, value. -/
structure Fst where
  kind : Nat
  size : Nat
  n : Int
  deriving DecidableEq

def nameL (l : List UInt8) : Option Fst :=
  if 16 < spanL nameByte l then none
  else if isWord (l.take (spanL nameByte l)) then some ⟨2, spanL nameByte l, 0⟩ else some ⟨1, spanL nameByte l, 0⟩
def numL (l : List UInt8) : Option Fst :=
  let d := dropMinus l
  let c := spanL isDigit d
  let n := valL (d.take c)
  if c = 0 ∨ 1099511627776 < n then none
  else some ⟨3, l.length - d.length + c, if 0 < l.length - d.length then -(n : Int) else n⟩
def firstL : List UInt8 → Option Fst
  | [] => none
  | b :: l => if isLetter b then nameL (b :: l) else if isDigit b || b.toNat == 45 then numL (b :: l) else if isSign b then some ⟨4, 1, 0⟩ else none

structure Tok where
  kind : Nat
  at_ : Nat
  text : List UInt8
  n : Int
  deriving DecidableEq

/-- The tokens from a place on, where nothing is to be passed over; f: more than there are bytes. -/
def lexGo : Nat → List UInt8 → Nat → Except Nat (List Tok)
  | 0, _, _ => .ok []
  | _ + 1, [], _ => .ok []
  | f + 1, b :: l, p =>
    match firstL (b :: l) with
    | none => .error p
    | some x =>
      let r := (b :: l).drop x.size
      match lexGo f (r.drop (passL false r)) (p + x.size + passL false r) with
      | .error q => .error q
      | .ok ts => .ok (⟨x.kind, p, (b :: l).take x.size, x.n⟩ :: ts)
def lexFrom (l : List UInt8) (p : Nat) : Except Nat (List Tok) := lexGo (l.length + 1) l p
def lexL (l : List UInt8) : Except Nat (List Tok) := lexFrom (l.drop (passL false l)) (passL false l)

theorem spanL_le (p : UInt8 → Bool) : ∀ l, spanL p l ≤ l.length
  | [] => Nat.le_refl _
  | b :: l => by
    unfold spanL
    have := spanL_le p l
    split <;> simp <;> omega
theorem passL_le : ∀ (c : Bool) l, passL c l ≤ l.length
  | _, [] => by simp [passL]
  | false, b :: l => by
    unfold passL
    have h1 := passL_le false l
    have h2 := passL_le true l
    split
    · simp; omega
    · split <;> simp; omega
  | true, b :: l => by
    unfold passL
    have h1 := passL_le false l
    have h2 := passL_le true l
    split <;> simp <;> omega
theorem passL_true : ∀ l, passL true l = spanL noFeed l + passL false (l.drop (spanL noFeed l))
  | [] => by simp [passL, spanL]
  | b :: l => by
    by_cases h : b.toNat = 10
    · simp [passL, spanL, noFeed, h, isBlank]
    · have := passL_true l
      simp [passL, spanL, noFeed, h, this]
      omega

theorem dropMinus_len (l : List UInt8) : (dropMinus l).length ≤ l.length ∧ l.length ≤ (dropMinus l).length + 1 := by
  cases l with
  | nil => simp [dropMinus]
  | cons b l => simp only [dropMinus]; split <;> simp

theorem spanL_pos {p : UInt8 → Bool} {b : UInt8} {l : List UInt8} (h : p b = true) : 0 < spanL p (b :: l) := by
  unfold spanL; rw [if_pos h]; omega

theorem numL_size {l : List UInt8} {x : Fst} (h : numL l = some x) : 0 < x.size ∧ x.size ≤ l.length := by
  unfold numL at h
  simp only at h
  split at h
  · cases h
  · injection h with h
    subst h
    have h1 := dropMinus_len l
    have h2 := spanL_le isDigit (dropMinus l)
    rename_i hc
    have hc1 : ¬ spanL isDigit (dropMinus l) = 0 := fun e => hc (.inl e)
    constructor
    · show 0 < l.length - (dropMinus l).length + spanL isDigit (dropMinus l); omega
    · show l.length - (dropMinus l).length + spanL isDigit (dropMinus l) ≤ l.length; omega

theorem firstL_size {l : List UInt8} {x : Fst} (h : firstL l = some x) : 0 < x.size ∧ x.size ≤ l.length := by
  cases l with
  | nil => cases h
  | cons b l =>
    simp only [firstL] at h
    split at h
    · rename_i hb
      have hp : 0 < spanL nameByte (b :: l) := spanL_pos (by simp [nameByte, hb])
      have hl := spanL_le nameByte (b :: l)
      unfold nameL at h
      split at h
      · cases h
      · split at h
        · injection h with h; subst h; exact ⟨hp, hl⟩
        · injection h with h; subst h; exact ⟨hp, hl⟩
    · split at h
      · exact numL_size h
      · split at h
        · injection h with h; subst h; exact ⟨Nat.zero_lt_one, by simp⟩
        · cases h

theorem lexGo_more : ∀ (f g : Nat) (l : List UInt8) (p : Nat), l.length < f → l.length < g → lexGo f l p = lexGo g l p
  | 0, _, l, _, h, _ => by omega
  | _, 0, l, _, _, h => by omega
  | f + 1, g + 1, [], p, _, _ => rfl
  | f + 1, g + 1, b :: l, p, h1, h2 => by
    unfold lexGo
    cases hf : firstL (b :: l) with
    | none => rfl
    | some x =>
      have hs := firstL_size hf
      simp only [List.length_cons] at h1 h2 hs
      have hlen : (((b :: l).drop x.size).drop (passL false ((b :: l).drop x.size))).length < f ∧ (((b :: l).drop x.size).drop (passL false ((b :: l).drop x.size))).length < g := by
        simp only [List.length_drop, List.length_cons]
        omega
      show (match lexGo f _ _ with | .error q => _ | .ok ts => _) = (match lexGo g _ _ with | .error q => _ | .ok ts => _)
      rw [lexGo_more f g _ _ hlen.1 hlen.2]

theorem lexFrom_nil (p : Nat) : lexFrom [] p = .ok [] := rfl
theorem lexFrom_none {l : List UInt8} (p : Nat) (hl : l ≠ []) (h : firstL l = none) : lexFrom l p = .error p := by
  cases l with
  | nil => exact absurd rfl hl
  | cons b l => unfold lexFrom lexGo; rw [h]
theorem lexFrom_some {l : List UInt8} (p : Nat) {x : Fst} (h : firstL l = some x) :
    lexFrom l p = (match lexFrom ((l.drop x.size).drop (passL false (l.drop x.size))) (p + x.size + passL false (l.drop x.size)) with
      | .error q => .error q
      | .ok ts => .ok (⟨x.kind, p, l.take x.size, x.n⟩ :: ts)) := by
  have hs := firstL_size h
  cases l with
  | nil => cases h
  | cons b l =>
    have : lexFrom (b :: l) p = lexGo ((b :: l).length + 1) (b :: l) p := rfl
    rw [this]
    unfold lexGo
    rw [h]
    simp only
    have e : lexGo (b :: l).length (((b :: l).drop x.size).drop (passL false ((b :: l).drop x.size))) (p + x.size + passL false ((b :: l).drop x.size)) = lexFrom (((b :: l).drop x.size).drop (passL false ((b :: l).drop x.size))) (p + x.size + passL false ((b :: l).drop x.size)) := by
      unfold lexFrom
      refine lexGo_more _ _ _ _ ?_ (by omega)
      simp only [List.length_drop, List.length_cons] at hs ⊢
      omega
    rw [e]

end Go.Proofs.YtlppbgmcoknliaaGreatDoor
