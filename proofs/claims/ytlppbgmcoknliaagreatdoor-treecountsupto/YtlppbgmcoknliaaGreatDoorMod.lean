/-
  The tokens of a text, as pure functions on lists of bytes. No walk here.
-/
import Derived.WalkKit
import Derived.WalkSpells
namespace Go.Proofs.YtlppbgmcoknliaaGreatDoor
set_option linter.unusedVariables false
open Go.RowKit

theorem hidIt {p : Prop} (h : p) : Hid p := h

def isLetter (b : UInt8) : Bool := decide (97 ≤ b.toNat) && decide (b.toNat ≤ 122)
def isDigit (b : UInt8) : Bool := decide (48 ≤ b.toNat) && decide (b.toNat ≤ 57)
def nameByte (b : UInt8) : Bool := isLetter b || isDigit b || b.toNat == 95
def signs : List UInt8 := [123, 125, 40, 41, 59, 44, 46, 42, 58, 61]
def isSign (b : UInt8) : Bool := signs.contains b
def words : List (List UInt8) :=
 [[115, 116, 114, 117, 99, 116], [101, 110, 117, 109], [102, 110], [108, 101, 116], [115, 97, 102, 101], [104, 111, 111, 107],
  [105, 110, 116], [98, 111, 120], [114, 101, 102], [109, 117, 116], [97, 100, 100], [115, 117, 98], [108, 101, 115, 115],
  [117, 115, 101], [110, 101, 119], [116, 97, 103], [111, 117, 116], [103, 111, 116, 111], [105, 102], [109, 97, 116, 99, 104],
  [99, 104, 101, 99, 107], [99, 97, 108, 108], [99, 97, 116, 99, 104], [114, 101, 116, 117, 114, 110]]
def isWord (l : List UInt8) : Bool := words.contains l

/-- How many bytes at the beginning keep to p. -/
def spanL (p : UInt8 → Bool) : List UInt8 → Nat
 | [] => 0
 | b :: l => if p b then spanL p l + 1 else 0

def valStep (n : Nat) (b : UInt8) : Nat := min (n * 10 + (b.toNat - 48)) 1099511627777
def valL (l : List UInt8) : Nat := l.foldl valStep 0

def dropMinus : List UInt8 → List UInt8
 | [] => []
 | b :: l => if b.toNat == 45 then l else b :: l

/-- What a token is, but for its place: kind, size, value. -/
structure Fst where
 kind : Nat
 size : Nat
 n : Int
 deriving DecidableEq

def nameL (l : List UInt8) : Option Fst :=
 if 16 < spanL nameByte l then none
 else if isWord (l.take (spanL nameByte l)) then some ⟨2, spanL nameByte l, 0⟩ else some ⟨1, spanL nameByte l, 0⟩
def numL (l : List UInt8) : Option Fst :=
 let d := dropMinus l
 let c := spanL isDigit d
 let n := valL (d.take c)
 if c = 0 ∨ 1099511627776 < n then none
 else some ⟨3, l.length - d.length + c, if 0 < l.length - d.length then -(n : Int) else n⟩
def firstL : List UInt8 → Option Fst
 | [] => none
 | b :: l => if isLetter b then nameL (b :: l) else if isDigit b || b.toNat == 45 then numL (b :: l) else if isSign b then some ⟨4, 1, 0⟩ else none

theorem spanL_le (p : UInt8 → Bool) : ∀ l, spanL p l ≤ l.length
 | [] => Nat.le_refl _
 | b :: l => by
  unfold spanL
  have := spanL_le p l
  split <;> simp <;> omega
theorem dropMinus_len (l : List UInt8) : (dropMinus l).length ≤ l.length ∧ l.length ≤ (dropMinus l).length + 1 := by
 cases l with
 | nil => simp [dropMinus]
 | cons b l => simp only [dropMinus]; split <;> simp

end Go.Proofs.YtlppbgmcoknliaaGreatDoor
