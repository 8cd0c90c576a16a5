/- The classes of bytes, told by numbers; the names; the other case of a letter. -/
import Derived.Test.YtlbhbjmobcikfaaGreatDoorOcMath
namespace Go.Proofs.YtlbhbjmobcikfaaGreatDoor
namespace Cl
/-- Does a byte lie between two others? -/
def inI (b : Nat) (lo hi : Int) : Bool := decide (lo ≤ (b : Int)) && decide ((b : Int) ≤ hi)
def isI (b : Nat) (x : Int) : Bool := (b : Int) == x
/-- The classes, by the places of their names. -/
def cls : Nat → Nat → Bool
  | 0, b => (inI b 65 90 || inI b 97 122) || inI b 48 57
  | 1, b => inI b 65 90 || inI b 97 122
  | 2, b => isI b 9 || isI b 32
  | 3, b => inI b 0 31 || isI b 127
  | 4, b => inI b 48 57
  | 5, b => inI b 33 126
  | 6, b => inI b 97 122
  | 7, b => inI b 32 126
  | 8, b => ((inI b 33 126 && !inI b 65 90) && !inI b 97 122) && !inI b 48 57
  | 9, b => inI b 9 13 || isI b 32
  | 10, b => inI b 65 90
  | 11, b => (inI b 48 57 || inI b 65 70) || inI b 97 102
  | _, _ => false
/-- The names, rising. -/
def nm : Nat → ByteArray
  | 0 => ⟨#[97, 108, 110, 117, 109]⟩
  | 1 => ⟨#[97, 108, 112, 104, 97]⟩
  | 2 => ⟨#[98, 108, 97, 110, 107]⟩
  | 3 => ⟨#[99, 110, 116, 114, 108]⟩
  | 4 => ⟨#[100, 105, 103, 105, 116]⟩
  | 5 => ⟨#[103, 114, 97, 112, 104]⟩
  | 6 => ⟨#[108, 111, 119, 101, 114]⟩
  | 7 => ⟨#[112, 114, 105, 110, 116]⟩
  | 8 => ⟨#[112, 117, 110, 99, 116]⟩
  | 9 => ⟨#[115, 112, 97, 99, 101]⟩
  | 10 => ⟨#[117, 112, 112, 101, 114]⟩
  | 11 => ⟨#[120, 100, 105, 103, 105, 116]⟩
  | _ => ⟨#[]⟩
/-- Their bytes. -/
def nl : Nat → List UInt8
  | 0 => [97, 108, 110, 117, 109]
  | 1 => [97, 108, 112, 104, 97]
  | 2 => [98, 108, 97, 110, 107]
  | 3 => [99, 110, 116, 114, 108]
  | 4 => [100, 105, 103, 105, 116]
  | 5 => [103, 114, 97, 112, 104]
  | 6 => [108, 111, 119, 101, 114]
  | 7 => [112, 114, 105, 110, 116]
  | 8 => [112, 117, 110, 99, 116]
  | 9 => [115, 112, 97, 99, 101]
  | 10 => [117, 112, 112, 101, 114]
  | 11 => [120, 100, 105, 103, 105, 116]
  | _ => []
/-- A text that is no name. -/
def No (s : ByteArray) : Prop := ∀ k, k < 12 → (s.toList == nl k) = false
/-- A word of the set of class k. -/
def cw (k q : Nat) : BitVec 64 := Oc.mk (cls k) q
/-- The bytes from lo to hi, a word of them. -/
def rg (lo hi q : Nat) : BitVec 64 := Oc.mk (fun b => decide (lo ≤ b) && decide (b ≤ hi)) q
/-- Sets on the way to a class. -/
def pp : Nat → Nat → Bool
  | 0, b => isI b 32
  | 1, b => isI b 32 || cls 8 b
  | 2, b => (isI b 32 || cls 8 b) || cls 4 b
  | 3, b => ((isI b 32 || cls 8 b) || cls 4 b) || cls 6 b
  | 4, b => cls 8 b || cls 4 b
  | 5, b => (cls 8 b || cls 4 b) || cls 6 b
  | 6, b => cls 4 b || cls 6 b
  | 7, b => inI b 65 70 || inI b 97 102
  | 8, b => inI b 10 13
  | 9, b => isI b 127
  | _, _ => false
def pw (j q : Nat) : BitVec 64 := Oc.mk (pp j) q
/-- The other case of a letter. -/
def oth (b : Nat) : Nat := if 65 ≤ b ∧ b ≤ 90 then b + 32 else if 97 ≤ b ∧ b ≤ 122 then b - 32 else b
theorem oth_lt {b : Nat} (h : b < 256) : oth b < 256 := by unfold oth; split; omega; split <;> omega
theorem oth_oth (b : Nat) : oth (oth b) = b := by unfold oth; split <;> (try split) <;> (try split) <;> (try split) <;> omega
/-- A set, and the other case of each letter that is in it. -/
def fold (p : Nat → Bool) : Nat → Bool := fun b => p b || p (oth b)
end Cl
end Go.Proofs.YtlbhbjmobcikfaaGreatDoor
