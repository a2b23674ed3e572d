/- The plain functions of images: what a good image is. -/
import Derived.Test.YtdfnmpmmkcpddaaDoorSpec
namespace Go.Proofs.YtdfnmpmmkcpddaaDoor

/-- The number in two bytes. -/
def b2 (s : ByteArray) (p : Nat) : Nat := 256 * byt s p + byt s (p + 1)
/-- The sum of the bytes ahead of place n. -/
def sumF (s : ByteArray) : Nat → Nat
  | 0 => 0
  | i + 1 => (sumF s i + (i + 1) * (byt s i + 1)) % 65521
/-- Slot j's bit, in the node at p. -/
def setF (s : ByteArray) (p j : Nat) : Bool := decide (byt s (p + 1 + j / 8) / 2 ^ (j % 8) % 2 = 1)
/-- How many of the first n bits are 1. -/
def onesF (s : ByteArray) (p : Nat) : Nat → Nat
  | 0 => 0
  | j + 1 => if setF s p j = true then onesF s p j + 1 else onesF s p j
/-- Where the entries of the node at p begin. -/
def entF (s : ByteArray) (p : Nat) : Nat := p + 1 + (2 ^ byt s p + 7) / 8
/-- No bit from j on (fuel f) that is no slot's. -/
def spareF (s : ByteArray) (p : Nat) : Nat → Nat → Bool
  | 0, _ => true
  | f + 1, j => if setF s p j = true then false else spareF s p f (j + 1)
/-- The node at p is as told and lies ahead of e; b bits are left. -/
def nodeF (s : ByteArray) (p e b : Nat) : Bool :=
  decide (p < e) && decide (1 ≤ byt s p ∧ byt s p ≤ b) && decide (entF s p ≤ e) && setF s p 0 && spareF s p (8 - 2 ^ byt s p) (2 ^ byt s p) && decide (entF s p + 2 * onesF s p (2 ^ byt s p) ≤ e)
/-- The entry at p is good with b bits and n nodes left. -/
def goodF (s : ByteArray) (e : Nat) : Nat → Nat → Nat → Bool
  | 0, p, _ => decide (b2 s p ≤ 250)
  | n + 1, p, b => decide (b2 s p ≤ 250) || (decide (1002 ≤ b2 s p) && nodeF s (p + b2 s p - 1000) e b &&
      (List.range (onesF s (p + b2 s p - 1000) (2 ^ byt s (p + b2 s p - 1000)))).all fun i => goodF s e n (entF s (p + b2 s p - 1000) + 2 * i) (b - byt s (p + b2 s p - 1000)))
/-- It is a good image. -/
def imgF (s : ByteArray) : Bool :=
  decide (10 ≤ s.size) && decide (byt s 0 = 70 ∧ byt s 1 = 73) && decide (b2 s 4 = s.size) && decide (1 ≤ byt s 2 ∧ byt s 2 ≤ 12 ∧ byt s 3 ≤ byt s 2) && decide (sumF s (s.size - 2) = b2 s (s.size - 2)) && goodF s (s.size - 2) (byt s 3) 6 (byt s 2)

theorem b2_le {s : ByteArray} {p : Nat} (h : p + 1 < s.size) : b2 s p ≤ 65535 := by
  unfold b2
  have h1 := byt_in (s := s) (k := p) (by omega)
  have h2 := byt_in (s := s) (k := p + 1) (by omega)
  have h3 := (s[p]'(by omega)).toNat_lt
  have h4 := (s[p + 1]'(by omega)).toNat_lt
  omega
theorem sumF_lt (s : ByteArray) : ∀ i, sumF s i < 65521
  | 0 => by simp [sumF]
  | i + 1 => by simp only [sumF]; omega
theorem onesF_le (s : ByteArray) (p : Nat) : ∀ n, onesF s p n ≤ n
  | 0 => Nat.le_refl _
  | n + 1 => by
    have := onesF_le s p n
    unfold onesF; split <;> omega
end Go.Proofs.YtdfnmpmmkcpddaaDoor
