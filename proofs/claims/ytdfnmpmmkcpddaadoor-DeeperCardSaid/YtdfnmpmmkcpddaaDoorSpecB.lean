/- The plain functions: beginnings, addresses as texts. -/
import Derived.Test.YtdfnmpmmkcpddaaDoorBase
import Derived.Laws.Bits128
namespace Go.Proofs.YtdfnmpmmkcpddaaDoor
open Go.RowKit

theorem i64_and1 (n : Int) : bits .and .i64 n 1 = n % 2 := by
  have h1 : (BitVec.ofInt 64 1).toNat = 2 ^ 1 - 1 := by decide
  have key : (BitVec.ofInt 64 n &&& BitVec.ofInt 64 1).toNat = (n % ((2 ^ 64 : Nat) : Int)).toNat % 2 ^ 1 := by
    rw [BitVec.toNat_and, BitVec.toNat_ofInt, h1, Nat.and_two_pow_sub_one_eq_mod]
  show IntKind.i64.wrap ((BitVec.ofInt 64 n &&& BitVec.ofInt 64 1).toNat : Nat) = n % 2
  rw [key, IntKind.wrap_i64]
  omega

/-- A beginning. -/
def pre (b a : ByteArray) : Bool := decide (b.data.toList <+: a.data.toList)

theorem pre_yes {a b : ByteArray} (h : b.size ≤ a.size) : ((a.extract 0 b.size).toList == b.toList) = pre b a := by
  have hs : b.data.toList.length ≤ a.data.toList.length := h
  have hb : b.data.toList.length = b.size := rfl
  have e1 : (a.extract 0 b.size).data.toList = a.data.toList.take b.size := by
    simp [ByteArray.data_extract, List.extract_eq_take_drop]
  rw [Bool.eq_iff_iff, beq_iff_eq, ByteArray.toList_eq, ByteArray.toList_eq, e1]
  unfold pre
  rw [decide_eq_true_eq, List.prefix_iff_eq_take, hb]
  exact ⟨fun e => e.symm, fun e => e.symm⟩
theorem pre_no {a b : ByteArray} (h : ¬ b.size ≤ a.size) : pre b a = false := by
  unfold pre
  rw [decide_eq_false_iff_not]
  intro hp
  have := hp.length_le
  exact h this

/-- A bit as a digit. -/
def dg (d : Nat) : UInt8 := if d = 1 then 49 else 48
/-- The lowest i bits of a number, as digits. -/
def lowb (a : Nat) : Nat → List UInt8
  | 0 => []
  | i + 1 => dg (a / 2 ^ i % 2) :: lowb a i
theorem dg_toNat {d : Nat} (h : d ≤ 1) : ((dg d).toNat : Int) = 48 + d := by
  unfold dg; split
  · subst d; rfl
  · have : d = 0 := by omega
    subst d; rfl
theorem lowb_length (a : Nat) : ∀ i, (lowb a i).length = i
  | 0 => rfl
  | i + 1 => by simp [lowb, lowb_length a i]
/-- An address as a text. -/
def addr (a W : Nat) : ByteArray := ⟨(lowb a W).toArray⟩
theorem addr_size (a W : Nat) : (addr a W).size = W := by
  show (lowb a W).toArray.size = W
  simp [lowb_length]
theorem addr_succ {a i : Nat} {b : ByteArray} (hb : b = addr a i) {c : UInt8} (hc : c = dg (a / 2 ^ i % 2)) : (⟨#[c]⟩ : ByteArray) ++ b = addr a (i + 1) := by
  subst hb hc
  refine ba_ext ?_
  simp [addr, lowb, ByteArray.data_append]
theorem size_cons (b : ByteArray) (c : UInt8) : ((⟨#[c]⟩ : ByteArray) ++ b).size = b.size + 1 := by
  rw [ByteArray.size_append]; show 1 + b.size = _; omega

theorem wrap_pow {W : Nat} (h : W ≤ 12) : wrap64 (2 ^ W) = ((2 ^ W : Nat) : Int) ∧ 2 ^ W ≤ 4096 ∧ 0 < 2 ^ W := by
  have h1 : 2 ^ W ≤ 2 ^ 12 := Nat.pow_le_pow_right (by omega) h
  have h2 : 0 < 2 ^ W := Nat.pow_pos (by omega)
  have e : ((2 : Int) ^ W) = ((2 ^ W : Nat) : Int) := by rw [Int.natCast_pow]; rfl
  refine ⟨?_, h1, h2⟩
  rw [e]
  unfold wrap64
  omega
end Go.Proofs.YtdfnmpmmkcpddaaDoor
