import Derived.Test.YtdfnmpmmkcpddaaDoorRows
import Derived.Test.YtdfnmpmmkcpddaaDoorQ01
import Derived.WalkKit
import Derived.WalkSpells
import Derived.WalkLawsBesides
import Derived.Deep.QuietTactic
import Derived.BigQuiet
import Derived.Deep.LoopGhost
/- Small helpers: bytes, endings. -/
namespace Go.Proofs.YtdfnmpmmkcpddaaDoor
open Go.RowKit

/-- A string's length, of a slot's value. -/
def strOf : Value → Nat | .string b => b.size | _ => 0

theorem size_snoc (b : ByteArray) (c : UInt8) : (b ++ (⟨#[c]⟩ : ByteArray)).size = b.size + 1 := by
  rw [ByteArray.size_append]; rfl
theorem ba_ext {a b : ByteArray} (h : a.data.toList = b.data.toList) : a = b := by
  cases a; cases b; simp only [ByteArray.mk.injEq]; exact Array.toList_inj.1 h
theorem extract_snoc {s b : ByteArray} {p n : Nat} {c : UInt8} (h : byt s (p + n) = c.toNat) (hb : b = s.extract p (p + n)) : b ++ (⟨#[c]⟩ : ByteArray) = s.extract p (p + (n + 1)) := by
  have hk : p + n < s.size := byt_lt_size (by have := c.toNat_lt; omega)
  have hc : s[p + n] = c := UInt8.toNat_inj.1 (by rw [← byt_in hk]; exact h)
  have hk' : p + n < s.data.size := hk
  have hc' : s.data[p + n] = c := hc
  subst hb
  refine ba_ext ?_
  simp only [ByteArray.data_append, ByteArray.data_extract, Array.toList_append, Array.toList_extract]
  have e : List.extract s.data.toList p (p + n) ++ [c] = List.extract s.data.toList p (p + (n + 1)) := by
    simp only [List.extract_eq_take_drop]
    rw [show p + n - p = n from by omega, show p + (n + 1) - p = n + 1 from by omega, List.take_succ_eq_append_getElem (by simp; omega)]
    simp [hc']
  exact e
theorem ret2 {a b a' b' : Value} (h1 : a = a') (h2 : b = b') : Ending.returned (.tuple #[a, b]) = .returned (.tuple #[a', b']) := by rw [h1, h2]
theorem ret3 {a b c a' b' c' : Value} (h1 : a = a') (h2 : b = b') (h3 : c = c') : Ending.returned (.tuple #[a, b, c]) = .returned (.tuple #[a', b', c']) := by rw [h1, h2, h3]
theorem int_eq {k : IntKind} {a b : Int} (h : a = b) : Value.int k a = .int k b := by rw [h]
theorem str_eq {a b : ByteArray} (h : a = b) : Value.string a = .string b := by rw [h]

theorem ba_ne {a b : ByteArray} (h : a ≠ b) : (a.toList == b.toList) = false := by
  rw [beq_eq_false_iff_ne]; intro e; exact h (ba_ext (by rwa [ByteArray.toList_eq, ByteArray.toList_eq] at e))
theorem ba_eq {a b : ByteArray} (h : a = b) : (a.toList == b.toList) = true := by rw [h]; simp
theorem ret1 {a a' : Value} (h : a = a') : Ending.returned a = .returned a' := by rw [h]
theorem bool_eq {a b : Bool} (h : a = b) : Value.bool a = .bool b := by rw [h]

/-- What holds below the whole heap: nothing that was there has turned. -/
theorem grown_of_below {w w' : World} (h : Below w.heap.size w w') : w.grownBy w' none :=
  ⟨h.os, h.tape, h.output, h.size, fun k hk _ => h.block k hk⟩
theorem own_below {w w' : World} {base : Nat} {e : TypeId} {size : Nat} {v : Value} {n : Nat} {xs : List Value} (h : w.ownsRow base e size v n xs) (hb : Below w.heap.size w w') : w'.ownsRow base e size v n xs := by
  refine h.kept (grown_of_below hb) ?_
  cases hv : v.ownBlock with
  | none => exact .inl rfl
  | some k => exact .inr (by simp)
theorem own_shape {w : World} {base : Nat} {e : TypeId} {size : Nat} {v : Value} {n : Nat} {xs : List Value} (h : w.ownsRow base e size v n xs) : ∃ ao cap, v = .slice ao n cap := by
  rcases h.2 with ⟨rfl, rfl⟩ | ⟨g, cap, cur, rfl, _⟩
  · exact ⟨_, _, rfl⟩
  · exact ⟨_, _, rfl⟩

/-- A route's two cells. -/
def rc1 (r : Rt) : List Value := [.string r.bits, .int .i64 (r.hop : Nat)]
/-- The cells of routes. -/
def rc (l : List Rt) : List Value := l.flatMap rc1
theorem rc_snoc (l : List Rt) (r : Rt) : rc (l ++ [r]) = rc l ++ [.string r.bits, .int .i64 (r.hop : Nat)] := by simp [rc, rc1]
end Go.Proofs.YtdfnmpmmkcpddaaDoor
