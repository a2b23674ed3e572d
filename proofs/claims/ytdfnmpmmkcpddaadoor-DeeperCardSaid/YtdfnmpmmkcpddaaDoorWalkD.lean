/- The walks of the document's reader: at, eat. -/
import Derived.Test.YtdfnmpmmkcpddaaDoorBase
namespace Go.Proofs.YtdfnmpmmkcpddaaDoor
open Go.RowKit

/-- The reader lies in block B. -/
def Rd (w : World) (B : Nat) (s : ByteArray) (W p : Nat) (v : Value) (bad : Bool) : Prop :=
  w.heap[B]? = some (.cells #[.string s, .int .i64 W, .int .i64 p, v, .bool bad] 117 (0, 0))

section
variable {w : World} {B : Nat} {s : ByteArray} {W p : Nat} {v : Value} {bad : Bool}
theorem Rd.cells (h : Rd w B s W p v bad) :
    w.cell? ⟨B, 0, none⟩ = some (.string s) ∧ w.cell? ⟨B, 1, none⟩ = some (.int .i64 W) ∧ w.cell? ⟨B, 2, none⟩ = some (.int .i64 p) ∧ w.cell? ⟨B, 3, none⟩ = some v ∧ w.cell? ⟨B, 4, none⟩ = some (.bool bad) := by
  refine ⟨?_, ?_, ?_, ?_, ?_⟩ <;> (rw [cell_of_row w B _ _ _ _ h]; rfl)
theorem Rd.free (h : Rd w B s W p v bad) (j : Nat) : w.frozen? ⟨B, j, none⟩ = false := frozen_of_row w B j _ _ h
theorem Rd.drew (h : Rd w B s W p v bad) (n : Nat) : Rd (w.drewN n) B s W p v bad := h
theorem Rd.setP (h : Rd w B s W p v bad) (q : Nat) : Rd (w.setCell ⟨B, 2, none⟩ (.int .i64 q)) B s W q v bad := heap_setCell_same w B 2 _ _ _ h
theorem Rd.setL (h : Rd w B s W p v bad) (u : Value) : Rd (w.setCell ⟨B, 3, none⟩ u) B s W p u bad := heap_setCell_same w B 3 _ _ _ h
theorem Rd.setBad (h : Rd w B s W p v bad) (b : Bool) : Rd (w.setCell ⟨B, 4, none⟩ (.bool b)) B s W p v b := heap_setCell_same w B 4 _ _ _ h
theorem Rd.lt (h : Rd w B s W p v bad) : B < w.heap.size := (Array.getElem?_eq_some_iff.1 h).1
theorem Rd.kept {w' : World} {row : Option Nat} (h : Rd w B s W p v bad) (hg : w.grownBy w' row) (hne : some B ≠ row) : Rd w' B s W p v bad := (hg.block B h.lt hne).trans h
end

theorem g_refl (w : World) (row : Option Nat) : w.grownBy w row := ⟨rfl, rfl, rfl, Nat.le_refl _, fun _ _ _ => rfl⟩
theorem g_trans {a b c : World} {row : Option Nat} (h : a.grownBy b row) (k : b.grownBy c row) : a.grownBy c row :=
  ⟨k.os.trans h.os, k.tape.trans h.tape, k.output.trans h.output, Nat.le_trans h.size k.size, fun i hi hne => (k.block i (Nat.lt_of_lt_of_le hi h.size) hne).trans (h.block i hi hne)⟩
theorem g_drew {a b : World} {row : Option Nat} (h : a.grownBy b row) (n : Nat) : a.grownBy (b.drewN n) row := ⟨h.os, h.tape, h.output, h.size, h.block⟩
theorem g_set {a b : World} {B j : Nat} (h : a.grownBy b (some B)) (u : Value) : a.grownBy (b.setCell ⟨B, j, none⟩ u) (some B) :=
  g_trans h ⟨rfl, rfl, rfl, by simp [World.setCell], fun i _ hne => Below.heap_setCell b _ u i (fun e => hne (by rw [e]))⟩
theorem g_below {a b : World} {B : Nat} (h : a.grownBy b (some B)) (hB : B ≤ a.heap.size) : Below B a b :=
  ⟨h.os, h.tape, h.output, h.size, fun k hk => h.block k (by omega) (by simp; omega)⟩

theorem at_in (s : ByteArray) (B W p lo hi : Nat) (v : Value) (bad : Bool) (w : World) (h : p < s.size) (hr : Rd w B s W p v bad) (h1 : lo ≤ (s[p]'h).toNat) (h2 : (s[p]'h).toNat ≤ hi) :
    Calls Tryd.prog 99 #[.pointer (some ⟨B, 0, none⟩), .int .u8 lo, .int .u8 hi] w fun e w' => e = .returned (.bool true) ∧ ∃ n, w' = w.drewN n := by
  obtain ⟨c0, c1, c2, c3, c4⟩ := hr.cells
  go_enter Tryd.func99, Tryd.ntmps99
  go_wp2_with fail
  go_quiet (fail)
  go_wp2
  go_ret
  exact ⟨rfl, _, rfl⟩
theorem at_over (s : ByteArray) (B W p lo hi : Nat) (v : Value) (bad : Bool) (w : World) (h : p < s.size) (hr : Rd w B s W p v bad) (h1 : lo ≤ (s[p]'h).toNat) (h2 : ¬ (s[p]'h).toNat ≤ hi) :
    Calls Tryd.prog 99 #[.pointer (some ⟨B, 0, none⟩), .int .u8 lo, .int .u8 hi] w fun e w' => e = .returned (.bool false) ∧ ∃ n, w' = w.drewN n := by
  obtain ⟨c0, c1, c2, c3, c4⟩ := hr.cells
  have hd : decide (((s[p]'h).toNat : Int) ≤ (hi : Int)) = false := by rw [decide_eq_false_iff_not]; omega
  go_enter Tryd.func99, Tryd.ntmps99
  go_wp2_with fail
  go_quiet (fail)
  go_wp2
  go_ret
  exact ⟨rfl, _, rfl⟩
theorem at_under (s : ByteArray) (B W p lo hi : Nat) (v : Value) (bad : Bool) (w : World) (h : p < s.size) (hr : Rd w B s W p v bad) (h1 : ¬ lo ≤ (s[p]'h).toNat) :
    Calls Tryd.prog 99 #[.pointer (some ⟨B, 0, none⟩), .int .u8 lo, .int .u8 hi] w fun e w' => e = .returned (.bool false) ∧ ∃ n, w' = w.drewN n := by
  obtain ⟨c0, c1, c2, c3, c4⟩ := hr.cells
  have hd : decide ((lo : Int) ≤ ((s[p]'h).toNat : Int)) = false := by rw [decide_eq_false_iff_not]; omega
  go_enter Tryd.func99, Tryd.ntmps99
  go_wp2_with fail
  go_quiet (fail)
  go_wp2
  go_ret
  exact ⟨rfl, _, rfl⟩
theorem at_out (s : ByteArray) (B W p lo hi : Nat) (v : Value) (bad : Bool) (w : World) (h : ¬ p < s.size) (hr : Rd w B s W p v bad) :
    Calls Tryd.prog 99 #[.pointer (some ⟨B, 0, none⟩), .int .u8 lo, .int .u8 hi] w fun e w' => e = .returned (.bool false) ∧ ∃ n, w' = w.drewN n := by
  obtain ⟨c0, c1, c2, c3, c4⟩ := hr.cells
  have hd : decide ((p : Int) < (s.size : Int)) = false := by rw [decide_eq_false_iff_not]; omega
  go_enter Tryd.func99, Tryd.ntmps99
  go_wp2_with fail
  go_quiet (fail)
  go_wp2
  go_ret
  exact ⟨rfl, _, rfl⟩

/-- The byte at the place is from lo to hi. -/
theorem at_yes (s : ByteArray) (B W p : Nat) (lo hi : Int) (v : Value) (bad : Bool) (w : World) (hr : Rd w B s W p v bad) (h0 : 0 ≤ lo) (h1 : lo ≤ byt s p) (h2 : byt s p ≤ hi) (h3 : hi < 256) :
    Calls Tryd.prog 99 #[.pointer (some ⟨B, 0, none⟩), .int .u8 lo, .int .u8 hi] w fun e w' => e = .returned (.bool true) ∧ ∃ n, w' = w.drewN n := by
  obtain ⟨lo, rfl⟩ := Int.eq_ofNat_of_zero_le h0
  obtain ⟨hi, rfl⟩ := Int.eq_ofNat_of_zero_le (show 0 ≤ hi by omega)
  have h : p < s.size := byt_lt_size (by omega)
  rw [byt_in h] at h1 h2
  exact at_in s B W p lo hi v bad w h hr (by omega) (by omega)
/-- It is not. -/
theorem at_no (s : ByteArray) (B W p : Nat) (lo hi : Int) (v : Value) (bad : Bool) (w : World) (hr : Rd w B s W p v bad) (h0 : 0 ≤ lo) (h1 : (byt s p : Int) < lo ∨ hi < byt s p) (h3 : hi < 256) (h4 : 0 ≤ hi) :
    Calls Tryd.prog 99 #[.pointer (some ⟨B, 0, none⟩), .int .u8 lo, .int .u8 hi] w fun e w' => e = .returned (.bool false) ∧ ∃ n, w' = w.drewN n := by
  obtain ⟨lo, rfl⟩ := Int.eq_ofNat_of_zero_le h0
  obtain ⟨hi, rfl⟩ := Int.eq_ofNat_of_zero_le h4
  by_cases h : p < s.size
  · rw [byt_in h] at h1
    by_cases hu : lo ≤ (s[p]'h).toNat
    · exact at_over s B W p lo hi v bad w h hr hu (by omega)
    · exact at_under s B W p lo hi v bad w h hr hu
  · exact at_out s B W p lo hi v bad w h hr

theorem eat_bad (s : ByteArray) (B W p : Nat) (c : Int) (v : Value) (w : World) (hr : Rd w B s W p v true) :
    Calls Tryd.prog 92 #[.pointer (some ⟨B, 0, none⟩), .int .u8 c] w fun e w' => e = .returned (.tuple #[]) ∧ Rd w' B s W p v true ∧ w.grownBy w' (some B) := by
  obtain ⟨c0, c1, c2, c3, c4⟩ := hr.cells
  go_enter Tryd.func92, Tryd.ntmps92
  go_wp2_with fail
  exact bodyPost_ret (results_none rfl _ _ _) rfl ⟨rfl, hr, g_refl _ _⟩
theorem eat_yes (s : ByteArray) (B W p : Nat) (c : Int) (v : Value) (w : World) (hs : s.size ≤ 400) (hr : Rd w B s W p v false) (h0 : 0 ≤ c) (h : (byt s p : Int) = c) (h3 : c < 256) :
    Calls Tryd.prog 92 #[.pointer (some ⟨B, 0, none⟩), .int .u8 c] w fun e w' => e = .returned (.tuple #[]) ∧ Rd w' B s W (p + 1) v false ∧ w.grownBy w' (some B) := by
  obtain ⟨c0, c1, c2, c3, c4⟩ := hr.cells
  have hf := hr.free
  have hp : p < s.size := byt_lt_size (by omega)
  have H : Hid ((byt s p : Int) = c) := h
  clear h
  go_enter Tryd.func92, Tryd.ntmps92
  go_wp2_with fail
  refine (at_yes s B W p c c v false _ hr h0 (by have := H.out; omega) (by have := H.out; omega) h3).mono ?_
  rintro e w1 ⟨rfl, n, rfl⟩
  go_wp2_with fail
  go_end0
  exact ⟨rfl, (hr.drew n).setP (p + 1), g_set (g_drew (g_refl _ _) n) _⟩
theorem eat_no (s : ByteArray) (B W p : Nat) (c : Int) (v : Value) (w : World) (hr : Rd w B s W p v false) (h0 : 0 ≤ c) (h : ¬ (byt s p : Int) = c) (h3 : c < 256) :
    Calls Tryd.prog 92 #[.pointer (some ⟨B, 0, none⟩), .int .u8 c] w fun e w' => e = .returned (.tuple #[]) ∧ Rd w' B s W p v true ∧ w.grownBy w' (some B) := by
  obtain ⟨c0, c1, c2, c3, c4⟩ := hr.cells
  have hf := hr.free
  go_enter Tryd.func92, Tryd.ntmps92
  go_wp2_with fail
  refine (at_no s B W p c c v false _ hr h0 (by omega) h3 h0).mono ?_
  rintro e w1 ⟨rfl, n, rfl⟩
  go_wp2_with fail
  exact bodyPost_ret (results_none rfl _ _ _) rfl ⟨rfl, (hr.drew n).setBad true, g_set (g_drew (g_refl _ _) n) _⟩
end Go.Proofs.YtdfnmpmmkcpddaaDoor
