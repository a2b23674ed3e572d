/- The walks of package fib's reader: a line. -/
import Derived.Test.YtdfnmpmmkcpddaaDoorWalkA
namespace Go.Proofs.YtdfnmpmmkcpddaaDoor
open Go.RowKit

theorem readLine_bad1 (s : ByteArray) (W p : Nat) (w : World) (hs : s.size ≤ 400) (hp : p ≤ s.size) (hW : W ≤ 12) (h : bEnd s W p = p) :
    Calls Tryd.prog 60 #[.string s, .int .i64 W, .int .i64 p] w fun e w' => e = .returned (.tuple #[.agg #[.string ⟨#[]⟩, .int .i64 0], .int .i64 (bEnd s W p : Nat), .bool false]) ∧ Below w.heap.size w w' := by
  have hb : ((bEnd s W p : Int) == (p : Int)) = true := by rw [beq_iff_eq]; omega
  clear h
  go_enter Tryd.func60, Tryd.ntmps60
  go_wp2_with fail
  refine (readBits_any _ _ _ _ hs (by omega) (by omega) (by omega) (by omega)).mono ?_
  rintro e w1 ⟨rfl, rfl⟩
  simp only [Int.toNat_natCast]
  go_wp2_with fail
  refine bodyPost_ret (v := .tuple #[.agg #[.string ⟨#[]⟩, .int .i64 0], .int .i64 (bEnd s W p : Nat), .bool false]) (by simp [results, Tryd.results60, go_sem]) rfl ⟨rfl, ?_⟩
  exact (Below.refl _ _).alloc (Nat.le_refl _) _

theorem readLine_bad2 (s : ByteArray) (W p : Nat) (w : World) (hs : s.size ≤ 400) (hp : p ≤ s.size) (hW : W ≤ 12) (h : ¬ bEnd s W p = p) (h2 : ¬ byt s (bEnd s W p) = 32) :
    Calls Tryd.prog 60 #[.string s, .int .i64 W, .int .i64 p] w fun e w' => e = .returned (.tuple #[.agg #[.string ⟨#[]⟩, .int .i64 0], .int .i64 (bEnd s W p : Nat), .bool false]) ∧ Below w.heap.size w w' := by
  have hb : ((bEnd s W p : Int) == (p : Int)) = false := by rw [beq_eq_false_iff_ne]; omega
  clear h
  go_enter Tryd.func60, Tryd.ntmps60
  go_wp2_with fail
  refine (readBits_any _ _ _ _ hs (by omega) (by omega) (by omega) (by omega)).mono ?_
  rintro e w1 ⟨rfl, rfl⟩
  simp only [Int.toNat_natCast]
  go_wp2_with fail
  refine (hasByte_no _ _ _ _ (by omega) (by omega) (by rw [Int.toNat_natCast]; omega)).mono ?_
  rintro e w1 ⟨rfl, rfl⟩
  go_wp2_with fail
  refine bodyPost_ret (v := .tuple #[.agg #[.string ⟨#[]⟩, .int .i64 0], .int .i64 (bEnd s W p : Nat), .bool false]) (by simp [results, Tryd.results60, go_sem]) rfl ⟨rfl, ?_⟩
  exact (Below.refl _ _).alloc (Nat.le_refl _) _

theorem readLine_bad3 (s : ByteArray) (W p : Nat) (w : World) (hs : s.size ≤ 400) (hp : p ≤ s.size) (hW : W ≤ 12) (h : ¬ bEnd s W p = p) (h2 : byt s (bEnd s W p) = 32) (h3 : (hopGo s 3 0 (bEnd s W p + 1)).1 = 0) :
    Calls Tryd.prog 60 #[.string s, .int .i64 W, .int .i64 p] w fun e w' => e = .returned (.tuple #[.agg #[.string ⟨#[]⟩, .int .i64 0], .int .i64 ((hopGo s 3 0 (bEnd s W p + 1)).2 : Nat), .bool false]) ∧ Below w.heap.size w w' := by
  have hb : ((bEnd s W p : Int) == (p : Int)) = false := by rw [beq_eq_false_iff_ne]; omega
  have hq := byt_lt_size (s := s) (k := bEnd s W p) (by omega)
  have hz : (((hopGo s 3 0 (bEnd s W p + 1)).1 : Int) == 0) = true := by rw [beq_iff_eq]; omega
  have H2 : Hid (byt s (bEnd s W p) = 32) := h2
  clear h h2 h3
  go_enter Tryd.func60, Tryd.ntmps60
  go_wp2_with fail
  refine (readBits_any _ _ _ _ hs (by omega) (by omega) (by omega) (by omega)).mono ?_
  rintro e w1 ⟨rfl, rfl⟩
  simp only [Int.toNat_natCast]
  go_wp2_with fail
  refine (hasByte_yes _ _ _ _ (by omega) (by omega) (by rw [Int.toNat_natCast, H2.out]; rfl)).mono ?_
  rintro e w1 ⟨rfl, rfl⟩
  go_wp2_with fail
  refine (readHop_any _ _ _ hs (by omega) (by omega)).mono ?_
  rintro e w1 ⟨rfl, rfl⟩
  rw [show ((bEnd s W p : Int) + 1).toNat = bEnd s W p + 1 from by omega]
  go_wp2_with fail
  refine bodyPost_ret (v := .tuple #[.agg #[.string ⟨#[]⟩, .int .i64 0], .int .i64 ((hopGo s 3 0 (bEnd s W p + 1)).2 : Nat), .bool false]) (by simp [results, Tryd.results60, go_sem]) rfl ⟨rfl, ?_⟩
  exact (Below.refl _ _).alloc (Nat.le_refl _) _

theorem readLine_bad4 (s : ByteArray) (W p : Nat) (w : World) (hs : s.size ≤ 400) (hp : p ≤ s.size) (hW : W ≤ 12) (h : ¬ bEnd s W p = p) (h2 : byt s (bEnd s W p) = 32) (h3 : ¬ (hopGo s 3 0 (bEnd s W p + 1)).1 = 0) (h4 : ¬ byt s (hopGo s 3 0 (bEnd s W p + 1)).2 = 10) :
    Calls Tryd.prog 60 #[.string s, .int .i64 W, .int .i64 p] w fun e w' => e = .returned (.tuple #[.agg #[.string ⟨#[]⟩, .int .i64 0], .int .i64 ((hopGo s 3 0 (bEnd s W p + 1)).2 : Nat), .bool false]) ∧ Below w.heap.size w w' := by
  have hb : ((bEnd s W p : Int) == (p : Int)) = false := by rw [beq_eq_false_iff_ne]; omega
  have hq := byt_lt_size (s := s) (k := bEnd s W p) (by omega)
  have hz : (((hopGo s 3 0 (bEnd s W p + 1)).1 : Int) == 0) = false := by rw [beq_eq_false_iff_ne]; omega
  have H2 : Hid (byt s (bEnd s W p) = 32) := h2
  clear h h2 h3
  go_enter Tryd.func60, Tryd.ntmps60
  go_wp2_with fail
  refine (readBits_any _ _ _ _ hs (by omega) (by omega) (by omega) (by omega)).mono ?_
  rintro e w1 ⟨rfl, rfl⟩
  simp only [Int.toNat_natCast]
  go_wp2_with fail
  refine (hasByte_yes _ _ _ _ (by omega) (by omega) (by rw [Int.toNat_natCast, H2.out]; rfl)).mono ?_
  rintro e w1 ⟨rfl, rfl⟩
  go_wp2_with fail
  refine (readHop_any _ _ _ hs (by omega) (by omega)).mono ?_
  rintro e w1 ⟨rfl, rfl⟩
  rw [show ((bEnd s W p : Int) + 1).toNat = bEnd s W p + 1 from by omega]
  go_wp2_with fail
  refine (hasByte_no _ _ _ _ (by omega) (by omega) (by rw [Int.toNat_natCast]; omega)).mono ?_
  rintro e w1 ⟨rfl, rfl⟩
  go_wp2_with fail
  refine bodyPost_ret (v := .tuple #[.agg #[.string ⟨#[]⟩, .int .i64 0], .int .i64 ((hopGo s 3 0 (bEnd s W p + 1)).2 : Nat), .bool false]) (by simp [results, Tryd.results60, go_sem]) rfl ⟨rfl, ?_⟩
  exact (Below.refl _ _).alloc (Nat.le_refl _) _

theorem readLine_good (s : ByteArray) (W p : Nat) (w : World) (hs : s.size ≤ 400) (hp : p ≤ s.size) (hW : W ≤ 12) (h : ¬ bEnd s W p = p) (h2 : byt s (bEnd s W p) = 32) (h3 : ¬ (hopGo s 3 0 (bEnd s W p + 1)).1 = 0) (h4 : byt s (hopGo s 3 0 (bEnd s W p + 1)).2 = 10) :
    Calls Tryd.prog 60 #[.string s, .int .i64 W, .int .i64 p] w fun e w' => e = .returned (.tuple #[.agg #[.string (bOf s W p), .int .i64 ((hopGo s 3 0 (bEnd s W p + 1)).1 : Nat)], .int .i64 ((hopGo s 3 0 (bEnd s W p + 1)).2 + 1 : Nat), .bool true]) ∧ Below w.heap.size w w' := by
  have hb : ((bEnd s W p : Int) == (p : Int)) = false := by rw [beq_eq_false_iff_ne]; omega
  have hq := byt_lt_size (s := s) (k := bEnd s W p) (by omega)
  have hz : (((hopGo s 3 0 (bEnd s W p + 1)).1 : Int) == 0) = false := by rw [beq_eq_false_iff_ne]; omega
  have he := hopGo_end s 3 0 (bEnd s W p + 1) (by omega)
  have H2 : Hid (byt s (bEnd s W p) = 32) := h2
  have H4 : Hid (byt s (hopGo s 3 0 (bEnd s W p + 1)).2 = 10) := h4
  clear h h2 h3 h4
  go_enter Tryd.func60, Tryd.ntmps60
  go_wp2_with fail
  refine (readBits_any _ _ _ _ hs (by omega) (by omega) (by omega) (by omega)).mono ?_
  rintro e w1 ⟨rfl, rfl⟩
  simp only [Int.toNat_natCast]
  go_wp2_with fail
  refine (hasByte_yes _ _ _ _ (by omega) (by omega) (by rw [Int.toNat_natCast, H2.out]; rfl)).mono ?_
  rintro e w1 ⟨rfl, rfl⟩
  go_wp2_with fail
  refine (readHop_any _ _ _ hs (by omega) (by omega)).mono ?_
  rintro e w1 ⟨rfl, rfl⟩
  rw [show ((bEnd s W p : Int) + 1).toNat = bEnd s W p + 1 from by omega]
  go_wp2_with fail
  refine (hasByte_yes _ _ _ _ (by omega) (by omega) (by rw [Int.toNat_natCast, H4.out]; rfl)).mono ?_
  rintro e w1 ⟨rfl, rfl⟩
  go_wp2_with fail
  refine bodyPost_ret (v := .tuple #[.agg #[.string (bOf s W p), .int .i64 ((hopGo s 3 0 (bEnd s W p + 1)).1 : Nat)], .int .i64 ((hopGo s 3 0 (bEnd s W p + 1)).2 + 1 : Nat), .bool true]) (by simp [results, Tryd.results60, go_sem]) rfl ⟨rfl, ?_⟩
  exact (Below.refl _ _).alloc (Nat.le_refl _) _

theorem readLine_no (s : ByteArray) (W p : Nat) (w : World) (hs : s.size ≤ 400) (hp : p ≤ s.size) (hW : W ≤ 12) (h : lBad s W p = true) :
    Calls Tryd.prog 60 #[.string s, .int .i64 W, .int .i64 p] w fun e w' => e = .returned (.tuple #[.agg #[.string ⟨#[]⟩, .int .i64 0], .int .i64 (lAt s W p : Nat), .bool false]) ∧ Below w.heap.size w w' := by
  simp only [lBad, decide_eq_true_eq] at h
  unfold lAt
  by_cases h1 : bEnd s W p = p
  · rw [if_pos (.inl h1)]; exact readLine_bad1 s W p w hs hp hW h1
  by_cases h2 : byt s (bEnd s W p) = 32
  · rw [if_neg (by omega)]
    by_cases h3 : (hopGo s 3 0 (bEnd s W p + 1)).1 = 0
    · exact readLine_bad3 s W p w hs hp hW h1 h2 h3
    · exact readLine_bad4 s W p w hs hp hW h1 h2 h3 (by omega)
  · rw [if_pos (.inr h2)]; exact readLine_bad2 s W p w hs hp hW h1 h2

theorem readLine_yes (s : ByteArray) (W p : Nat) (w : World) (hs : s.size ≤ 400) (hp : p ≤ s.size) (hW : W ≤ 12) (h : lBad s W p = false) :
    Calls Tryd.prog 60 #[.string s, .int .i64 W, .int .i64 p] w fun e w' => e = .returned (.tuple #[.agg #[.string (lRt s W p).bits, .int .i64 ((lRt s W p).hop : Nat)], .int .i64 (lAt s W p + 1 : Nat), .bool true]) ∧ Below w.heap.size w w' := by
  simp only [lBad, decide_eq_false_iff_not] at h
  unfold lAt lRt
  rw [if_neg (by omega)]
  exact readLine_good s W p w hs hp hW (by omega) (by omega) (by omega) (by omega)
end Go.Proofs.YtdfnmpmmkcpddaaDoor
