/- The walks of package fib's reader. -/
import Derived.Test.YtdfnmpmmkcpddaaDoorBase
namespace Go.Proofs.YtdfnmpmmkcpddaaDoor
open Go.RowKit

theorem hasByte_no' (s : ByteArray) (i c : Int) (w : World) (h : (s.size : Int) ≤ i) :
    Calls Tryd.prog 86 #[.string s, .int .i64 i, .int .u8 c] w fun e w' => e = .returned (.bool false) ∧ w' = w := by
  go_enter Tryd.func86, Tryd.ntmps86
  go_wp2
  go_ret
  exact ⟨rfl, rfl⟩
theorem hasByte_in (s : ByteArray) (k : Nat) (c : Int) (w : World) (h : k < s.size) :
    Calls Tryd.prog 86 #[.string s, .int .i64 k, .int .u8 c] w fun e w' => e = .returned (.bool ((s[k].toNat : Int) == c)) ∧ w' = w := by
  go_enter Tryd.func86, Tryd.ntmps86
  go_wp2
  go_ret
  exact ⟨rfl, rfl⟩
theorem hasByte_any (s : ByteArray) (i c : Int) (w : World) (h0 : 0 ≤ i) (hc : c < 256) :
    Calls Tryd.prog 86 #[.string s, .int .i64 i, .int .u8 c] w fun e w' => e = .returned (.bool ((byt s i.toNat : Int) == c)) ∧ w' = w := by
  obtain ⟨k, rfl⟩ := Int.eq_ofNat_of_zero_le h0
  rw [Int.toNat_natCast]
  by_cases h : k < s.size
  · rw [byt_in h]; exact hasByte_in s k c w h
  · rw [byt_out h, show (((256 : Nat) : Int) == c) = false from by rw [beq_eq_false_iff_ne]; omega]; exact hasByte_no' s k c w (by omega)
theorem hasByte_yes (s : ByteArray) (i c : Int) (w : World) (h0 : 0 ≤ i) (hc : c < 256) (h : (byt s i.toNat : Int) = c) :
    Calls Tryd.prog 86 #[.string s, .int .i64 i, .int .u8 c] w fun e w' => e = .returned (.bool true) ∧ w' = w := by
  have := hasByte_any s i c w h0 hc
  rwa [show ((byt s i.toNat : Int) == c) = true from by rw [beq_iff_eq]; exact h] at this
theorem hasByte_no (s : ByteArray) (i c : Int) (w : World) (h0 : 0 ≤ i) (hc : c < 256) (h : ¬ (byt s i.toNat : Int) = c) :
    Calls Tryd.prog 86 #[.string s, .int .i64 i, .int .u8 c] w fun e w' => e = .returned (.bool false) ∧ w' = w := by
  have := hasByte_any s i c w h0 hc
  rwa [show ((byt s i.toNat : Int) == c) = false from by rw [beq_eq_false_iff_ne]; exact h] at this

theorem readBits_walk (s : ByteArray) (W p : Nat) (w : World) (hs : s.size ≤ 400) (hp : p ≤ s.size) (hW : W ≤ 12) (hst : ¬ byt s p = 42) :
    Calls Tryd.prog 85 #[.string s, .int .i64 W, .int .i64 p] w fun e w' => e = .returned (.tuple #[.string (s.extract p (p + nbits s W p)), .int .i64 (p + nbits s W p : Nat)]) ∧ w' = w := by
  go_enter Tryd.func85, Tryd.ntmps85
  go_wp2_with (go_at_call 86; refine (hasByte_no _ _ _ _ (by omega) (by omega) (by simp; omega)).mono ?_; rintro e w' ⟨rfl, rfl⟩)
  go_loop [8] (fun b => ∃ n bb, n ≤ W ∧ b = .string bb ∧ bb.size = n ∧ Hid (bb = s.extract p (p + n)) ∧ Hid (nbits s W p = n + nbits s (W - n) (p + n))) (fun b => W - strOf b)
  case atStart => exact ⟨0, (⟨#[]⟩ : ByteArray), by omega, rfl, rfl, by unfold Hid; simp; rfl, by unfold Hid; simp⟩
  case round =>
    obtain ⟨n, bb, hn, rfl, hbb, H1, H2⟩ := hrel
    by_cases hlt : n < W
    · by_cases h0 : byt s (p + n) = 48
      · go_wp2_with (go_at_call 86; refine (hasByte_yes _ _ _ _ (by omega) (by omega) (by rw [show ((p : Int) + (n : Int)).toNat = p + n from by omega]; omega)).mono ?_; rintro e w' ⟨rfl, rfl⟩)
        go_round
        case rel => exact ⟨n + 1, _, by omega, rfl, by rw [size_snoc, hbb], extract_snoc (c := 48) h0 H1, rb_step hlt (.inl h0) H2⟩
        case measure => simp only [strOf]; rw [size_snoc]; omega
      · by_cases h1 : byt s (p + n) = 49
        · go_wp2_with fail
          refine (hasByte_no _ _ _ _ (by omega) (by omega) (by rw [show ((p : Int) + (n : Int)).toNat = p + n from by omega]; omega)).mono ?_
          rintro e w' ⟨rfl, rfl⟩
          go_wp2_with fail
          refine (hasByte_yes _ _ _ _ (by omega) (by omega) (by rw [show ((p : Int) + (n : Int)).toNat = p + n from by omega]; omega)).mono ?_
          rintro e w' ⟨rfl, rfl⟩
          go_wp2_with fail
          go_round
          case rel => exact ⟨n + 1, _, by omega, rfl, by rw [size_snoc, hbb], extract_snoc (c := 49) h1 H1, rb_step hlt (.inr h1) H2⟩
          case measure => simp only [strOf]; rw [size_snoc]; omega
        · go_wp2_with (go_at_call 86; refine (hasByte_no _ _ _ _ (by omega) (by omega) (by rw [show ((p : Int) + (n : Int)).toNat = p + n from by omega]; omega)).mono ?_; rintro e w' ⟨rfl, rfl⟩)
          go_ret2
          have hq := rb_stop (by omega) H2
          exact ⟨ret2 (str_eq (by rw [hq]; exact H1)) (int_eq (by omega)), rfl⟩
    · go_wp2_with fail
      go_ret2
      have hq := rb_full hn hlt H2
      exact ⟨ret2 (str_eq (by rw [hq]; exact H1)) (int_eq (by omega)), rfl⟩

theorem readBits_star (s : ByteArray) (W p : Nat) (w : World) (hs : s.size ≤ 400) (hp : p ≤ s.size) (hst : byt s p = 42) :
    Calls Tryd.prog 85 #[.string s, .int .i64 W, .int .i64 p] w fun e w' => e = .returned (.tuple #[.string ⟨#[]⟩, .int .i64 (p + 1 : Nat)]) ∧ w' = w := by
  go_enter Tryd.func85, Tryd.ntmps85
  go_wp2_with (go_at_call 86; refine (hasByte_yes _ _ _ _ (by omega) (by omega) (by simp; omega)).mono ?_; rintro e w' ⟨rfl, rfl⟩)
  go_ret2
  exact ⟨ret2 rfl (int_eq (by omega)), rfl⟩

theorem readBits_any (s : ByteArray) (W p : Int) (w : World) (hs : s.size ≤ 400) (h0 : 0 ≤ p) (hp : p ≤ s.size) (hW0 : 0 ≤ W) (hW : W ≤ 12) :
    Calls Tryd.prog 85 #[.string s, .int .i64 W, .int .i64 p] w fun e w' => e = .returned (.tuple #[.string (bOf s W.toNat p.toNat), .int .i64 (bEnd s W.toNat p.toNat : Nat)]) ∧ w' = w := by
  obtain ⟨W, rfl⟩ := Int.eq_ofNat_of_zero_le hW0
  obtain ⟨p, rfl⟩ := Int.eq_ofNat_of_zero_le h0
  rw [Int.toNat_natCast, Int.toNat_natCast]
  by_cases hst : byt s p = 42
  · rw [bOf, bEnd, if_pos hst, if_pos hst]; exact readBits_star s W p w hs (by omega) hst
  · rw [bOf, bEnd, if_neg hst, if_neg hst]; exact readBits_walk s W p w hs (by omega) (by omega) hst

theorem readHop_walk (s : ByteArray) (p : Nat) (w : World) (hs : s.size ≤ 400) (hp : p ≤ s.size) :
    Calls Tryd.prog 87 #[.string s, .int .i64 p] w fun e w' => e = .returned (.tuple #[.int .i64 ((hopGo s 3 0 p).1 : Nat), .int .i64 ((hopGo s 3 0 p).2 : Nat)]) ∧ w' = w := by
  go_enter Tryd.func87, Tryd.ntmps87
  go_wp2_with fail
  go_loop [6, 7] (fun h a => ∃ n q f : Nat, h = .int .i64 n ∧ a = .int .i64 q ∧ n ≤ 250 ∧ q ≤ s.size ∧ Hid (hopGo s f n q = hopGo s 3 0 p) ∧ Hid ((f = 3 ∧ n = 0) ∨ (f = 2 ∧ 1 ≤ n) ∨ (f = 1 ∧ 10 ≤ n) ∨ (f = 0 ∧ 100 ≤ n))) (fun _ a => s.size - (intOf a).toNat)
  case atStart => exact ⟨0, p, 3, rfl, rfl, by omega, hp, rfl, .inl ⟨rfl, rfl⟩⟩
  case round =>
    obtain ⟨n, q, f, rfl, rfl, hn, hq, H1, H2⟩ := hrel
    by_cases hlt : q < s.size
    · have HB : Hid (byt s q = (s[q]'hlt).toNat) := byt_in hlt
      have hcb : (s[q]'hlt).toNat < 256 := (s[q]'hlt).toNat_lt
      by_cases hd : 48 ≤ (s[q]'hlt).toNat ∧ (s[q]'hlt).toNat ≤ 57
      · obtain ⟨hd1, hd2⟩ := hd
        by_cases hl : 1 ≤ 10 * n + ((s[q]'hlt).toNat - 48) ∧ 10 * n + ((s[q]'hlt).toNat - 48) ≤ 250
        · obtain ⟨hl1, hl2⟩ := hl
          go_wp2_with fail
          go_round
          case rel =>
            have hb : byt s q = (s[q]'hlt).toNat := HB
            have H2' := H2.out
            refine ⟨10 * n + ((s[q]'hlt).toNat - 48), q + 1, f - 1, int_eq (by omega), int_eq (by omega), by omega, by omega, ?_, by unfold Hid; omega⟩
            unfold Hid
            rw [← H1.out, hopGo_step (s := s) (f := f) (n := n) (p := q) (by omega) (by omega), hb]
          case measure => simp [intOf]; omega
        · have hst := hopGo_stop (s := s) (f := f) (n := n) (p := q) (by rw [HB.out]; omega)
          have h3 : Hid ((n, q) = hopGo s 3 0 p) := hst.symm.trans H1
          clear hst
          by_cases hl1 : 1 ≤ 10 * n + ((s[q]'hlt).toNat - 48)
          · have hl2 : ¬ 10 * n + ((s[q]'hlt).toNat - 48) ≤ 250 := fun h => hl ⟨hl1, h⟩
            clear hl
            go_wp2_with fail
            go_ret2
            exact ⟨ret2 (int_eq (by rw [← h3.out])) (int_eq (by rw [← h3.out])), rfl⟩
          · clear hl
            go_wp2_with fail
            go_ret2
            exact ⟨ret2 (int_eq (by rw [← h3.out])) (int_eq (by rw [← h3.out])), rfl⟩
      · have hst := hopGo_stop (s := s) (f := f) (n := n) (p := q) (by rw [HB.out]; omega)
        have h3 : Hid ((n, q) = hopGo s 3 0 p) := hst.symm.trans H1
        clear hst
        by_cases hl1 : 48 ≤ (s[q]'hlt).toNat
        · have hl2 : ¬ (s[q]'hlt).toNat ≤ 57 := fun h => hd ⟨hl1, h⟩
          clear hd
          go_wp2_with fail
          go_ret2
          exact ⟨ret2 (int_eq (by rw [← h3.out])) (int_eq (by rw [← h3.out])), rfl⟩
        · clear hd
          go_wp2_with fail
          go_ret2
          exact ⟨ret2 (int_eq (by rw [← h3.out])) (int_eq (by rw [← h3.out])), rfl⟩
    · go_wp2_with fail
      go_ret2
      have hst := hopGo_stop (s := s) (f := f) (n := n) (p := q) (by rw [byt_out hlt]; omega)
      have h3 := hst.symm.trans H1
      exact ⟨ret2 (int_eq (by rw [← h3])) (int_eq (by rw [← h3])), rfl⟩
theorem readHop_any (s : ByteArray) (p : Int) (w : World) (hs : s.size ≤ 400) (h0 : 0 ≤ p) (hp : p ≤ s.size) :
    Calls Tryd.prog 87 #[.string s, .int .i64 p] w fun e w' => e = .returned (.tuple #[.int .i64 ((hopGo s 3 0 p.toNat).1 : Nat), .int .i64 ((hopGo s 3 0 p.toNat).2 : Nat)]) ∧ w' = w := by
  obtain ⟨p, rfl⟩ := Int.eq_ofNat_of_zero_le h0
  rw [Int.toNat_natCast]
  exact readHop_walk s p w hs (by omega)
end Go.Proofs.YtdfnmpmmkcpddaaDoor
