import Derived.Test.YtdfnmpmmkcpddaaDoorQ02
/- The walks of package fib's reader. -/
namespace Go.Proofs.YtdfnmpmmkcpddaaDoor
open Go.RowKit

theorem hasByte_no' (s : ByteArray) (i c : Int) (w : World) (h : (s.size : Int) ≤ i) :
    Calls Tryd.prog 86 #[.string s, .int .i64 i, .int .u8 c] w fun e w' => e = .returned (.bool false) ∧ w' = w := by
  go_enter Tryd.func86, Tryd.ntmps86
  go_wp2
  go_ret
  exact ⟨rfl, rfl⟩
theorem hasByte_in (s : ByteArray) (k : Nat) (c : Int) (w : World) (h : k < s.size) :
    Calls Tryd.prog 86 #[.string s, .int .i64 k, .int .u8 c] w fun e w' => e = .returned (.bool ((s[k].toNat : Int) == c)) ∧ w' = w := by
  go_enter Tryd.func86, Tryd.ntmps86
  go_wp2
  go_ret
  exact ⟨rfl, rfl⟩
theorem hasByte_any (s : ByteArray) (i c : Int) (w : World) (h0 : 0 ≤ i) (hc : c < 256) :
    Calls Tryd.prog 86 #[.string s, .int .i64 i, .int .u8 c] w fun e w' => e = .returned (.bool ((byt s i.toNat : Int) == c)) ∧ w' = w := by
  obtain ⟨k, rfl⟩ := Int.eq_ofNat_of_zero_le h0
  rw [Int.toNat_natCast]
  by_cases h : k < s.size
  · rw [byt_in h]; exact hasByte_in s k c w h
  · rw [byt_out h, show (((256 : Nat) : Int) == c) = false from by rw [beq_eq_false_iff_ne]; omega]; exact hasByte_no' s k c w (by omega)
theorem hasByte_yes (s : ByteArray) (i c : Int) (w : World) (h0 : 0 ≤ i) (hc : c < 256) (h : (byt s i.toNat : Int) = c) :
    Calls Tryd.prog 86 #[.string s, .int .i64 i, .int .u8 c] w fun e w' => e = .returned (.bool true) ∧ w' = w := by
  have := hasByte_any s i c w h0 hc
  rwa [show ((byt s i.toNat : Int) == c) = true from by rw [beq_iff_eq]; exact h] at this
theorem hasByte_no (s : ByteArray) (i c : Int) (w : World) (h0 : 0 ≤ i) (hc : c < 256) (h : ¬ (byt s i.toNat : Int) = c) :
    Calls Tryd.prog 86 #[.string s, .int .i64 i, .int .u8 c] w fun e w' => e = .returned (.bool false) ∧ w' = w := by
  have := hasByte_any s i c w h0 hc
  rwa [show ((byt s i.toNat : Int) == c) = false from by rw [beq_eq_false_iff_ne]; exact h] at this

theorem readBits_walk (s : ByteArray) (W p : Nat) (w : World) (hs : s.size ≤ 400) (hp : p ≤ s.size) (hW : W ≤ 12) (hst : ¬ byt s p = 42) :
    Calls Tryd.prog 85 #[.string s, .int .i64 W, .int .i64 p] w fun e w' => e = .returned (.tuple #[.string (s.extract p (p + nbits s W p)), .int .i64 (p + nbits s W p : Nat)]) ∧ w' = w := by
  go_enter Tryd.func85, Tryd.ntmps85
  go_wp2_with (go_at_call 86; refine (hasByte_no _ _ _ _ (by omega) (by omega) (by simp; omega)).mono ?_; rintro e w' ⟨rfl, rfl⟩)
  go_loop [8] (fun b => ∃ n bb, n ≤ W ∧ b = .string bb ∧ bb.size = n ∧ Hid (bb = s.extract p (p + n)) ∧ Hid (nbits s W p = n + nbits s (W - n) (p + n))) (fun b => W - strOf b)
  case atStart => exact ⟨0, (⟨#[]⟩ : ByteArray), by omega, rfl, rfl, by unfold Hid; simp; rfl, by unfold Hid; simp⟩
  case round =>
    obtain ⟨n, bb, hn, rfl, hbb, H1, H2⟩ := hrel
    by_cases hlt : n < W
    · by_cases h0 : byt s (p + n) = 48
      · go_wp2_with (go_at_call 86; refine (hasByte_yes _ _ _ _ (by omega) (by omega) (by rw [show ((p : Int) + (n : Int)).toNat = p + n from by omega]; omega)).mono ?_; rintro e w' ⟨rfl, rfl⟩)
        go_round
        case rel => exact ⟨n + 1, _, by omega, rfl, by rw [size_snoc, hbb], extract_snoc (c := 48) h0 H1, rb_step hlt (.inl h0) H2⟩
        case measure => simp only [strOf]; rw [size_snoc]; omega
      · by_cases h1 : byt s (p + n) = 49
        · go_wp2_with fail
          refine (hasByte_no _ _ _ _ (by omega) (by omega) (by rw [show ((p : Int) + (n : Int)).toNat = p + n from by omega]; omega)).mono ?_
          rintro e w' ⟨rfl, rfl⟩
          go_wp2_with fail
          refine (hasByte_yes _ _ _ _ (by omega) (by omega) (by rw [show ((p : Int) + (n : Int)).toNat = p + n from by omega]; omega)).mono ?_
          rintro e w' ⟨rfl, rfl⟩
          go_wp2_with fail
          go_round
          case rel => exact ⟨n + 1, _, by omega, rfl, by rw [size_snoc, hbb], extract_snoc (c := 49) h1 H1, rb_step hlt (.inr h1) H2⟩
          case measure => simp only [strOf]; rw [size_snoc]; omega
        · go_wp2_with (go_at_call 86; refine (hasByte_no _ _ _ _ (by omega) (by omega) (by rw [show ((p : Int) + (n : Int)).toNat = p + n from by omega]; omega)).mono ?_; rintro e w' ⟨rfl, rfl⟩)
          go_ret2
          have hq := rb_stop (by omega) H2
          exact ⟨ret2 (str_eq (by rw [hq]; exact H1)) (int_eq (by omega)), rfl⟩
    · go_wp2_with fail
      go_ret2
      have hq := rb_full hn hlt H2
      exact ⟨ret2 (str_eq (by rw [hq]; exact H1)) (int_eq (by omega)), rfl⟩

theorem readBits_star (s : ByteArray) (W p : Nat) (w : World) (hs : s.size ≤ 400) (hp : p ≤ s.size) (hst : byt s p = 42) :
    Calls Tryd.prog 85 #[.string s, .int .i64 W, .int .i64 p] w fun e w' => e = .returned (.tuple #[.string ⟨#[]⟩, .int .i64 (p + 1 : Nat)]) ∧ w' = w := by
  go_enter Tryd.func85, Tryd.ntmps85
  go_wp2_with (go_at_call 86; refine (hasByte_yes _ _ _ _ (by omega) (by omega) (by simp; omega)).mono ?_; rintro e w' ⟨rfl, rfl⟩)
  go_ret2
  exact ⟨ret2 rfl (int_eq (by omega)), rfl⟩

theorem readBits_any (s : ByteArray) (W p : Int) (w : World) (hs : s.size ≤ 400) (h0 : 0 ≤ p) (hp : p ≤ s.size) (hW0 : 0 ≤ W) (hW : W ≤ 12) :
    Calls Tryd.prog 85 #[.string s, .int .i64 W, .int .i64 p] w fun e w' => e = .returned (.tuple #[.string (bOf s W.toNat p.toNat), .int .i64 (bEnd s W.toNat p.toNat : Nat)]) ∧ w' = w := by
  obtain ⟨W, rfl⟩ := Int.eq_ofNat_of_zero_le hW0
  obtain ⟨p, rfl⟩ := Int.eq_ofNat_of_zero_le h0
  rw [Int.toNat_natCast, Int.toNat_natCast]
  by_cases hst : byt s p = 42
  · rw [bOf, bEnd, if_pos hst, if_pos hst]; exact readBits_star s W p w hs (by omega) hst
  · rw [bOf, bEnd, if_neg hst, if_neg hst]; exact readBits_walk s W p w hs (by omega) (by omega) hst

theorem readHop_walk (s : ByteArray) (p : Nat) (w : World) (hs : s.size ≤ 400) (hp : p ≤ s.size) :
    Calls Tryd.prog 87 #[.string s, .int .i64 p] w fun e w' => e = .returned (.tuple #[.int .i64 ((hopGo s 3 0 p).1 : Nat), .int .i64 ((hopGo s 3 0 p).2 : Nat)]) ∧ w' = w := by
  go_enter Tryd.func87, Tryd.ntmps87
  go_wp2_with fail
  go_loop [6, 7] (fun h a => ∃ n q f : Nat, h = .int .i64 n ∧ a = .int .i64 q ∧ n ≤ 250 ∧ q ≤ s.size ∧ Hid (hopGo s f n q = hopGo s 3 0 p) ∧ Hid ((f = 3 ∧ n = 0) ∨ (f = 2 ∧ 1 ≤ n) ∨ (f = 1 ∧ 10 ≤ n) ∨ (f = 0 ∧ 100 ≤ n))) (fun _ a => s.size - (intOf a).toNat)
  case atStart => exact ⟨0, p, 3, rfl, rfl, by omega, hp, rfl, .inl ⟨rfl, rfl⟩⟩
  case round =>
    obtain ⟨n, q, f, rfl, rfl, hn, hq, H1, H2⟩ := hrel
    by_cases hlt : q < s.size
    · have HB : Hid (byt s q = (s[q]'hlt).toNat) := byt_in hlt
      have hcb : (s[q]'hlt).toNat < 256 := (s[q]'hlt).toNat_lt
      by_cases hd : 48 ≤ (s[q]'hlt).toNat ∧ (s[q]'hlt).toNat ≤ 57
      · obtain ⟨hd1, hd2⟩ := hd
        by_cases hl : 1 ≤ 10 * n + ((s[q]'hlt).toNat - 48) ∧ 10 * n + ((s[q]'hlt).toNat - 48) ≤ 250
        · obtain ⟨hl1, hl2⟩ := hl
          go_wp2_with fail
          go_round
          case rel =>
            have hb : byt s q = (s[q]'hlt).toNat := HB
            have H2' := H2.out
            refine ⟨10 * n + ((s[q]'hlt).toNat - 48), q + 1, f - 1, int_eq (by omega), int_eq (by omega), by omega, by omega, ?_, by unfold Hid; omega⟩
            unfold Hid
            rw [← H1.out, hopGo_step (s := s) (f := f) (n := n) (p := q) (by omega) (by omega), hb]
          case measure => simp [intOf]; omega
        · have hst := hopGo_stop (s := s) (f := f) (n := n) (p := q) (by rw [HB.out]; omega)
          have h3 : Hid ((n, q) = hopGo s 3 0 p) := hst.symm.trans H1
          clear hst
          by_cases hl1 : 1 ≤ 10 * n + ((s[q]'hlt).toNat - 48)
          · have hl2 : ¬ 10 * n + ((s[q]'hlt).toNat - 48) ≤ 250 := fun h => hl ⟨hl1, h⟩
            clear hl
            go_wp2_with fail
            go_ret2
            exact ⟨ret2 (int_eq (by rw [← h3.out])) (int_eq (by rw [← h3.out])), rfl⟩
          · clear hl
            go_wp2_with fail
            go_ret2
            exact ⟨ret2 (int_eq (by rw [← h3.out])) (int_eq (by rw [← h3.out])), rfl⟩
      · have hst := hopGo_stop (s := s) (f := f) (n := n) (p := q) (by rw [HB.out]; omega)
        have h3 : Hid ((n, q) = hopGo s 3 0 p) := hst.symm.trans H1
        clear hst
        by_cases hl1 : 48 ≤ (s[q]'hlt).toNat
        · have hl2 : ¬ (s[q]'hlt).toNat ≤ 57 := fun h => hd ⟨hl1, h⟩
          clear hd
          go_wp2_with fail
          go_ret2
          exact ⟨ret2 (int_eq (by rw [← h3.out])) (int_eq (by rw [← h3.out])), rfl⟩
        · clear hd
          go_wp2_with fail
          go_ret2
          exact ⟨ret2 (int_eq (by rw [← h3.out])) (int_eq (by rw [← h3.out])), rfl⟩
    · go_wp2_with fail
      go_ret2
      have hst := hopGo_stop (s := s) (f := f) (n := n) (p := q) (by rw [byt_out hlt]; omega)
      have h3 := hst.symm.trans H1
      exact ⟨ret2 (int_eq (by rw [← h3])) (int_eq (by rw [← h3])), rfl⟩
theorem readHop_any (s : ByteArray) (p : Int) (w : World) (hs : s.size ≤ 400) (h0 : 0 ≤ p) (hp : p ≤ s.size) :
    Calls Tryd.prog 87 #[.string s, .int .i64 p] w fun e w' => e = .returned (.tuple #[.int .i64 ((hopGo s 3 0 p.toNat).1 : Nat), .int .i64 ((hopGo s 3 0 p.toNat).2 : Nat)]) ∧ w' = w := by
  obtain ⟨p, rfl⟩ := Int.eq_ofNat_of_zero_le h0
  rw [Int.toNat_natCast]
  exact readHop_walk s p w hs (by omega)
end Go.Proofs.YtdfnmpmmkcpddaaDoor
/- The walks of package fib's reader: a line. -/
namespace Go.Proofs.YtdfnmpmmkcpddaaDoor
open Go.RowKit

theorem readLine_bad1 (s : ByteArray) (W p : Nat) (w : World) (hs : s.size ≤ 400) (hp : p ≤ s.size) (hW : W ≤ 12) (h : bEnd s W p = p) :
    Calls Tryd.prog 60 #[.string s, .int .i64 W, .int .i64 p] w fun e w' => e = .returned (.tuple #[.agg #[.string ⟨#[]⟩, .int .i64 0], .int .i64 (bEnd s W p : Nat), .bool false]) ∧ Below w.heap.size w w' := by
  have hb : ((bEnd s W p : Int) == (p : Int)) = true := by rw [beq_iff_eq]; omega
  clear h
  go_enter Tryd.func60, Tryd.ntmps60
  go_wp2_with fail
  refine (readBits_any _ _ _ _ hs (by omega) (by omega) (by omega) (by omega)).mono ?_
  rintro e w1 ⟨rfl, rfl⟩
  simp only [Int.toNat_natCast]
  go_wp2_with fail
  refine bodyPost_ret (v := .tuple #[.agg #[.string ⟨#[]⟩, .int .i64 0], .int .i64 (bEnd s W p : Nat), .bool false]) (by simp [results, Tryd.results60, go_sem]) rfl ⟨rfl, ?_⟩
  exact (Below.refl _ _).alloc (Nat.le_refl _) _

theorem readLine_bad2 (s : ByteArray) (W p : Nat) (w : World) (hs : s.size ≤ 400) (hp : p ≤ s.size) (hW : W ≤ 12) (h : ¬ bEnd s W p = p) (h2 : ¬ byt s (bEnd s W p) = 32) :
    Calls Tryd.prog 60 #[.string s, .int .i64 W, .int .i64 p] w fun e w' => e = .returned (.tuple #[.agg #[.string ⟨#[]⟩, .int .i64 0], .int .i64 (bEnd s W p : Nat), .bool false]) ∧ Below w.heap.size w w' := by
  have hb : ((bEnd s W p : Int) == (p : Int)) = false := by rw [beq_eq_false_iff_ne]; omega
  clear h
  go_enter Tryd.func60, Tryd.ntmps60
  go_wp2_with fail
  refine (readBits_any _ _ _ _ hs (by omega) (by omega) (by omega) (by omega)).mono ?_
  rintro e w1 ⟨rfl, rfl⟩
  simp only [Int.toNat_natCast]
  go_wp2_with fail
  refine (hasByte_no _ _ _ _ (by omega) (by omega) (by rw [Int.toNat_natCast]; omega)).mono ?_
  rintro e w1 ⟨rfl, rfl⟩
  go_wp2_with fail
  refine bodyPost_ret (v := .tuple #[.agg #[.string ⟨#[]⟩, .int .i64 0], .int .i64 (bEnd s W p : Nat), .bool false]) (by simp [results, Tryd.results60, go_sem]) rfl ⟨rfl, ?_⟩
  exact (Below.refl _ _).alloc (Nat.le_refl _) _

theorem readLine_bad3 (s : ByteArray) (W p : Nat) (w : World) (hs : s.size ≤ 400) (hp : p ≤ s.size) (hW : W ≤ 12) (h : ¬ bEnd s W p = p) (h2 : byt s (bEnd s W p) = 32) (h3 : (hopGo s 3 0 (bEnd s W p + 1)).1 = 0) :
    Calls Tryd.prog 60 #[.string s, .int .i64 W, .int .i64 p] w fun e w' => e = .returned (.tuple #[.agg #[.string ⟨#[]⟩, .int .i64 0], .int .i64 ((hopGo s 3 0 (bEnd s W p + 1)).2 : Nat), .bool false]) ∧ Below w.heap.size w w' := by
  have hb : ((bEnd s W p : Int) == (p : Int)) = false := by rw [beq_eq_false_iff_ne]; omega
  have hq := byt_lt_size (s := s) (k := bEnd s W p) (by omega)
  have hz : (((hopGo s 3 0 (bEnd s W p + 1)).1 : Int) == 0) = true := by rw [beq_iff_eq]; omega
  have H2 : Hid (byt s (bEnd s W p) = 32) := h2
  clear h h2 h3
  go_enter Tryd.func60, Tryd.ntmps60
  go_wp2_with fail
  refine (readBits_any _ _ _ _ hs (by omega) (by omega) (by omega) (by omega)).mono ?_
  rintro e w1 ⟨rfl, rfl⟩
  simp only [Int.toNat_natCast]
  go_wp2_with fail
  refine (hasByte_yes _ _ _ _ (by omega) (by omega) (by rw [Int.toNat_natCast, H2.out]; rfl)).mono ?_
  rintro e w1 ⟨rfl, rfl⟩
  go_wp2_with fail
  refine (readHop_any _ _ _ hs (by omega) (by omega)).mono ?_
  rintro e w1 ⟨rfl, rfl⟩
  rw [show ((bEnd s W p : Int) + 1).toNat = bEnd s W p + 1 from by omega]
  go_wp2_with fail
  refine bodyPost_ret (v := .tuple #[.agg #[.string ⟨#[]⟩, .int .i64 0], .int .i64 ((hopGo s 3 0 (bEnd s W p + 1)).2 : Nat), .bool false]) (by simp [results, Tryd.results60, go_sem]) rfl ⟨rfl, ?_⟩
  exact (Below.refl _ _).alloc (Nat.le_refl _) _

theorem readLine_bad4 (s : ByteArray) (W p : Nat) (w : World) (hs : s.size ≤ 400) (hp : p ≤ s.size) (hW : W ≤ 12) (h : ¬ bEnd s W p = p) (h2 : byt s (bEnd s W p) = 32) (h3 : ¬ (hopGo s 3 0 (bEnd s W p + 1)).1 = 0) (h4 : ¬ byt s (hopGo s 3 0 (bEnd s W p + 1)).2 = 10) :
    Calls Tryd.prog 60 #[.string s, .int .i64 W, .int .i64 p] w fun e w' => e = .returned (.tuple #[.agg #[.string ⟨#[]⟩, .int .i64 0], .int .i64 ((hopGo s 3 0 (bEnd s W p + 1)).2 : Nat), .bool false]) ∧ Below w.heap.size w w' := by
  have hb : ((bEnd s W p : Int) == (p : Int)) = false := by rw [beq_eq_false_iff_ne]; omega
  have hq := byt_lt_size (s := s) (k := bEnd s W p) (by omega)
  have hz : (((hopGo s 3 0 (bEnd s W p + 1)).1 : Int) == 0) = false := by rw [beq_eq_false_iff_ne]; omega
  have H2 : Hid (byt s (bEnd s W p) = 32) := h2
  clear h h2 h3
  go_enter Tryd.func60, Tryd.ntmps60
  go_wp2_with fail
  refine (readBits_any _ _ _ _ hs (by omega) (by omega) (by omega) (by omega)).mono ?_
  rintro e w1 ⟨rfl, rfl⟩
  simp only [Int.toNat_natCast]
  go_wp2_with fail
  refine (hasByte_yes _ _ _ _ (by omega) (by omega) (by rw [Int.toNat_natCast, H2.out]; rfl)).mono ?_
  rintro e w1 ⟨rfl, rfl⟩
  go_wp2_with fail
  refine (readHop_any _ _ _ hs (by omega) (by omega)).mono ?_
  rintro e w1 ⟨rfl, rfl⟩
  rw [show ((bEnd s W p : Int) + 1).toNat = bEnd s W p + 1 from by omega]
  go_wp2_with fail
  refine (hasByte_no _ _ _ _ (by omega) (by omega) (by rw [Int.toNat_natCast]; omega)).mono ?_
  rintro e w1 ⟨rfl, rfl⟩
  go_wp2_with fail
  refine bodyPost_ret (v := .tuple #[.agg #[.string ⟨#[]⟩, .int .i64 0], .int .i64 ((hopGo s 3 0 (bEnd s W p + 1)).2 : Nat), .bool false]) (by simp [results, Tryd.results60, go_sem]) rfl ⟨rfl, ?_⟩
  exact (Below.refl _ _).alloc (Nat.le_refl _) _

theorem readLine_good (s : ByteArray) (W p : Nat) (w : World) (hs : s.size ≤ 400) (hp : p ≤ s.size) (hW : W ≤ 12) (h : ¬ bEnd s W p = p) (h2 : byt s (bEnd s W p) = 32) (h3 : ¬ (hopGo s 3 0 (bEnd s W p + 1)).1 = 0) (h4 : byt s (hopGo s 3 0 (bEnd s W p + 1)).2 = 10) :
    Calls Tryd.prog 60 #[.string s, .int .i64 W, .int .i64 p] w fun e w' => e = .returned (.tuple #[.agg #[.string (bOf s W p), .int .i64 ((hopGo s 3 0 (bEnd s W p + 1)).1 : Nat)], .int .i64 ((hopGo s 3 0 (bEnd s W p + 1)).2 + 1 : Nat), .bool true]) ∧ Below w.heap.size w w' := by
  have hb : ((bEnd s W p : Int) == (p : Int)) = false := by rw [beq_eq_false_iff_ne]; omega
  have hq := byt_lt_size (s := s) (k := bEnd s W p) (by omega)
  have hz : (((hopGo s 3 0 (bEnd s W p + 1)).1 : Int) == 0) = false := by rw [beq_eq_false_iff_ne]; omega
  have he := hopGo_end s 3 0 (bEnd s W p + 1) (by omega)
  have H2 : Hid (byt s (bEnd s W p) = 32) := h2
  have H4 : Hid (byt s (hopGo s 3 0 (bEnd s W p + 1)).2 = 10) := h4
  clear h h2 h3 h4
  go_enter Tryd.func60, Tryd.ntmps60
  go_wp2_with fail
  refine (readBits_any _ _ _ _ hs (by omega) (by omega) (by omega) (by omega)).mono ?_
  rintro e w1 ⟨rfl, rfl⟩
  simp only [Int.toNat_natCast]
  go_wp2_with fail
  refine (hasByte_yes _ _ _ _ (by omega) (by omega) (by rw [Int.toNat_natCast, H2.out]; rfl)).mono ?_
  rintro e w1 ⟨rfl, rfl⟩
  go_wp2_with fail
  refine (readHop_any _ _ _ hs (by omega) (by omega)).mono ?_
  rintro e w1 ⟨rfl, rfl⟩
  rw [show ((bEnd s W p : Int) + 1).toNat = bEnd s W p + 1 from by omega]
  go_wp2_with fail
  refine (hasByte_yes _ _ _ _ (by omega) (by omega) (by rw [Int.toNat_natCast, H4.out]; rfl)).mono ?_
  rintro e w1 ⟨rfl, rfl⟩
  go_wp2_with fail
  refine bodyPost_ret (v := .tuple #[.agg #[.string (bOf s W p), .int .i64 ((hopGo s 3 0 (bEnd s W p + 1)).1 : Nat)], .int .i64 ((hopGo s 3 0 (bEnd s W p + 1)).2 + 1 : Nat), .bool true]) (by simp [results, Tryd.results60, go_sem]) rfl ⟨rfl, ?_⟩
  exact (Below.refl _ _).alloc (Nat.le_refl _) _

theorem readLine_no (s : ByteArray) (W p : Nat) (w : World) (hs : s.size ≤ 400) (hp : p ≤ s.size) (hW : W ≤ 12) (h : lBad s W p = true) :
    Calls Tryd.prog 60 #[.string s, .int .i64 W, .int .i64 p] w fun e w' => e = .returned (.tuple #[.agg #[.string ⟨#[]⟩, .int .i64 0], .int .i64 (lAt s W p : Nat), .bool false]) ∧ Below w.heap.size w w' := by
  simp only [lBad, decide_eq_true_eq] at h
  unfold lAt
  by_cases h1 : bEnd s W p = p
  · rw [if_pos (.inl h1)]; exact readLine_bad1 s W p w hs hp hW h1
  by_cases h2 : byt s (bEnd s W p) = 32
  · rw [if_neg (by omega)]
    by_cases h3 : (hopGo s 3 0 (bEnd s W p + 1)).1 = 0
    · exact readLine_bad3 s W p w hs hp hW h1 h2 h3
    · exact readLine_bad4 s W p w hs hp hW h1 h2 h3 (by omega)
  · rw [if_pos (.inr h2)]; exact readLine_bad2 s W p w hs hp hW h1 h2

theorem readLine_yes (s : ByteArray) (W p : Nat) (w : World) (hs : s.size ≤ 400) (hp : p ≤ s.size) (hW : W ≤ 12) (h : lBad s W p = false) :
    Calls Tryd.prog 60 #[.string s, .int .i64 W, .int .i64 p] w fun e w' => e = .returned (.tuple #[.agg #[.string (lRt s W p).bits, .int .i64 ((lRt s W p).hop : Nat)], .int .i64 (lAt s W p + 1 : Nat), .bool true]) ∧ Below w.heap.size w w' := by
  simp only [lBad, decide_eq_false_iff_not] at h
  unfold lAt lRt
  rw [if_neg (by omega)]
  exact readLine_good s W p w hs hp hW (by omega) (by omega) (by omega) (by omega)
end Go.Proofs.YtdfnmpmmkcpddaaDoor
/- The walks of package fib's reader: a table. -/
namespace Go.Proofs.YtdfnmpmmkcpddaaDoor
open Go.RowKit

theorem Tryd.infoRoute : (Tryd.prog.info? 78).map (fun i => (i.zero, i.size, i.bytes)) = some (some (.agg #[.string ⟨#[]⟩, .int .i64 0]), 2, 24) := by kernel_rfl

theorem readTable_long (s : ByteArray) (W : Int) (w : World) (hm : s.size ≤ maxLen) (h : 400 < s.size) :
    Calls Tryd.prog 37 #[.string s, .int .i64 W] w fun e w' => e = .returned (.tuple #[.slice none 0 0, .int .i64 1, .int .i64 0]) ∧ w' = w := by
  unfold maxLen at hm
  go_enter Tryd.func37, Tryd.ntmps37
  go_wp2_with fail
  go_ret3
  exact ⟨rfl, rfl⟩
theorem readTable_arg (s : ByteArray) (W : Int) (w : World) (hs : s.size ≤ 400) (h : W < 1 ∨ 12 < W) :
    Calls Tryd.prog 37 #[.string s, .int .i64 W] w fun e w' => e = .returned (.tuple #[.slice none 0 0, .int .i64 2, .int .i64 0]) ∧ w' = w := by
  rcases h with h | h
  · go_enter Tryd.func37, Tryd.ntmps37
    go_wp2_with fail
    go_ret3
    exact ⟨rfl, rfl⟩
  · go_enter Tryd.func37, Tryd.ntmps37
    go_wp2_with fail
    go_ret3
    exact ⟨rfl, rfl⟩

set_option maxRecDepth 100000 in
theorem readTable_walk (s : ByteArray) (W : Nat) (w : World) (hs : s.size ≤ 400) (hW1 : 1 ≤ W) (hW : W ≤ 12) :
    Calls Tryd.prog 37 #[.string s, .int .i64 W] w fun e w' => ∃ ao cap, e = .returned (.tuple #[.slice ao (tRts s W).length cap, .int .i64 (tErr s W), .int .i64 (tAt s W)]) ∧
      w'.ownsRow w.heap.size 78 2 (.slice ao (tRts s W).length cap) (tRts s W).length (rc (tRts s W)) ∧ Below w.heap.size w w' := by
  obtain ⟨i0, hi, hz0, hz1, hz2⟩ := info_parts Tryd.infoRoute
  go_enter Tryd.func37, Tryd.ntmps37
  go_wp2_with fail
  go_loopw [7, 8] (fun v a wr => ∃ (p : Nat) (acc : List Rt) (ao : Option Addr) (cap f : Nat), a = .int .i64 p ∧ v = .slice ao acc.length cap ∧ p ≤ s.size ∧ acc.length ≤ p ∧
      wr.ownsRow w.heap.size 78 2 (.slice ao acc.length cap) acc.length (rc acc) ∧ Below w.heap.size w wr ∧ Hid (s.size < f + p ∧ parse s W f p acc = table s W)) (fun _ a _ => s.size - (intOf a).toNat)
  case atStart => exact ⟨0, [], none, 0, s.size + 1, rfl, rfl, by omega, by simp, World.ownsRow_nil _ _ _ _, Below.refl _ _, by unfold Hid; exact ⟨by omega, rfl⟩⟩
  case round =>
    obtain ⟨p, acc, ao, cap, f, rfl, rfl, hp, hacc, hown, hbel, HP⟩ := hrel
    by_cases hlt : p < s.size
    · cases hbad : lBad s W p with
      | true =>
        have HB : Hid (lBad s W p = true) := hbad
        clear hbad
        go_wp2_with fail
        refine (readLine_no s W p _ hs hp hW HB).mono ?_
        rintro e w1 ⟨rfl, hb1⟩
        go_wp2_with fail
        go_ret3
        have hpb := (parse_bad HP.out.1 hlt HB).symm.trans HP.out.2
        obtain ⟨e1, e2, e3⟩ := t_bad hs hW1 hW hpb.symm
        rw [e1, e2, e3]
        exact ⟨none, 0, ret3 rfl rfl rfl, World.ownsRow_nil _ _ _ _, (hbel.trans (hb1.mono hbel.size)).alloc (by have := hbel.size; have := hb1.size; omega) _⟩
      | false =>
        have HB : Hid (lBad s W p = false) := hbad
        clear hbad
        go_wp2_with fail
        refine (readLine_yes s W p _ hs hp hW HB).mono ?_
        rintro e w1 ⟨rfl, hb1⟩
        have hz1' := hbel.size
        have hz2' := hb1.size
        have hat := lAt_lt s W p HB
        go_wp2_with (at_builtin; refine wpList_append_own _ rfl (.tmp 36) (.tmp 38) 46 rfl w.heap.size 78 i0 _ 2 24 Tryd.underlying46 hi hz0 hz1 hz2 rfl (by decide) _ _ _ rfl (((own_below hown hb1).alloc _).alloc _) ⟨w1.heap.size + 1, 0, none⟩ 1 1 [.string (lRt s W p).bits, .int .i64 (lRt s W p).hop] rfl rfl ?c1 ?c2 ?c3 ?c4 ?c5 ?_)
        case c1 =>
          intro j u hj
          match j, hj with
          | 0, hj => simp at hj; subst hj; simp [Addr.add]
          | 1, hj => simp at hj; subst hj; simp [Addr.add]
        case c2 => intro u hu; simp at hu; rcases hu with rfl | rfl <;> rfl
        case c3 => unfold maxLen; omega
        case c4 => omega
        case c5 => simp; omega
        intro v' w2 hown2 hgrow _
        obtain ⟨ao2, cap2, rfl⟩ := own_shape hown2
        have hstep := parse_step HP.out.1 hlt HB (acc := acc)
        go_wp2_with fail
        go_roundw
        case rel =>
          obtain ⟨f', hf', hpar⟩ := hstep
          refine ⟨lAt s W p + 1, acc ++ [lRt s W p], ao2, cap2, f', int_eq (by omega), by rw [List.length_append]; rfl, by omega, by rw [List.length_append]; simp only [List.length_cons, List.length_nil]; omega, ?_, ?_, ?_⟩
          · rw [List.length_append, rc_snoc]; exact hown2
          · refine (((hbel.trans (hb1.mono hz1')).alloc (by omega) _).alloc (by simp; omega) _).grown hgrow (by simp; omega) ?_
            intro k hk
            exact (hown.lt k hk).1
          · exact ⟨hf', hpar.symm.trans HP.out.2⟩
        case measure => simp [intOf]; omega
    · have hd := (parse_done HP.out.1 (by omega)).symm.trans HP.out.2
      have HD : Hid (table s W = (some acc, 0)) := hd.symm
      clear hd
      by_cases hmany : 24 < acc.length
      · go_wp2_with fail
        go_ret3
        obtain ⟨e1, e2, e3⟩ := t_many hs hW1 hW HD hmany
        rw [e1, e2, e3]
        exact ⟨none, 0, ret3 rfl rfl rfl, World.ownsRow_nil _ _ _ _, hbel⟩
      · go_wp2_with fail
        go_ret3
        obtain ⟨e1, e2, e3⟩ := t_ok hs hW1 hW HD hmany
        rw [e1, e2, e3]
        exact ⟨ao, cap, ret3 rfl rfl rfl, hown, hbel⟩

theorem readTable_any (s : ByteArray) (W : Int) (w : World) (hm : s.size ≤ maxLen) :
    Calls Tryd.prog 37 #[.string s, .int .i64 W] w fun e w' => ∃ ao cap, e = .returned (.tuple #[.slice ao (tRts s W).length cap, .int .i64 (tErr s W), .int .i64 (tAt s W)]) ∧
      w'.ownsRow w.heap.size 78 2 (.slice ao (tRts s W).length cap) (tRts s W).length (rc (tRts s W)) ∧ Below w.heap.size w w' := by
  by_cases h1 : 400 < s.size
  · obtain ⟨e1, e2, e3⟩ := t_long (W := W) h1
    rw [e1, e2, e3]
    refine (readTable_long s W w hm h1).mono ?_
    rintro e w1 ⟨rfl, rfl⟩
    exact ⟨none, 0, rfl, World.ownsRow_nil _ _ _ _, Below.refl _ _⟩
  by_cases h2 : W < 1 ∨ 12 < W
  · obtain ⟨e1, e2, e3⟩ := t_arg (s := s) (by omega) h2
    rw [e1, e2, e3]
    refine (readTable_arg s W w (by omega) h2).mono ?_
    rintro e w1 ⟨rfl, rfl⟩
    exact ⟨none, 0, rfl, World.ownsRow_nil _ _ _ _, Below.refl _ _⟩
  obtain ⟨k, rfl⟩ := Int.eq_ofNat_of_zero_le (show 0 ≤ W by omega)
  exact readTable_walk s k w (by omega) (by omega) (by omega)
end Go.Proofs.YtdfnmpmmkcpddaaDoor
