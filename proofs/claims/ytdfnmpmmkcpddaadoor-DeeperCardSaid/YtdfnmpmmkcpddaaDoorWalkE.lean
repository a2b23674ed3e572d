/- The walks of the document's reader: bits, hop. -/
import Derived.Test.YtdfnmpmmkcpddaaDoorWalkD
namespace Go.Proofs.YtdfnmpmmkcpddaaDoor
open Go.RowKit

theorem rbits_star (s : ByteArray) (B W p : Nat) (v : Value) (w : World) (hs : s.size ≤ 400) (hr : Rd w B s W p v false) (h : byt s p = 42) :
    Calls Tryd.prog 91 #[.pointer (some ⟨B, 0, none⟩)] w fun e w' => e = .returned (.string ⟨#[]⟩) ∧ Rd w' B s W (p + 1) v false ∧ w.grownBy w' (some B) := by
  obtain ⟨c0, c1, c2, c3, c4⟩ := hr.cells
  have hf := hr.free
  have hp : p < s.size := byt_lt_size (by omega)
  have H : Hid (byt s p = 42) := h
  clear h
  go_enter Tryd.func91, Tryd.ntmps91
  go_wp2_with fail
  refine (at_yes s B W p 42 42 v false _ hr (by omega) (by have := H.out; omega) (by have := H.out; omega) (by omega)).mono ?_
  rintro e w1 ⟨rfl, n, rfl⟩
  go_wp2_with fail
  go_ret
  exact ⟨rfl, (hr.drew n).setP (p + 1), g_set (g_drew (g_refl _ _) n) _⟩

theorem rbits_walk (s : ByteArray) (B W p : Nat) (v : Value) (w : World) (hs : s.size ≤ 400) (hp : p ≤ s.size) (hW : W ≤ 12) (hr : Rd w B s W p v false) (h : ¬ byt s p = 42) :
    Calls Tryd.prog 91 #[.pointer (some ⟨B, 0, none⟩)] w fun e w' => e = .returned (.string (s.extract p (p + nbits s W p))) ∧ Rd w' B s W (p + nbits s W p) v (decide (nbits s W p = 0)) ∧ w.grownBy w' (some B) := by
  obtain ⟨c0, c1, c2, c3, c4⟩ := hr.cells
  go_enter Tryd.func91, Tryd.ntmps91
  go_wp2_with fail
  refine (at_no s B W p 42 42 v false _ hr (by omega) (by omega) (by omega) (by omega)).mono ?_
  rintro e w1 ⟨rfl, n, rfl⟩
  go_wp2_with fail
  clear c0 c1 c2 c3 c4
  go_loopg [5] W (fun g _ wr => ∃ k : Nat, g + k = W ∧ p + k ≤ s.size ∧ Rd wr B s W (p + k) v false ∧ w.grownBy wr (some B) ∧ Hid (nbits s W p = k + nbits s (W - k) (p + k)))
  case atStart => exact ⟨0, by omega, by omega, hr.drew n, g_drew (g_refl _ _) n, by unfold Hid; simp⟩
  case round =>
    obtain ⟨k, hk, hpk, hrd, hgr, HN⟩ := hrel
    obtain ⟨c0, c1, c2, c3, c4⟩ := hrd.cells
    have hf := hrd.free
    by_cases hlt : k < W
    · by_cases hb : byt s (p + k) = 48 ∨ byt s (p + k) = 49
      · have HB : Hid (byt s (p + k) = 48 ∨ byt s (p + k) = 49) := hb
        have hps : p + k < s.size := byt_lt_size (by omega)
        clear hb
        go_wp2_with fail
        go_quiet (fail)
        go_wp2_with fail
        refine (at_yes s B W (p + k) 48 49 v false _ (hrd.drew nq) (by omega) (by have := HB.out; omega) (by have := HB.out; omega) (by omega)).mono ?_
        rintro e w1 ⟨rfl, n1, rfl⟩
        go_wp2_with fail
        go_roundg (W - (k + 1))
        case measure => omega
        case rel => exact ⟨k + 1, by omega, by omega, ((hrd.drew nq).drew n1).setP (p + (k + 1)), g_set (g_drew hgr _) _, rb_step hlt HB HN⟩
      · have hN : Hid (nbits s W p = k) := rb_stop hb HN
        go_wp2_with fail
        go_quiet (fail)
        go_wp2_with fail
        refine (at_no s B W (p + k) 48 49 v false _ (hrd.drew nq) (by omega) (by omega) (by omega) (by omega)).mono ?_
        rintro e w1 ⟨rfl, n1, rfl⟩
        clear hb
        by_cases hk0 : k = 0
        · subst hk0
          have e1 : (((p : Int) + ((0 : Nat) : Int)) == (p : Int)) = true := by simp
          go_wp2_with fail
          go_quiet (fail)
          go_wp2_with fail
          go_ret
          rw [hN.out]
          exact ⟨ret1 (str_eq (by simp)), ((hrd.drew _).setBad true).drew _, by repeat (first | exact hgr | apply g_drew | apply g_set)⟩
        · have e1 : (((p : Int) + (k : Int)) == (p : Int)) = false := by rw [beq_eq_false_iff_ne]; omega
          go_wp2_with fail
          go_quiet (fail)
          go_wp2_with fail
          go_ret
          rw [hN.out, show decide (k = 0) = false from by simp [hk0]]
          exact ⟨rfl, (hrd.drew _).drew _, by repeat (first | exact hgr | apply g_drew | apply g_set)⟩
    · have hN : Hid (nbits s W p = k) := rb_full (by omega) hlt HN
      go_wp2_with fail
      go_quiet (fail)
      by_cases hk0 : k = 0
      · subst hk0
        have e1 : (((p : Int) + ((0 : Nat) : Int)) == (p : Int)) = true := by simp
        go_wp2_with fail
        go_quiet (fail)
        go_wp2_with fail
        go_ret
        rw [hN.out]
        exact ⟨ret1 (str_eq (by simp)), ((hrd.drew _).setBad true).drew _, by repeat (first | exact hgr | apply g_drew | apply g_set)⟩
      · have e1 : (((p : Int) + (k : Int)) == (p : Int)) = false := by rw [beq_eq_false_iff_ne]; omega
        go_wp2_with fail
        go_quiet (fail)
        go_wp2_with fail
        go_ret
        rw [hN.out, show decide (k = 0) = false from by simp [hk0]]
        exact ⟨rfl, (hrd.drew _).drew _, by repeat (first | exact hgr | apply g_drew | apply g_set)⟩

theorem rbits_any (s : ByteArray) (B W p : Nat) (v : Value) (w : World) (hs : s.size ≤ 400) (hp : p ≤ s.size) (hW : W ≤ 12) (hr : Rd w B s W p v false) :
    Calls Tryd.prog 91 #[.pointer (some ⟨B, 0, none⟩)] w fun e w' => e = .returned (.string (bOf s W p)) ∧ Rd w' B s W (bEnd s W p) v (decide (bEnd s W p = p)) ∧ w.grownBy w' (some B) := by
  unfold bOf bEnd
  by_cases h : byt s p = 42
  · rw [if_pos h, if_pos h, show decide (p + 1 = p) = false from by simp]; exact rbits_star s B W p v w hs hr h
  · rw [if_neg h, if_neg h, show decide (p + nbits s W p = p) = decide (nbits s W p = 0) from by simp]; exact rbits_walk s B W p v w hs hp hW hr h

theorem rhop_bad (s : ByteArray) (B W p : Nat) (v : Value) (w : World) (hr : Rd w B s W p v true) :
    Calls Tryd.prog 93 #[.pointer (some ⟨B, 0, none⟩)] w fun e w' => e = .returned (.int .i64 0) ∧ Rd w' B s W p v true ∧ w.grownBy w' (some B) := by
  obtain ⟨c0, c1, c2, c3, c4⟩ := hr.cells
  go_enter Tryd.func93, Tryd.ntmps93
  go_wp2_with fail
  go_ret
  exact ⟨rfl, hr, g_refl _ _⟩
theorem rhop_no (s : ByteArray) (B W p : Nat) (v : Value) (w : World) (hr : Rd w B s W p v false) (h : ¬ (49 ≤ byt s p ∧ byt s p ≤ 57)) :
    Calls Tryd.prog 93 #[.pointer (some ⟨B, 0, none⟩)] w fun e w' => e = .returned (.int .i64 0) ∧ Rd w' B s W p v true ∧ w.grownBy w' (some B) := by
  obtain ⟨c0, c1, c2, c3, c4⟩ := hr.cells
  have hf := hr.free
  go_enter Tryd.func93, Tryd.ntmps93
  go_wp2_with fail
  refine (at_no s B W p 49 57 v false _ hr (by omega) (by omega) (by omega) (by omega)).mono ?_
  rintro e w1 ⟨rfl, n, rfl⟩
  go_wp2_with fail
  go_ret
  exact ⟨rfl, (hr.drew n).setBad true, g_set (g_drew (g_refl _ _) n) _⟩
theorem rhop_walk (s : ByteArray) (B W p : Nat) (v : Value) (w : World) (hs : s.size ≤ 400) (hr : Rd w B s W p v false) (h1 : 49 ≤ byt s p) (h2 : byt s p ≤ 57) :
    Calls Tryd.prog 93 #[.pointer (some ⟨B, 0, none⟩)] w fun e w' => e = .returned (.int .i64 (hopGo s 3 0 p).1) ∧ Rd w' B s W (hopGo s 3 0 p).2 v false ∧ w.grownBy w' (some B) := by
  obtain ⟨c0, c1, c2, c3, c4⟩ := hr.cells
  have hps : p < s.size := byt_lt_size (by omega)
  go_enter Tryd.func93, Tryd.ntmps93
  go_wp2_with fail
  refine (at_yes s B W p 49 57 v false _ hr (by omega) (by omega) (by omega) (by omega)).mono ?_
  rintro e w1 ⟨rfl, n, rfl⟩
  go_wp2_with fail
  clear c0 c1 c2 c3 c4
  go_loopg [4, 5] 3 (fun f x _ wr => ∃ m q : Nat, x = .int .i64 m ∧ q ≤ s.size ∧ m ≤ 250 ∧ Rd wr B s W q v false ∧ w.grownBy wr (some B) ∧ Hid (hopGo s f m q = hopGo s 3 0 p) ∧ Hid ((f = 3 ∧ m = 0 ∧ 49 ≤ byt s q) ∨ (f = 2 ∧ 1 ≤ m) ∨ (f = 1 ∧ 10 ≤ m) ∨ (f = 0 ∧ 100 ≤ m)))
  case atStart => exact ⟨0, p, rfl, by omega, by omega, hr.drew n, g_drew (g_refl _ _) n, rfl, .inl ⟨rfl, rfl, h1⟩⟩
  case round =>
    obtain ⟨m, q, rfl, hq, hm, hrd, hgr, HN, HF⟩ := hrel
    obtain ⟨c0, c1, c2, c3, c4⟩ := hrd.cells
    have hf := hrd.free
    by_cases hd : 48 ≤ byt s q ∧ byt s q ≤ 57
    · obtain ⟨hd1, hd2⟩ := hd
      have hlt : q < s.size := byt_lt_size (by omega)
      have HB : Hid (byt s q = (s[q]'hlt).toNat) := byt_in hlt
      have hc1 : 48 ≤ (s[q]'hlt).toNat := by have := HB.out; omega
      have hc2 : (s[q]'hlt).toNat ≤ 57 := by have := HB.out; omega
      by_cases hl : 10 * m + ((s[q]'hlt).toNat - 48) ≤ 250
      · go_wp2_with fail
        refine (at_yes s B W q 48 57 v false _ hrd (by omega) (by omega) (by omega) (by omega)).mono ?_
        rintro e w1 ⟨rfl, n1, rfl⟩
        go_wp2_with fail
        go_quiet (fail)
        go_wp2_with fail
        go_quiet (fail)
        go_wp2_with fail
        go_roundg (gk - 1)
        case measure => have := HF.out; omega
        case rel =>
          have HB' := HB.out
          have HF' := HF.out
          refine ⟨10 * m + ((s[q]'hlt).toNat - 48), q + 1, int_eq (by omega), by omega, hl, (hrd.drew _).setP (q + 1), g_set (g_drew hgr _) _, ?_, by unfold Hid; omega⟩
          unfold Hid
          rw [← HN.out, hopGo_step (s := s) (f := gk) (n := m) (p := q) (by omega) (by omega), HB']
      · have hst : Hid ((m, q) = hopGo s 3 0 p) := (hopGo_stop (s := s) (f := gk) (n := m) (p := q) (by rw [HB.out]; omega)).symm.trans HN
        go_wp2_with fail
        refine (at_yes s B W q 48 57 v false _ hrd (by omega) (by omega) (by omega) (by omega)).mono ?_
        rintro e w1 ⟨rfl, n1, rfl⟩
        go_wp2_with fail
        go_quiet (fail)
        go_wp2_with fail
        go_ret
        rw [← hst.out]
        exact ⟨rfl, (hrd.drew _).drew _, g_drew (g_drew hgr _) _⟩
    · have hst : Hid ((m, q) = hopGo s 3 0 p) := (hopGo_stop (s := s) (f := gk) (n := m) (p := q) (by omega)).symm.trans HN
      go_wp2_with fail
      refine (at_no s B W q 48 57 v false _ hrd (by omega) (by omega) (by omega) (by omega)).mono ?_
      rintro e w1 ⟨rfl, n1, rfl⟩
      clear hd
      go_wp2_with fail
      go_quiet (fail)
      go_wp2_with fail
      go_ret
      rw [← hst.out]
      exact ⟨rfl, (hrd.drew _).drew _, g_drew (g_drew hgr _) _⟩

theorem hopGo_no {s : ByteArray} {p : Nat} (h : ¬ (49 ≤ byt s p ∧ byt s p ≤ 57)) : hopGo s 3 0 p = (0, p) := hopGo_stop (by omega)
theorem hopGo_pos (s : ByteArray) : ∀ (f n p : Nat), 1 ≤ n → 1 ≤ (hopGo s f n p).1
  | 0, _, _, h => by simpa [hopGo] using h
  | f + 1, n, p, h => by
    unfold hopGo; split
    · exact hopGo_pos s f _ _ (by omega)
    · exact h
theorem hopGo_yes {s : ByteArray} {p : Nat} (h1 : 49 ≤ byt s p) (h2 : byt s p ≤ 57) : 1 ≤ (hopGo s 3 0 p).1 := by
  rw [hopGo_step (by omega) (by omega)]; exact hopGo_pos s _ _ _ (by omega)

theorem rhop_any (s : ByteArray) (B W p : Nat) (v : Value) (w : World) (hs : s.size ≤ 400) (hr : Rd w B s W p v false) :
    Calls Tryd.prog 93 #[.pointer (some ⟨B, 0, none⟩)] w fun e w' => e = .returned (.int .i64 (hopGo s 3 0 p).1) ∧ Rd w' B s W (hopGo s 3 0 p).2 v (decide ((hopGo s 3 0 p).1 = 0)) ∧ w.grownBy w' (some B) := by
  by_cases h : 49 ≤ byt s p ∧ byt s p ≤ 57
  · have := hopGo_yes h.1 h.2
    rw [show decide ((hopGo s 3 0 p).1 = 0) = false from by rw [decide_eq_false_iff_not]; omega]; exact rhop_walk s B W p v w hs hr h.1 h.2
  · rw [hopGo_no h]; exact rhop_no s B W p v w hr h
end Go.Proofs.YtdfnmpmmkcpddaaDoor
