/- The walks of the document's images. -/
import Derived.Test.YtdfnmpmmkcpddaaDoorBase
import Derived.Test.YtdfnmpmmkcpddaaDoorSpecB
import Derived.Test.YtdfnmpmmkcpddaaDoorSpecI
namespace Go.Proofs.YtdfnmpmmkcpddaaDoor
open Go.RowKit

theorem two_any (s : ByteArray) (p : Int) (w : World) (h0 : 0 ≤ p) (h : p + 1 < s.size) (hs : p ≤ 200000) :
    Calls Tryd.prog 57 #[.string s, .int .i64 p] w fun e w' => e = .returned (.int .i64 (b2 s p.toNat)) ∧ ∃ n, w' = w.drewN n := by
  obtain ⟨p, rfl⟩ := Int.eq_ofNat_of_zero_le h0
  rw [Int.toNat_natCast]
  have e1 := byt_in (s := s) (k := p) (by omega)
  have e2 := byt_in (s := s) (k := p + 1) (by omega)
  have h3 := (s[p]'(by omega)).toNat_lt
  have h4 := (s[p + 1]'(by omega)).toNat_lt
  have HB : Hid (b2 s p = 256 * (s[p]'(by omega)).toNat + (s[p + 1]'(by omega)).toNat) := by unfold Hid b2; rw [e1, e2]
  clear e1 e2
  have hp : p < s.size := by omega
  have hp1 : p + 1 < s.size := by omega
  have hq : (p : Int) < (s.size : Int) := by omega
  have hq0 : (0 : Int) ≤ (p : Int) + 1 := by omega
  go_enter Tryd.func57, Tryd.ntmps57
  go_wp2_with fail
  go_quiet (fail)
  go_wp2_with fail
  go_ret
  exact ⟨ret1 (int_eq (by rw [HB.out]; omega)), _, rfl⟩

theorem sum_any (s : ByteArray) (n : Nat) (w : World) (h : n ≤ s.size) (hs : s.size ≤ 70000) :
    Calls Tryd.prog 77 #[.string s, .int .i64 n] w fun e w' => e = .returned (.int .i64 (sumF s n)) ∧ w' = w := by
  go_enter Tryd.func77, Tryd.ntmps77
  go_wp2_with fail
  go_loopg [5, 6] n (fun g x y wr => ∃ i t : Nat, wr = w ∧ x = .int .i64 t ∧ y = .int .i64 i ∧ g + i = n ∧ t < 65521 ∧ Hid (t = sumF s i))
  case atStart => exact ⟨0, 0, rfl, rfl, rfl, by omega, by omega, rfl⟩
  case round =>
    obtain ⟨i, t, rfl, rfl, rfl, hg, ht, HT⟩ := hrel
    by_cases hlt : i < n
    · have hi : i < s.size := by omega
      have hc := (s[i]'hi).toNat_lt
      have HC : Hid (byt s i = (s[i]'hi).toNat) := byt_in hi
      obtain ⟨m, hm⟩ : ∃ m : Nat, m = (i + 1) * ((s[i]'hi).toNat + 1) := ⟨_, rfl⟩
      have hmle : m ≤ 70000 * 256 := by rw [hm]; exact Nat.mul_le_mul (by omega) (by omega)
      have hmi : ((i : Int) + 1) * (((s[i]'hi).toNat : Int) + 1) = (m : Int) := by rw [hm]; simp
      have HM : Hid (m = (i + 1) * ((s[i]'hi).toNat + 1)) := hm
      clear hm
      go_wp2_with fail
      go_roundg (gk - 1)
      case measure => omega
      case rel => exact ⟨i + 1, (t + m) % 65521, rfl, int_eq (by omega), int_eq (by omega), by omega, by omega, by unfold Hid; rw [sumF, ← HT.out, HC.out, ← HM.out]⟩
    · go_wp2_with fail
      go_ret
      have : i = n := by omega
      subst this
      exact ⟨ret1 (int_eq (by rw [HT.out])), rfl⟩

theorem set_any (s : ByteArray) (p j : Int) (w : World) (h0 : 0 ≤ p) (hj0 : 0 ≤ j) (h : p + 1 + j / 8 < s.size) (hs : s.size ≤ 70000) (hj : j ≤ 4096) :
    Calls Tryd.prog 80 #[.string s, .int .i64 p, .int .i64 j] w fun e w' => e = .returned (.bool (setF s p.toNat j.toNat)) ∧ w' = w := by
  obtain ⟨p, rfl⟩ := Int.eq_ofNat_of_zero_le h0
  obtain ⟨j, rfl⟩ := Int.eq_ofNat_of_zero_le hj0
  rw [Int.toNat_natCast, Int.toNat_natCast]
  have hi : p + 1 + j / 8 < s.size := by omega
  have HC : Hid (byt s (p + 1 + j / 8) = (s[p + 1 + j / 8]'hi).toNat) := byt_in hi
  have hc := (s[p + 1 + j / 8]'hi).toNat_lt
  go_enter Tryd.func80, Tryd.ntmps80
  have hb : Go.bits BinOp.and IntKind.i64 (((s[p + 1 + j / 8]'hi).toNat : Int) / 2 ^ (j % 8)) 1 = (((s[p + 1 + j / 8]'hi).toNat / 2 ^ (j % 8) % 2 : Nat) : Int) := by
    rw [i64_and1, Int.natCast_emod, Int.natCast_ediv, Int.natCast_pow]; rfl
  have HB : Hid (Go.bits BinOp.and IntKind.i64 (((s[p + 1 + j / 8]'hi).toNat : Int) / 2 ^ (j % 8)) 1 = (((s[p + 1 + j / 8]'hi).toNat / 2 ^ (j % 8) % 2 : Nat) : Int)) := hb
  clear hb
  go_wp2_with fail
  go_ret
  refine ⟨ret1 (bool_eq ?_), rfl⟩
  show (Go.bits BinOp.and IntKind.i64 (((s[p + 1 + j / 8]'hi).toNat : Int) / 2 ^ (j % 8)) 1 == 1) = _
  rw [HB.out, setF, HC.out, Bool.eq_iff_iff, beq_iff_eq, decide_eq_true_eq]
  omega

theorem ones_any (s : ByteArray) (p n : Int) (w : World) (h0 : 0 ≤ p) (hn0 : 0 ≤ n) (h : p + 1 + (n + 7) / 8 ≤ s.size) (hs : s.size ≤ 70000) (hn : n ≤ 4096) :
    Calls Tryd.prog 82 #[.string s, .int .i64 p, .int .i64 n] w fun e w' => e = .returned (.int .i64 (onesF s p.toNat n.toNat)) ∧ w' = w := by
  obtain ⟨p, rfl⟩ := Int.eq_ofNat_of_zero_le h0
  obtain ⟨n, rfl⟩ := Int.eq_ofNat_of_zero_le hn0
  rw [Int.toNat_natCast, Int.toNat_natCast]
  go_enter Tryd.func82, Tryd.ntmps82
  go_wp2_with fail
  go_loopg [7, 8] n (fun g x y wr => ∃ i k : Nat, wr = w ∧ x = .int .i64 k ∧ y = .int .i64 i ∧ g + i = n ∧ k ≤ i ∧ Hid (k = onesF s p i))
  case atStart => exact ⟨0, 0, rfl, rfl, rfl, by omega, by omega, rfl⟩
  case round =>
    obtain ⟨i, k, rfl, rfl, rfl, hg, hk, HK⟩ := hrel
    by_cases hlt : i < n
    · cases hs1 : setF s p i with
      | true =>
        have HS : Hid (setF s p i = true) := hs1
        clear hs1
        go_wp2_with fail
        refine (set_any s p i _ (by omega) (by omega) (by omega) hs (by omega)).mono ?_
        rintro e w1 ⟨rfl, rfl⟩
        rw [Int.toNat_natCast, Int.toNat_natCast, HS.out]
        go_wp2_with fail
        go_roundg (gk - 1)
        case measure => omega
        case rel => exact ⟨i + 1, k + 1, rfl, int_eq (by omega), int_eq (by omega), by omega, by omega, by unfold Hid; rw [onesF, if_pos HS.out, ← HK.out]⟩
      | false =>
        have HS : Hid (setF s p i = false) := hs1
        clear hs1
        go_wp2_with fail
        refine (set_any s p i _ (by omega) (by omega) (by omega) hs (by omega)).mono ?_
        rintro e w1 ⟨rfl, rfl⟩
        rw [Int.toNat_natCast, Int.toNat_natCast, HS.out]
        go_wp2_with fail
        go_roundg (gk - 1)
        case measure => omega
        case rel => exact ⟨i + 1, k, rfl, rfl, int_eq (by omega), by omega, by omega, by unfold Hid; rw [onesF, if_neg (by rw [HS.out]; simp), ← HK.out]⟩
    · go_wp2_with fail
      go_ret
      have : i = n := by omega
      subst this
      exact ⟨ret1 (int_eq (by rw [HK.out])), rfl⟩

/-- 2^s, of a stride from 1 to 12. -/
theorem pow_st {t : Nat} (h1 : 1 ≤ t) (h : t ≤ 12) : wrap64 (2 ^ t) = ((2 ^ t : Nat) : Int) ∧ 2 ^ t ≤ 4096 ∧ 2 ≤ 2 ^ t := by
  obtain ⟨p1, p2, _⟩ := wrap_pow h
  refine ⟨p1, p2, ?_⟩
  have : 2 ^ 1 ≤ 2 ^ t := Nat.pow_le_pow_right (by omega) h1
  omega

/-- What 'lies' answers. -/
def LiesR (s : ByteArray) (p e b : Nat) (x y : Int) (ok : Bool) : Prop := ok = nodeF s p e b ∧ (ok = true → x = entF s p ∧ y = onesF s p (2 ^ byt s p))

def LiesE (s : ByteArray) (p e b : Nat) (r : Ending) : Prop := ∃ (x y : Int) (ok : Bool), r = .returned (.tuple #[.int .i64 x, .int .i64 y, .bool ok]) ∧ LiesR s p e b x y ok
theorem lies_no {s : ByteArray} {p e b : Nat} {r : Ending} (h : nodeF s p e b = false) (hr : r = .returned (.tuple #[.int .i64 0, .int .i64 0, .bool false])) : LiesE s p e b r := ⟨0, 0, false, hr, h.symm, by simp⟩

set_option maxHeartbeats 1000000 in
theorem lies_any (s : ByteArray) (p e b : Int) (w : World) (h0 : 0 ≤ p) (hp : p ≤ 200000) (he0 : 0 ≤ e) (he : e ≤ s.size) (hs : s.size ≤ 70000) (hb0 : 0 ≤ b) (hb : b ≤ 12) :
    Calls Tryd.prog 79 #[.string s, .int .i64 p, .int .i64 e, .int .i64 b] w fun r w' => LiesE s p.toNat e.toNat b.toNat r ∧ w' = w := by
  obtain ⟨p, rfl⟩ := Int.eq_ofNat_of_zero_le h0
  obtain ⟨e, rfl⟩ := Int.eq_ofNat_of_zero_le he0
  obtain ⟨b, rfl⟩ := Int.eq_ofNat_of_zero_le hb0
  rw [Int.toNat_natCast, Int.toNat_natCast, Int.toNat_natCast]
  by_cases h1 : p < e
  · have hpi : p < s.size := by omega
    obtain ⟨t, ht⟩ : ∃ t, (s[p]'hpi).toNat = t := ⟨_, rfl⟩
    have HT : Hid (byt s p = t) := by unfold Hid; rw [byt_in hpi, ht]
    have htl : t < 256 := by rw [← ht]; exact (s[p]'hpi).toNat_lt
    by_cases h2 : 1 ≤ t ∧ t ≤ b
    · obtain ⟨h21, h22⟩ := h2
      obtain ⟨P, hP⟩ : ∃ P : Nat, P = 2 ^ t := ⟨_, rfl⟩
      obtain ⟨hpw, hP1, hP2⟩ := pow_st h21 (show t ≤ 12 by omega)
      rw [← hP] at hpw hP1 hP2
      have HP : Hid (2 ^ byt s p = P) := by unfold Hid; rw [HT.out, hP]
      have HE : Hid (entF s p = p + 1 + (P + 7) / 8) := by unfold Hid entF; rw [HP.out]
      have HN : Hid (nodeF s p e b = (decide (p + 1 + (P + 7) / 8 ≤ e) && setF s p 0 && spareF s p (8 - P) P && decide (p + 1 + (P + 7) / 8 + 2 * onesF s p P ≤ e))) := by
        unfold Hid nodeF; rw [HE.out, HP.out, HT.out]; simp [h1, h21, h22]
      clear hP
      by_cases h3 : p + 1 + (P + 7) / 8 ≤ e
      · cases h4 : setF s p 0 with
        | true =>
          have H4 : Hid (setF s p 0 = true) := h4
          clear h4
          go_enter Tryd.func79, Tryd.ntmps79
          go_wp2_with fail
          refine (set_any s p 0 _ (by omega) (by omega) (by omega) hs (by omega)).mono ?_
          rintro r w1 ⟨rfl, rfl⟩
          rw [Int.toNat_natCast, show (0 : Int).toNat = 0 from rfl, H4.out]
          go_wp2_with fail
          go_loopg [15] (8 - P) (fun g x wr => ∃ j : Nat, wr = w1 ∧ x = .int .i64 j ∧ P ≤ j ∧ (j ≤ 8 ∨ j = P) ∧ g = 8 - j ∧ Hid (spareF s p (8 - P) P = spareF s p (8 - j) j))
          case atStart => exact ⟨P, rfl, rfl, by omega, .inr rfl, by omega, rfl⟩
          case round =>
            obtain ⟨j, rfl, rfl, hj1, hj2, rfl, HJ⟩ := hrel
            by_cases hlt : j < 8
            · cases h5 : setF s p j with
              | true =>
                have H5 : Hid (setF s p j = true) := h5
                clear h5
                go_wp2_with fail
                refine (set_any s p j _ (by omega) (by omega) (by omega) hs (by omega)).mono ?_
                rintro r w2 ⟨rfl, rfl⟩
                rw [Int.toNat_natCast, Int.toNat_natCast, H5.out]
                go_wp2_with fail
                go_ret3
                refine ⟨lies_no ?_ rfl, rfl⟩
                rw [HN.out, HJ.out, show 8 - j = (8 - (j + 1)) + 1 from by omega, spareF, if_pos H5.out]; simp
              | false =>
                have H5 : Hid (setF s p j = false) := h5
                clear h5
                go_wp2_with fail
                refine (set_any s p j _ (by omega) (by omega) (by omega) hs (by omega)).mono ?_
                rintro r w2 ⟨rfl, rfl⟩
                rw [Int.toNat_natCast, Int.toNat_natCast, H5.out]
                go_wp2_with fail
                go_roundg (8 - (j + 1))
                case measure => omega
                case rel =>
                  refine ⟨j + 1, rfl, int_eq (by omega), by omega, by omega, rfl, ?_⟩
                  unfold Hid
                  rw [HJ.out, show 8 - j = (8 - (j + 1)) + 1 from by omega, spareF, if_neg (by rw [H5.out]; simp)]
            · have H6 : Hid (spareF s p (8 - P) P = true) := by unfold Hid; rw [HJ.out, show 8 - j = 0 from by omega]; rfl
              have hon := onesF_le s p P
              go_wp2_with fail
              refine (ones_any s p P _ (by omega) (by omega) (by omega) hs (by omega)).mono ?_
              rintro r w2 ⟨rfl, rfl⟩
              rw [Int.toNat_natCast, Int.toNat_natCast]
              go_wp2_with fail
              go_ret3
              refine ⟨⟨_, _, _, rfl, ?_, ?_⟩, rfl⟩
              · rw [HN.out, H4.out, H6.out, Bool.eq_iff_iff]; simp; omega
              · intro _
                refine ⟨?_, ?_⟩
                · rw [HE.out]; omega
                · rw [HP.out]
        | false =>
          have H4 : Hid (setF s p 0 = false) := h4
          clear h4
          go_enter Tryd.func79, Tryd.ntmps79
          go_wp2_with fail
          refine (set_any s p 0 _ (by omega) (by omega) (by omega) hs (by omega)).mono ?_
          rintro r w1 ⟨rfl, rfl⟩
          rw [Int.toNat_natCast, show (0 : Int).toNat = 0 from rfl, H4.out]
          go_wp2_with fail
          go_ret3
          exact ⟨lies_no (by rw [HN.out, H4.out]; simp) rfl, rfl⟩
      · go_enter Tryd.func79, Tryd.ntmps79
        go_wp2_with fail
        go_ret3
        exact ⟨lies_no (by rw [HN.out]; simp [h3]) rfl, rfl⟩
    · have hF : Hid (nodeF s p e b = false) := by unfold Hid nodeF; rw [HT.out]; simp [h2]
      by_cases h21 : 1 ≤ t
      · have h22 : ¬ t ≤ b := fun h => h2 ⟨h21, h⟩
        clear h2
        go_enter Tryd.func79, Tryd.ntmps79
        go_wp2_with fail
        go_ret3
        exact ⟨lies_no hF.out rfl, rfl⟩
      · clear h2
        go_enter Tryd.func79, Tryd.ntmps79
        go_wp2_with fail
        go_ret3
        exact ⟨lies_no hF.out rfl, rfl⟩
  · have hF : Hid (nodeF s p e b = false) := by unfold Hid nodeF; simp [h1]
    go_enter Tryd.func79, Tryd.ntmps79
    go_wp2_with fail
    go_ret3
    exact ⟨lies_no hF.out rfl, rfl⟩
end Go.Proofs.YtdfnmpmmkcpddaaDoor
