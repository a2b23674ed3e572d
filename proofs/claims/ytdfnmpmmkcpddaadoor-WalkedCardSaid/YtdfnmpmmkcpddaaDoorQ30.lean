import Derived.Test.YtdfnmpmmkcpddaaDoorQ29
import Derived.Test.YtdfnmpmmkcpddaaDoorQ07
import Derived.Test.YtdfnmpmmkcpddaaDoorQ24
import Derived.Test.YtdfnmpmmkcpddaaDoorQ28
import Derived.StillTailTactics
/- The walk of the program's way through an image. -/
namespace Go.Proofs.YtdfnmpmmkcpddaaDoor
open Go.RowKit

/-- What a round of the walk does with the address. -/
theorem slot_of {A W B t r b : Nat} (hb : b + B = W) (ht : t + r = b) : A % 2 ^ b / 2 ^ r = slotF A W B t ∧ A % 2 ^ b - slotF A W B t * 2 ^ r = A % 2 ^ r ∧ slotF A W B t * 2 ^ r ≤ A % 2 ^ b := by
  have e1 : A % 2 ^ b / 2 ^ r = slotF A W B t := by
    unfold slotF
    rw [show W - B - t = r from by omega, ← ht, Nat.pow_add, Nat.mul_comm, Nat.mod_mul_right_div_self]
  have e2 : A % 2 ^ b % 2 ^ r = A % 2 ^ r := Nat.mod_mod_of_dvd A (Nat.pow_dvd_pow 2 (by omega))
  have e3 := Nat.div_add_mod (A % 2 ^ b) (2 ^ r)
  rw [e1, e2, Nat.mul_comm] at e3
  exact ⟨e1, by omega, by omega⟩

theorem slot_low {t j : Nat} (ht : t ≤ 12) (h : j < 2 ^ t) : j ≤ 4095 := by
  have := Nat.pow_le_pow_right (show 0 < 2 by omega) ht
  omega
theorem walk_facts {v : ByteArray} {A W B b q a : Nat} (hnd : nodeF v q v.size b = true) (hb : b + B = W) (h12 : b ≤ 12) (ha : a = A % 2 ^ b) :
    ∃ t r j m E K R : Nat, byt v q = t ∧ t + r = b ∧ 1 ≤ t ∧ slotF A W B t = j ∧ j ≤ 4095 ∧ (a : Int) / 2 ^ r = (j : Int) ∧ (j : Int) * 2 ^ r = (m : Int) ∧ m ≤ a ∧ a - m = A % 2 ^ r ∧
      entF v q = E ∧ onesF v q (2 ^ byt v q) = K ∧ crF (v.extract (q + 1) E) (j + 1) = R ∧ onesF v q (j + 1) = R ∧ 1 ≤ R ∧ R ≤ K ∧ E + 2 * K ≤ v.size := by
  obtain ⟨hn1, hn2, hn3, hn4⟩ := nodeF_parts hnd
  obtain ⟨hst, hen⟩ := nodeF_set hnd
  obtain ⟨t, ht⟩ : ∃ t, byt v q = t := ⟨_, rfl⟩
  obtain ⟨r, hr⟩ : ∃ r, t + r = b := ⟨b - t, by omega⟩
  obtain ⟨s1, s2, s3⟩ := slot_of (A := A) (t := t) hb hr
  have hjt := slot_lt A W B t
  refine ⟨t, r, slotF A W B t, slotF A W B t * 2 ^ r, entF v q, onesF v q (2 ^ byt v q), onesF v q (slotF A W B t + 1), ht, hr, by omega, rfl, slot_low (by omega) hjt, ?_, by rw [Int.natCast_mul, Int.natCast_pow]; rfl, by rw [ha]; exact s3, by rw [ha]; exact s2, rfl, rfl, ?_, rfl, onesF_pos hst, ?_, hn4⟩
  · rw [← s1, ha, Int.natCast_ediv, Int.natCast_pow]; rfl
  · have hE : entF v q = q + 1 + (2 ^ t + 7) / 8 := by rw [entF, ht]
    rw [hE] at hen ⊢
    refine crF_ones hen _ ?_
    generalize 2 ^ t = P at hjt ⊢
    generalize slotF A W B t = j at hjt ⊢
    omega
  · rw [ht]; exact onesF_mono v q hjt

set_option maxRecDepth 100000 in
set_option maxHeartbeats 2000000 in
theorem walkImage_any (v : ByteArray) (A W D : Nat) (w : World) (hs : v.size ≤ 65535) (h10 : 10 ≤ v.size) (hW : byt v 2 = W) (hD : byt v 3 = D) (hW12 : W ≤ 12) (hDW : D ≤ W) (hA : A < 2 ^ W) (hg : goodF v (v.size - 2) D 6 W = true) :
    Calls Tryd.prog 45 #[.string v, .int .i64 A] w fun r w' => r = .returned (.tuple #[.int .i64 (lookF v A W D 6 0).1, .int .i64 (lookF v A W D 6 0).2]) ∧ Below w.heap.size w w' := by
  have ZW : Hid (bz v 2 = W) := by unfold Hid; rw [bz_in (by omega), hW]
  have ZD : Hid (bz v 3 = D) := by unfold Hid; rw [bz_in (by omega), hD]
  have HG : Hid (goodF v (v.size - 2) D 6 W = true) := hg
  have hA2 : A < 4096 := Nat.lt_of_lt_of_le hA (Nat.pow_le_pow_right (show 0 < 2 by omega) hW12)
  have HA : Hid (A % 2 ^ W = A) := Nat.mod_eq_of_lt hA
  clear hW hD hg hA
  go_enter Tryd.func45, Tryd.ntmps45
  go_wp2_with fail
  refine (byteAt_any v 3 _ (by omega)).mono ?_
  rintro r w1 ⟨rfl, rfl⟩
  rw [show (3 : Int).toNat = 3 from rfl, ZD.out]
  go_wp2_with fail
  refine (byteAt_any v 2 _ (by omega)).mono ?_
  rintro r w1 ⟨rfl, rfl⟩
  rw [show (2 : Int).toNat = 2 from rfl, ZW.out]
  go_wp2_with fail
  go_loopg [7, 8, 9, 10] D (fun g x y z u wr => ∃ (b a p c B : Nat), x = .int .i64 b ∧ y = .int .i64 a ∧ z = .int .i64 p ∧ u = .int .i64 c ∧ Below w1.heap.size w1 wr ∧ p + 1 < v.size ∧ b + B = W ∧ a < 4096 ∧ g + c = D ∧
    Hid (a = A % 2 ^ b) ∧ Hid (goodF v (v.size - 2) g p (W - B) = true) ∧ Hid ((lookF v A W D 6 0).1 = (lookF v A W g p B).1 ∧ (lookF v A W D 6 0).2 = (lookF v A W g p B).2 + c))
  case atStart => exact ⟨W, A, 6, 0, 0, rfl, rfl, rfl, rfl, Below.refl _ _, by omega, by omega, hA2, by omega, HA.out.symm, HG.out, rfl, rfl⟩
  case round =>
    obtain ⟨b, a, p, c, B, rfl, rfl, rfl, rfl, hbel, hp, hB, ha, hgc, HM, HP, HL⟩ := hrel
    have HZ : Hid (nz v p = b2 v p) := nz_in hp
    by_cases hlt : c < D
    · by_cases hh : b2 v p ≤ 250
      · go_wp2_with fail
        refine (numberAt_any v p _ (by omega) (by omega)).mono ?_
        rintro r w3 ⟨rfl, rfl⟩
        rw [Int.toNat_natCast, HZ.out]
        go_wp2_with fail
        go_ret2
        have hl := look_hop (s := v) (A := A) (W := W) (p := p) (B := B) hh gk
        exact ⟨ret2 (int_eq (by rw [HL.out.1, hl])) (int_eq (by rw [HL.out.2, hl]; simp)), hbel⟩
      · obtain ⟨n', hgn, hv2, hnd, hgd, hnl2, hBl⟩ := good_next (A := A) hh HP.out (by omega)
        have HH : Hid (¬ b2 v p ≤ 250) := hh
        have hbb := b2_le (s := v) (p := p) (by omega)
        obtain ⟨x, hx⟩ : ∃ x, b2 v p = x := ⟨_, rfl⟩
        obtain ⟨q, hq⟩ : ∃ q : Nat, q = p + x - 1000 := ⟨_, rfl⟩
        rw [hx] at hh hv2 hnd hgd hBl hbb
        rw [← hq] at hnd hgd hBl
        have HX : Hid (nz v p = x) := by unfold Hid; rw [HZ.out, hx]
        have HQ : Hid (p + b2 v p - 1000 = q) := by unfold Hid; rw [hx, hq]
        have hqi : ((p : Int) + (x : Int) - 1000) = (q : Int) := by omega
        have hql : q ≤ 200000 := by omega
        have hnd2 := nodeF_more hnd (show v.size - 2 ≤ v.size by omega)
        rw [show W - B = b from by omega] at hnd2
        have HN : Hid (readV v q b = nodeV v q) := readV_yes hnd2
        obtain ⟨t, r, j, m, E, K, R, f1, f2, f3, f4, f5, hji, hmi, f8, f9, f10, f11, f12, f13, f14, f15, f16⟩ := walk_facts (A := A) (W := W) (B := B) hnd2 hB (by omega) HM.out
        have hri : (b : Int) - (t : Int) = (r : Int) := by omega
        have HT : Hid (byt v q = t) := f1
        have HE : Hid (entF v q = E) := f10
        have HK : Hid (onesF v q (2 ^ byt v q) = K) := f11
        have HR : Hid (crF (v.extract (q + 1) E) (j + 1) = R) := f12
        have HXT : Hid (nextF v A W p B = E + 2 * (R - 1)) := by unfold Hid nextF; rw [HQ.out, HE.out, HT.out, f4, f13]
        have HA2 : Hid (a - m = A % 2 ^ r) := f9
        have HY : Hid (gk = n' + 1 ∧ goodF v (v.size - 2) n' (nextF v A W p B) (W - (B + t)) = true) := ⟨hgn, by rw [f1] at hgd; exact hgd⟩
        have HLN : Hid (lookF v A W (n' + 1) p B = ((lookF v A W n' (nextF v A W p B) (B + t)).1, (lookF v A W n' (nextF v A W p B) (B + t)).2 + 1)) := by unfold Hid; rw [look_node HH.out, HQ.out, HT.out]
        clear hnd hnd2 hgd hgn hBl hnl2 hq hx f1 f4 f9 f10 f11 f12 f13
        go_wp2_with fail
        refine (numberAt_any v p _ (by omega) (by omega)).mono ?_
        rintro r1 w3 ⟨rfl, rfl⟩
        rw [Int.toNat_natCast, HX.out]
        go_wp2_with fail
        refine (readNode_any v q b _ (by omega) (by omega) (by omega) (by omega) (by omega)).mono ?_
        rintro r1 w4 ⟨rfl, hb4⟩
        rw [Int.toNat_natCast, Int.toNat_natCast, HN.out, nodeV, HK.out, HE.out, HT.out]
        go_wp2_with fail
        refine (countRuns_any (v.extract (q + 1) E) (j + 1) _ (by omega) (by omega)).mono ?_
        rintro r1 w5 ⟨rfl, rfl⟩
        rw [show ((j : Int) + 1).toNat = j + 1 from by omega, HR.out]
        go_wp2_with fail
        go_roundg n'
        case measure => have := HY.out.1; omega
        case rel =>
          obtain ⟨y1, y2⟩ := HY.out
          refine ⟨r, a - m, E + 2 * (R - 1), c + 1, B + t, rfl, int_eq (by omega), int_eq (by omega), int_eq (by omega), ?_, by omega, by omega, by omega, by omega, HA2.out, ?_, ?_⟩
          · exact (hbel.trans (hb4.mono hbel.size)).alloc (by have := hbel.size; have := hb4.size; omega) _
          · rw [← HXT.out]; exact y2
          · have hl := HL.out
            rw [y1, HLN.out, HXT.out] at hl
            exact ⟨hl.1, by rw [hl.2]; simp only []; omega⟩
    · have hg0 : gk = 0 := by omega
      have HL0 : Hid ((lookF v A W D 6 0).1 = b2 v p ∧ (lookF v A W D 6 0).2 = D) := by
        have hl := HL.out
        rw [hg0] at hl
        exact ⟨hl.1, by rw [hl.2]; show 0 + c = D; omega⟩
      clear HL
      go_wp2_with fail
      refine (numberAt_any v p _ (by omega) (by omega)).mono ?_
      rintro r1 w3 ⟨rfl, rfl⟩
      rw [Int.toNat_natCast, HZ.out]
      go_wp2_with fail
      go_ret2
      exact ⟨ret2 (int_eq (by rw [HL0.out.1])) (int_eq (by rw [HL0.out.2])), hbel⟩

theorem img_nil : imgF ⟨#[]⟩ = false := by unfold imgF; rfl
theorem img_short {s : ByteArray} (h : s.size < 10) : imgF s = false := by unfold imgF; simp [show ¬ 10 ≤ s.size by omega]

set_option maxRecDepth 100000 in
set_option maxHeartbeats 2000000 in
theorem look_in (s : ByteArray) (k : Nat) (A : Int) (w : World) (hm : s.size ≤ maxLen) (hk : k ≤ s.size) :
    Calls Tryd.prog 27 #[.string s, .int .i64 k, .int .i64 A] w fun r w' => r = .returned (.tuple #[.int .i64 (lookR s k A).1, .int .i64 (lookR s k A).2, .int .i64 (lookE s k A)]) ∧ Below w.heap.size w w' := by
  have hm' : s.size ≤ 9223372036854775807 := by unfold maxLen at hm; omega
  have hkn : ¬ ((k : Int) < 0 ∨ (s.size : Int) < k) := by omega
  -- the image that the program takes
  obtain ⟨v, hv⟩ : ∃ v, v = if k ≤ 9223372036854775802 ∧ k + nz s (k + 4) ≤ s.size then s.extract k (k + nz s (k + 4)) else ⟨#[]⟩ := ⟨_, rfl⟩
  have HI : Hid (∀ w : World, Calls Tryd.prog 41 #[.string s, .int .i64 k] w fun r w' => r = .returned (.string v) ∧ w' = w) := by
    intro w
    by_cases h1 : k ≤ 9223372036854775802
    · by_cases h2 : k + nz s (k + 4) ≤ s.size
      · rw [hv, if_pos ⟨h1, h2⟩]; exact imageAt_yes s k w hm h1 h2
      · rw [hv, if_neg (by omega)]; exact imageAt_no s k w hm hk h1 (by omega)
    · rw [hv, if_neg (by omega)]; exact imageAt_top s k w hm hk (by omega)
  have hvm : v.size ≤ maxLen := by
    rw [hv]; split
    · rw [ByteArray.size_extract]; omega
    · exact Nat.zero_le _
  have hE6 : imgF v = false → lookE s k A = 6 := by
    intro hg
    unfold lookE
    rw [if_neg hkn]
    by_cases h1 : (s.size : Int) < k + 10 ∨ s.size < (k : Int).toNat + b2 s ((k : Int).toNat + 4)
    · rw [if_pos h1]
    · rw [if_neg h1, if_pos]
      rw [Int.toNat_natCast] at h1 ⊢
      rw [hv, nz_in (by omega), if_pos (by omega)] at hg
      exact hg
  have hEG : imgF v = true → v = imgAt s k ∧ lookE s k A = if 0 ≤ A ∧ A < ((2 ^ byt v 2 : Nat) : Int) then 0 else 2 := by
    intro hg
    obtain ⟨g1, _⟩ := img_parts hg
    have hc : k ≤ 9223372036854775802 ∧ k + nz s (k + 4) ≤ s.size := by
      by_cases h : k ≤ 9223372036854775802 ∧ k + nz s (k + 4) ≤ s.size
      · exact h
      · rw [hv, if_neg h] at g1; exact absurd g1 (by show ¬ 10 ≤ 0; omega)
    rw [if_pos hc] at hv
    have hvs : v.size = nz s (k + 4) := by rw [hv, ByteArray.size_extract]; omega
    have hz := nz_in (s := s) (p := k + 4) (by omega)
    have hvi : v = imgAt s k := by rw [hv, imgAt, hz]
    refine ⟨hvi, ?_⟩
    unfold lookE
    rw [if_neg hkn, if_neg (by rw [Int.toNat_natCast]; omega), Int.toNat_natCast, ← hvi, hg, if_neg (by simp)]
  clear hv
  cases hg : imgF v with
  | false =>
    have e1 := hE6 hg
    have e2 : lookR s k A = (0, 0) := by unfold lookR; rw [e1]; rfl
    rw [e1, e2]
    have HG : Hid (imgF v = false) := hg
    clear hg e1 e2 hE6 hEG hm
    go_enter Tryd.func27, Tryd.ntmps27
    go_wp2_with fail
    refine (HI.out _).mono ?_
    rintro r w1 ⟨rfl, rfl⟩
    go_wp2_with fail
    refine (isImage_any v _ hvm).mono ?_
    rintro r w2 ⟨rfl, hb2⟩
    rw [HG.out]
    go_wp2_with fail
    go_ret3
    exact ⟨rfl, hb2⟩
  | true =>
    have HG : Hid (imgF v = true) := hg
    obtain ⟨hvi, hEE⟩ := hEG hg
    obtain ⟨g1, g2, g3, g4, g5, g6⟩ := img_parts hg
    have hvl : v.size ≤ 65535 := by rw [← g2]; exact b2_le (by omega)
    obtain ⟨W, hW⟩ : ∃ W, byt v 2 = W := ⟨_, rfl⟩
    obtain ⟨D, hD⟩ : ∃ D, byt v 3 = D := ⟨_, rfl⟩
    have hRR : lookR s k A = if lookE s k A = 0 then lookF v A.toNat W D 6 0 else (0, 0) := by
      unfold lookR; rw [Int.toNat_natCast, ← hvi, hW, hD]
    have ZW : Hid (bz v 2 = W) := by unfold Hid; rw [bz_in (by omega), hW]
    rw [hW] at g3 g4 g5 g6 hEE
    rw [hD] at g5 g6
    have HG6 : Hid (goodF v (v.size - 2) D 6 W = true) := g6
    have HWD : Hid (byt v 2 = W ∧ byt v 3 = D) := ⟨hW, hD⟩
    clear hg hvi hE6 hEG hW hD g2 g6 hm hvm
    by_cases hA : 0 ≤ A ∧ A < ((2 ^ W : Nat) : Int)
    · rw [if_pos hA] at hEE
      rw [if_pos hEE] at hRR
      rw [hRR, hEE]
      clear hEE hRR
      obtain ⟨hA0, hA1⟩ := hA
      obtain ⟨a, rfl⟩ := Int.eq_ofNat_of_zero_le hA0
      rw [Int.toNat_natCast]
      have HA : Hid (a < 2 ^ W) := by unfold Hid; exact Int.ofNat_lt.1 hA1
      have HA1 : Hid ((a : Int) < ((2 ^ W : Nat) : Int)) := hA1
      clear hA1
      go_enter Tryd.func27, Tryd.ntmps27
      go_wp2_with fail
      refine (HI.out _).mono ?_
      rintro r w1 ⟨rfl, rfl⟩
      go_wp2_with fail
      refine (isImage_any v _ (by unfold maxLen; omega)).mono ?_
      rintro r w2 ⟨rfl, hb2⟩
      rw [HG.out]
      go_wp2_with fail
      refine (byteAt_any v 2 _ (by omega)).mono ?_
      rintro r w3 ⟨rfl, rfl⟩
      rw [show (2 : Int).toNat = 2 from rfl, ZW.out]
      go_wp2_with fail
      refine (isAddress_yes _ _ _ (by omega) hA0 HA1.out).mono ?_
      rintro r w3 ⟨rfl, rfl⟩
      go_wp2_with fail
      refine (walkImage_any v a W D _ hvl g1 HWD.out.1 HWD.out.2 g4 g5 HA.out HG6.out).mono ?_
      rintro r w4 ⟨rfl, hb4⟩
      go_wp2_with fail
      go_ret3
      exact ⟨rfl, hb2.trans (hb4.mono hb2.size)⟩
    · rw [if_neg hA] at hEE
      rw [if_neg (by rw [hEE]; omega)] at hRR
      rw [hRR, hEE]
      have HA : Hid (¬ (0 ≤ A ∧ A < ((2 ^ W : Nat) : Int))) := hA
      clear hEE hRR hA
      go_enter Tryd.func27, Tryd.ntmps27
      go_wp2_with fail
      refine (HI.out _).mono ?_
      rintro r w1 ⟨rfl, rfl⟩
      go_wp2_with fail
      refine (isImage_any v _ (by unfold maxLen; omega)).mono ?_
      rintro r w2 ⟨rfl, hb2⟩
      rw [HG.out]
      go_wp2_with fail
      refine (byteAt_any v 2 _ (by omega)).mono ?_
      rintro r w3 ⟨rfl, rfl⟩
      rw [show (2 : Int).toNat = 2 from rfl, ZW.out]
      go_wp2_with fail
      refine (isAddress_no _ _ _ (by omega) HA.out).mono ?_
      rintro r w3 ⟨rfl, rfl⟩
      go_wp2_with fail
      go_ret3
      exact ⟨rfl, hb2⟩

theorem look_any (s : ByteArray) (i A : Int) (w : World) (hm : s.size ≤ maxLen) :
    Calls Tryd.prog 27 #[.string s, .int .i64 i, .int .i64 A] w fun r w' => r = .returned (.tuple #[.int .i64 (lookR s i A).1, .int .i64 (lookR s i A).2, .int .i64 (lookE s i A)]) ∧ Below w.heap.size w w' := by
  by_cases h : i < 0 ∨ (s.size : Int) < i
  · obtain ⟨e1, e2⟩ := lookE_arg (A := A) h
    rw [e1, e2]
    have hm' : s.size ≤ 9223372036854775807 := by unfold maxLen at hm; omega
    clear hm
    rcases h with h | h
    · go_enter Tryd.func27, Tryd.ntmps27
      go_wp2_with fail
      go_ret3
      exact ⟨rfl, Below.refl _ _⟩
    · go_enter Tryd.func27, Tryd.ntmps27
      go_wp2_with fail
      go_ret3
      exact ⟨rfl, Below.refl _ _⟩
  · obtain ⟨k, rfl⟩ := Int.eq_ofNat_of_zero_le (show 0 ≤ i by omega)
    exact look_in s k A w hm (by omega)
end Go.Proofs.YtdfnmpmmkcpddaaDoor
/- Load and Lookup: the law's steps. -/
namespace Go.Proofs.YtdfnmpmmkcpddaaDoor
open Go.RowKit

theorem plays_load : Plays 6 6 := by
  intro k W D L A s w h1 h2 hm _ _ _ _ _
  obtain rfl : k = 6 := by omega
  clear h1 h2
  obtain ⟨x, hx⟩ : ∃ x : Int, (if imgF s = true then 0 else 6) = x := ⟨_, rfl⟩
  have H1 : Hid (∀ w : World, Calls Tryd.prog 29 #[.string s] w fun r w' => r = .returned (.int .i64 x) ∧ Below w.heap.size w w') := fun w => by rw [← hx]; exact load_any s w hm
  have H2 : Hid (∀ w : World, Calls Tryd.prog 33 #[.string s] w fun r w' => r = .returned (.int .i64 x) ∧ ∃ k, w' = w.drewN k) := fun w => by rw [← hx]; exact rload_any s w hm
  clear hx
  unfold opV
  go_enter Tryd.func22, Tryd.ntmps22
  go_wp2_with fail
  refine (H1.out _).mono ?_
  rintro e w1 ⟨rfl, hb1⟩
  obtain ⟨hc, _⟩ := bcell hb1
  have hz : w.heap.size < w1.heap.size := by have := hb1.size; simp at this; omega
  go_wp2_with fail
  refine (H2.out _).mono ?_
  rintro e w2 ⟨rfl, k2, rfl⟩
  go_wp2_with (go_at_call 25; refine (num_any _ _).mono ?_; rintro e w3 ⟨rfl, rfl⟩)
  go_ret
  refine ⟨ret1 (bool_eq (by simp)), ?_⟩
  have h1 : Below w.heap.size w w1 := ((Below.refl _ _).alloc (Nat.le_refl _) _).trans (hb1.mono (by simp))
  exact below_drewN h1 _

theorem plays_lookup : Plays 7 7 := by
  intro k W D L A s w h1 h2 hm _ _ _ _ _
  obtain rfl : k = 7 := by omega
  clear h1 h2
  unfold opV
  go_enter Tryd.func22, Tryd.ntmps22
  go_wp2_with fail
  refine (look_any s L A _ hm).mono ?_
  rintro e w1 ⟨rfl, hb1⟩
  obtain ⟨hc, _⟩ := bcell hb1
  have hz : w.heap.size < w1.heap.size := by have := hb1.size; simp at this; omega
  go_wp2_with fail
  refine (rlook_any s L A _ hm).mono ?_
  rintro e w2 ⟨rfl, hb2⟩
  go_wp2_with (go_at_call 25; refine (num_any _ _).mono ?_; rintro e w3 ⟨rfl, rfl⟩)
  go_ret
  refine ⟨ret1 (bool_eq (by simp)), ?_⟩
  have h1 : Below w.heap.size w w1 := ((Below.refl _ _).alloc (Nat.le_refl _) _).trans (hb1.mono (by simp))
  exact h1.trans (hb2.mono (by omega))

theorem loads_any (ao : Option Addr) (len cap : Nat) (w : World) (hs : Script w ao len) (hE : Env w) :
    Calls Tryd.prog 8 #[.slice ao len cap] w fun e w' => e = .returned (.bool true) ∧ Below w.heap.size w w' := by
  have HS : Hid (Script w ao len) := hs
  clear hs
  go_enter Tryd.func8, Tryd.ntmps8
  go_wp2_with fail
  refine (upTo_any 6 6 ao len cap _ plays_load hE HS.out).mono ?_
  rintro e w1 ⟨rfl, hb1⟩
  go_wp2_with fail
  go_ret
  exact ⟨rfl, hb1⟩

theorem lookups_any (ao : Option Addr) (len cap : Nat) (w : World) (hs : Script w ao len) (hE : Env w) :
    Calls Tryd.prog 9 #[.slice ao len cap] w fun e w' => e = .returned (.bool true) ∧ Below w.heap.size w w' := by
  have HS : Hid (Script w ao len) := hs
  clear hs
  go_enter Tryd.func9, Tryd.ntmps9
  go_wp2_with fail
  refine (upTo_any 7 7 ao len cap _ plays_lookup hE HS.out).mono ?_
  rintro e w1 ⟨rfl, hb1⟩
  go_wp2_with fail
  go_ret
  exact ⟨rfl, hb1⟩
end Go.Proofs.YtdfnmpmmkcpddaaDoor
/- Compile: what is to be shown of it, and what follows for the law's step. -/
namespace Go.Proofs.YtdfnmpmmkcpddaaDoor
open Go.RowKit

/-- An image as P7 asks. -/
structure Comp (s : ByteArray) (W D : Nat) (m : ByteArray) : Prop where
  good : imgF m = true
  width : byt m 2 = W
  depth : byt m 3 ≤ D
  bytes : (m.size : Int) ≤ 10 + 5 * prC s W D
  slots : (slotsF m (byt m 3) 6 : Int) ≤ prC s W D
  hop : ∀ A : Int, 0 ≤ A → A < ((2 ^ W : Nat) : Int) → (lookR m 0 A).1 = (bestF (addr A.toNat W) (tRts s W)).2
/-- P7's error and image. -/
def cmpE (cF : List Rt → Nat → Nat → ByteArray) (s : ByteArray) (W D L : Int) : Nat := if prE s W D = 0 then (if L < (cF (ordR (tRts s W)) W.toNat D.toNat).size then 5 else 0) else prE s W D
def cmpS (cF : List Rt → Nat → Nat → ByteArray) (s : ByteArray) (W D L : Int) : ByteArray := if cmpE cF s W D L = 0 then cF (ordR (tRts s W)) W.toNat D.toNat else ⟨#[]⟩
/-- What is to be shown of the program's Compile. -/
structure CompH (cF : List Rt → Nat → Nat → ByteArray) : Prop where
  call : ∀ (s : ByteArray) (W D L : Int) (w : World), s.size ≤ maxLen → InI64 L →
    Calls Tryd.prog 26 #[.string s, .int .i64 W, .int .i64 D, .int .i64 L] w fun e w' => e = .returned (.tuple #[.string (cmpS cF s W D L), .int .i64 (cmpE cF s W D L)]) ∧ Below w.heap.size w w'
  img : ∀ (s : ByteArray) (W D : Nat), prE s W D = 0 → Comp s W D (cF (ordR (tRts s W)) W D)

theorem judge_all {cF : List Rt → Nat → Nat → ByteArray} (H : CompH cF) (s : ByteArray) (W D L A : Int) (w : World) (hm : s.size ≤ maxLen) :
    Calls Tryd.prog 32 #[.string s, .int .i64 W, .int .i64 D, .int .i64 L, .int .i64 A, .string (cmpS cF s W D L), .int .i64 (cmpE cF s W D L)] w fun r w' => r = .returned (.bool true) ∧ Below w.heap.size w w' := by
  by_cases he : prE s W D = 0
  · obtain ⟨h1, h2, h3⟩ := prE_zero he
    obtain ⟨hs, hW1, hW2, _⟩ := t_zero h1
    obtain ⟨W, rfl⟩ := Int.eq_ofNat_of_zero_le (show 0 ≤ W by omega)
    obtain ⟨D, rfl⟩ := Int.eq_ofNat_of_zero_le (show 0 ≤ D by omega)
    have hC := H.img s W D he
    obtain ⟨m, hme⟩ : ∃ m, cF (ordR (tRts s W)) W D = m := ⟨_, rfl⟩
    rw [hme] at hC
    by_cases hL : L < m.size
    · have e1 : cmpE cF s W D L = 5 := by unfold cmpE; rw [if_pos he, Int.toNat_natCast, Int.toNat_natCast, hme, if_pos hL]
      have e2 : cmpS cF s W D L = ⟨#[]⟩ := by unfold cmpS; rw [e1, if_neg (by omega)]
      rw [e1, e2]
      have := hC.bytes
      exact judge_size s W D L A w hm he (by omega)
    · have e1 : cmpE cF s W D L = 0 := by unfold cmpE; rw [if_pos he, Int.toNat_natCast, Int.toNat_natCast, hme, if_neg hL]
      have e2 : cmpS cF s W D L = m := by unfold cmpS; rw [e1, if_pos rfl, Int.toNat_natCast, Int.toNat_natCast, hme]
      rw [e1, e2]
      exact judge_ok s m W D L A w hm he hC.good (by omega) hC.bytes hC.width hC.depth hC.slots (hC.hop A)
  · have e1 : cmpE cF s W D L = prE s W D := by unfold cmpE; rw [if_neg he]
    have e2 : cmpS cF s W D L = ⟨#[]⟩ := by unfold cmpS; rw [e1, if_neg he]
    rw [e1, e2]
    exact judge_err s W D L A _ w hm he rfl

set_option maxRecDepth 100000 in
set_option maxHeartbeats 1000000 in
theorem plays_compile {cF : List Rt → Nat → Nat → ByteArray} (H : CompH cF) : Plays 5 5 := by
  intro k W D L A s w h1 h2 hm _ _ iL _ _
  obtain rfl : k = 5 := by omega
  have H1 := fun w => H.call s W D L w hm iL
  have H2 := fun w => judge_all H s W D L A w hm
  obtain ⟨m, hme⟩ : ∃ m, cmpS cF s W D L = m := ⟨_, rfl⟩
  obtain ⟨e, hee⟩ : ∃ e, cmpE cF s W D L = e := ⟨_, rfl⟩
  rw [hme, hee] at H1 H2
  have H1' : Hid (∀ w : World, Calls Tryd.prog 26 #[.string s, .int .i64 W, .int .i64 D, .int .i64 L] w fun r w' => r = .returned (.tuple #[.string m, .int .i64 e]) ∧ Below w.heap.size w w') := H1
  have H2' : Hid (∀ w : World, Calls Tryd.prog 32 #[.string s, .int .i64 W, .int .i64 D, .int .i64 L, .int .i64 A, .string m, .int .i64 e] w fun r w' => r = .returned (.bool true) ∧ Below w.heap.size w w') := H2
  clear h1 h2 H1 H2 hme hee H
  unfold opV
  go_enter Tryd.func22, Tryd.ntmps22
  go_wp2_with fail
  refine (H1'.out _).mono ?_
  rintro r w1 ⟨rfl, hb1⟩
  obtain ⟨hc, _⟩ := bcell hb1
  have hz : w.heap.size < w1.heap.size := by have := hb1.size; simp at this; omega
  go_wp2_with fail
  go_still_tail 13, (by kernel_rfl)
  still_call (num_any _ _)
  refine wpStill_nil ?_
  go_wp2_with fail
  refine (H2'.out _).mono ?_
  rintro r w2 ⟨rfl, hb2⟩
  go_wp2_with fail
  go_ret
  refine ⟨rfl, ?_⟩
  have h1 : Below w.heap.size w w1 := ((Below.refl _ _).alloc (Nat.le_refl _) _).trans (hb1.mono (by simp))
  have h2 : Below w1.heap.size w1 w2 := (below_drewN (Below.refl w1.heap.size w1) 1).trans hb2
  exact h1.trans (h2.mono (by omega))

/-- All kinds of steps together. -/
theorem plays_all {cF : List Rt → Nat → Nat → ByteArray} (H : CompH cF) (hp : Plays 2 2) (hf : Plays 3 3) : Plays 1 7 := by
  intro k W D L A s w h1 h2 hm i1 i2 i3 i4 hE
  have hk : k = 1 ∨ k = 2 ∨ k = 3 ∨ k = 4 ∨ k = 5 ∨ k = 6 ∨ k = 7 := by omega
  rcases hk with rfl | rfl | rfl | rfl | rfl | rfl | rfl
  · exact plays_check 1 W D L A s w (Int.le_refl _) (Int.le_refl _) hm i1 i2 i3 i4 hE
  · exact hp 2 W D L A s w (Int.le_refl _) (Int.le_refl _) hm i1 i2 i3 i4 hE
  · exact hf 3 W D L A s w (Int.le_refl _) (Int.le_refl _) hm i1 i2 i3 i4 hE
  · exact plays_cost 4 W D L A s w (Int.le_refl _) (Int.le_refl _) hm i1 i2 i3 i4 hE
  · exact plays_compile H 5 W D L A s w (Int.le_refl _) (Int.le_refl _) hm i1 i2 i3 i4 hE
  · exact plays_load 6 W D L A s w (Int.le_refl _) (Int.le_refl _) hm i1 i2 i3 i4 hE
  · exact plays_lookup 7 W D L A s w (Int.le_refl _) (Int.le_refl _) hm i1 i2 i3 i4 hE
end Go.Proofs.YtdfnmpmmkcpddaaDoor
