/- The walk of the document's Lookup. -/
import Derived.Test.YtdfnmpmmkcpddaaDoorWalkL
namespace Go.Proofs.YtdfnmpmmkcpddaaDoor
open Go.RowKit

theorem lookE_arg {s : ByteArray} {i A : Int} (h : i < 0 ∨ (s.size : Int) < i) : lookE s i A = 2 ∧ lookR s i A = (0, 0) := by
  have e : lookE s i A = 2 := by unfold lookE; rw [if_pos h]
  refine ⟨e, ?_⟩
  unfold lookR; rw [e]; rfl

set_option maxRecDepth 100000 in
set_option maxHeartbeats 2000000 in
theorem rlook_in (s : ByteArray) (k : Nat) (A : Int) (w : World) (hm : s.size ≤ maxLen) (hk : k ≤ s.size) :
    Calls Tryd.prog 34 #[.string s, .int .i64 k, .int .i64 A] w fun r w' => r = .returned (.tuple #[.int .i64 (lookR s k A).1, .int .i64 (lookR s k A).2, .int .i64 (lookE s k A)]) ∧ Below w.heap.size w w' := by
  have hm' : s.size ≤ 9223372036854775807 := by unfold maxLen at hm; omega
  have hkn : ¬ ((k : Int) < 0 ∨ (s.size : Int) < k) := by omega
  obtain ⟨u, hu⟩ : ∃ u, s.extract k s.size = u := ⟨_, rfl⟩
  have hus : u.size = s.size - k := by rw [← hu, ByteArray.size_extract]; omega
  by_cases h1 : (s.size : Int) < k + 10
  · have e1 : lookE s k A = 6 := by unfold lookE; rw [if_neg hkn, if_pos (.inl h1)]
    have e2 : lookR s k A = (0, 0) := by unfold lookR; rw [e1]; rfl
    rw [e1, e2]
    have hus2 : u.size < 10 := by omega
    clear e1 e2 hm hkn h1 hus
    go_enter Tryd.func34, Tryd.ntmps34
    go_wp2_with fail
    go_ret3
    exact ⟨rfl, Below.refl _ _⟩
  have hun : u = s.extract k (k + (s.size - k)) := by rw [← hu]; congr 1; omega
  have hbu : ∀ j, j < s.size - k → byt u j = byt s (k + j) := fun j hj => by rw [hun]; exact byt_extract (by omega) hj
  obtain ⟨n, hn⟩ : ∃ n, b2 u 4 = n := ⟨_, rfl⟩
  have hns : b2 s (k + 4) = n := by rw [← hn, b2, b2, hbu 4 (by omega), hbu 5 (by omega)]
  have hnl : n ≤ 65535 := by rw [← hn]; exact b2_le (by omega)
  have hu10 : 10 ≤ u.size := by omega
  by_cases h2 : s.size < k + n
  · have e1 : lookE s k A = 6 := by unfold lookE; rw [if_neg hkn, if_pos (.inr (by rw [Int.toNat_natCast, hns]; exact h2))]
    have e2 : lookR s k A = (0, 0) := by unfold lookR; rw [e1]; rfl
    rw [e1, e2]
    have hn2 : u.size < n := by omega
    have HN : Hid (b2 u 4 = n) := hn
    clear e1 e2 hm hkn h1 hus hun hbu hns hn h2
    go_enter Tryd.func34, Tryd.ntmps34
    go_wp2_with fail
    refine (two_any u 4 _ (by omega) (by omega) (by omega)).mono ?_
    rintro r w1 ⟨rfl, k1, rfl⟩
    rw [show (4 : Int).toNat = 4 from rfl, HN.out]
    go_wp2_with fail
    go_ret3
    exact ⟨rfl, below_drewN (Below.refl _ _) _⟩
  obtain ⟨v, hv⟩ : ∃ v, u.extract 0 n = v := ⟨_, rfl⟩
  have hvi : v = imgAt s k := by
    rw [← hv, ← hu, imgAt, hns]
    refine ba_ext ?_
    simp only [ByteArray.data_extract, Array.toList_extract, List.extract_eq_take_drop, List.drop_zero]
    rw [List.take_take, show min (n - 0) (s.size - k) = n from by omega, show k + n - k = n from by omega]
  have hvs : v.size = n := by rw [hvi, imgAt_size (by rw [hns]; omega), hns]
  have hEE : lookE s k A = if imgF v = false then 6 else if 0 ≤ A ∧ A < ((2 ^ byt v 2 : Nat) : Int) then 0 else 2 := by
    unfold lookE; rw [if_neg hkn, if_neg (by rw [Int.toNat_natCast, hns]; omega), Int.toNat_natCast, ← hvi]
  have hRR : lookR s k A = if lookE s k A = 0 then lookF v A.toNat (byt v 2) (byt v 3) 6 0 else (0, 0) := by
    unfold lookR; rw [Int.toNat_natCast, ← hvi]
  have hnu : n ≤ u.size := by omega
  have HN : Hid (b2 u 4 = n) := hn
  have hvm : v.size ≤ 65535 := by omega
  clear hm hkn h1 hus hun hbu hns hn h2 hvi hvs
  cases hg : imgF v with
  | false =>
    have HG : Hid (imgF v = false) := hg
    have e1 : lookE s k A = 6 := by rw [hEE, hg, if_pos rfl]
    have e2 : lookR s k A = (0, 0) := by rw [hRR, e1, if_neg (by omega)]
    rw [e1, e2]
    clear hg e1 e2 hEE hRR
    go_enter Tryd.func34, Tryd.ntmps34
    go_wp2_with fail
    refine (two_any u 4 _ (by omega) (by omega) (by omega)).mono ?_
    rintro r w1 ⟨rfl, k1, rfl⟩
    rw [show (4 : Int).toNat = 4 from rfl, HN.out]
    go_wp2_with fail
    refine (two_any u 4 _ (by omega) (by omega) (by omega)).mono ?_
    rintro r w1 ⟨rfl, k2, rfl⟩
    rw [show (4 : Int).toNat = 4 from rfl, HN.out]
    go_wp2_with fail
    refine (rgood_any v _ (by unfold maxLen; omega)).mono ?_
    rintro r w1 ⟨rfl, k3, rfl⟩
    rw [HG.out]
    go_wp2_with fail
    go_ret3
    exact ⟨rfl, below_drewN (Below.refl _ _) _⟩
  | true =>
    have HG : Hid (imgF v = true) := hg
    obtain ⟨g1, g2, g3, g4, g5, g6⟩ := img_parts hg
    have i2 : 2 < v.size := by omega
    obtain ⟨W, hW⟩ : ∃ W, (v[2]'i2).toNat = W := ⟨_, rfl⟩
    have e2 : byt v 2 = W := by rw [byt_in i2, hW]
    rw [e2] at g3 g4 g5 g6 hEE hRR
    obtain ⟨D, hD⟩ : ∃ D, byt v 3 = D := ⟨_, rfl⟩
    rw [hD] at g5 g6 hRR
    rw [hg, if_neg (by simp)] at hEE
    have HG6 : Hid (goodF v (v.size - 2) D 6 W = true) := g6
    obtain ⟨p1, p3, p4⟩ := wrap_pow (W := W) (by omega)
    clear hg e2 hD g2 g6
    by_cases hA : 0 ≤ A ∧ A < ((2 ^ W : Nat) : Int)
    · rw [if_pos hA] at hEE
      rw [if_pos hEE] at hRR
      rw [hRR, hEE]
      clear hEE hRR
      obtain ⟨hA0, hA1⟩ := hA
      obtain ⟨a, rfl⟩ := Int.eq_ofNat_of_zero_le hA0
      rw [Int.toNat_natCast]
      have hq : (a : Int) < (2 : Int) ^ W := by rw [Int.natCast_pow] at hA1; exact hA1
      have hd : decide ((2 : Int) ^ W ≤ (a : Int)) = false := by rw [decide_eq_false_iff_not]; omega
      have ha : a < 4096 := by omega
      go_enter Tryd.func34, Tryd.ntmps34
      go_wp2_with fail
      refine (two_any u 4 _ (by omega) (by omega) (by omega)).mono ?_
      rintro r w1 ⟨rfl, k1, rfl⟩
      rw [show (4 : Int).toNat = 4 from rfl, HN.out]
      go_wp2_with fail
      refine (two_any u 4 _ (by omega) (by omega) (by omega)).mono ?_
      rintro r w1 ⟨rfl, k2, rfl⟩
      rw [show (4 : Int).toNat = 4 from rfl, HN.out]
      go_wp2_with fail
      refine (rgood_any v _ (by unfold maxLen; omega)).mono ?_
      rintro r w1 ⟨rfl, k3, rfl⟩
      rw [HG.out]
      go_wp2_with fail
      refine (rbitsA_any a W _ ha (by omega)).mono ?_
      rintro r w2 ⟨rfl, hb2⟩
      go_wp2_with fail
      go_loopg [12, 13, 14] D (fun g x y z wr => ∃ (p B c j : Nat), x = .int .i64 p ∧ y = .int .i64 B ∧ z = .int .i64 c ∧ wr = w2.drewN j ∧ p + 1 < v.size ∧ B ≤ W ∧ g + c ≤ D ∧ Hid (goodF v (v.size - 2) g p (W - B) = true) ∧
        Hid ((lookF v a W D 6 0).1 = (lookF v a W g p B).1 ∧ (lookF v a W D 6 0).2 = (lookF v a W g p B).2 + c))
      case atStart => exact ⟨6, 0, 0, 0, rfl, rfl, rfl, rfl, by omega, by omega, by omega, HG6.out, rfl, rfl⟩
      case round =>
        obtain ⟨p, B, c, j, rfl, rfl, rfl, rfl, hp, hB, hgc, HP, HL⟩ := hrel
        by_cases hh : b2 v p ≤ 250
        · go_wp2_with fail
          refine (two_any v p _ (by omega) (by omega) (by omega)).mono ?_
          rintro r w3 ⟨rfl, k4, rfl⟩
          rw [Int.toNat_natCast]
          go_wp2_with fail
          refine (two_any v p _ (by omega) (by omega) (by omega)).mono ?_
          rintro r w3 ⟨rfl, k5, rfl⟩
          rw [Int.toNat_natCast]
          go_wp2_with fail
          go_ret3
          have hl := look_hop (s := v) (A := a) (W := W) (p := p) (B := B) hh gk
          refine ⟨ret3 (int_eq (by rw [HL.out.1, hl])) (int_eq (by rw [HL.out.2, hl]; simp)) rfl, ?_⟩
          exact below_drewN ((below_drewN (Below.refl _ _) _).trans hb2) _
        · obtain ⟨n', hgn, hv2, hnd, hgd, hnl2, hBl⟩ := good_next (A := a) hh HP.out hB
          have HH : Hid (¬ b2 v p ≤ 250) := hh
          have hbb := b2_le (s := v) (p := p) (by omega)
          have HX : Hid (1002 ≤ b2 v p ∧ nodeF v (p + b2 v p - 1000) (v.size - 2) (W - B) = true) := ⟨hv2, hnd⟩
          have HY : Hid (gk = n' + 1 ∧ goodF v (v.size - 2) n' (nextF v a W p B) (W - (B + byt v (p + b2 v p - 1000))) = true) := ⟨hgn, hgd⟩
          have HZ : Hid (nextF v a W p B + 1 < v.size - 2 ∧ B + byt v (p + b2 v p - 1000) ≤ W) := ⟨hnl2, hBl⟩
          clear hnd hgd hgn hnl2 hBl
          go_wp2_with fail
          refine (two_any v p _ (by omega) (by omega) (by omega)).mono ?_
          rintro r w3 ⟨rfl, k4, rfl⟩
          rw [Int.toNat_natCast]
          go_wp2_with fail
          refine (step_any v a W p B (v.size - 2) _ (by omega) (by omega) (by omega) hB hp HX.out.1 HX.out.2).mono ?_
          rintro r w3 ⟨rfl, k5, rfl⟩
          go_wp2_with fail
          go_roundg n'
          case measure => have := HY.out.1; omega
          case rel =>
            obtain ⟨y1, y2⟩ := HY.out
            obtain ⟨z1, z2⟩ := HZ.out
            refine ⟨nextF v a W p B, B + byt v (p + b2 v p - 1000), c + 1, _, rfl, rfl, int_eq (by omega), rfl, by omega, z2, by omega, y2, ?_⟩
            have hl := HL.out
            rw [y1, look_node HH.out] at hl
            exact ⟨hl.1, by rw [hl.2]; simp only []; omega⟩
    · rw [if_neg hA] at hEE
      rw [if_neg (by rw [hEE]; omega)] at hRR
      rw [hRR, hEE]
      clear hEE hRR
      by_cases hA0 : 0 ≤ A
      · have hA1 : ¬ A < ((2 ^ W : Nat) : Int) := fun h => hA ⟨hA0, h⟩
        have hq : (2 : Int) ^ W ≤ A := by rw [Int.natCast_pow] at hA1; exact Int.not_lt.1 hA1
        have hd : decide ((2 : Int) ^ W ≤ A) = true := by rw [decide_eq_true_eq]; exact hq
        clear hA
        go_enter Tryd.func34, Tryd.ntmps34
        go_wp2_with fail
        refine (two_any u 4 _ (by omega) (by omega) (by omega)).mono ?_
        rintro r w1 ⟨rfl, k1, rfl⟩
        rw [show (4 : Int).toNat = 4 from rfl, HN.out]
        go_wp2_with fail
        refine (two_any u 4 _ (by omega) (by omega) (by omega)).mono ?_
        rintro r w1 ⟨rfl, k2, rfl⟩
        rw [show (4 : Int).toNat = 4 from rfl, HN.out]
        go_wp2_with fail
        refine (rgood_any v _ (by unfold maxLen; omega)).mono ?_
        rintro r w1 ⟨rfl, k3, rfl⟩
        rw [HG.out]
        go_wp2_with fail
        go_ret3
        exact ⟨rfl, below_drewN (Below.refl _ _) _⟩
      · clear hA
        go_enter Tryd.func34, Tryd.ntmps34
        go_wp2_with fail
        refine (two_any u 4 _ (by omega) (by omega) (by omega)).mono ?_
        rintro r w1 ⟨rfl, k1, rfl⟩
        rw [show (4 : Int).toNat = 4 from rfl, HN.out]
        go_wp2_with fail
        refine (two_any u 4 _ (by omega) (by omega) (by omega)).mono ?_
        rintro r w1 ⟨rfl, k2, rfl⟩
        rw [show (4 : Int).toNat = 4 from rfl, HN.out]
        go_wp2_with fail
        refine (rgood_any v _ (by unfold maxLen; omega)).mono ?_
        rintro r w1 ⟨rfl, k3, rfl⟩
        rw [HG.out]
        go_wp2_with fail
        go_ret3
        exact ⟨rfl, below_drewN (Below.refl _ _) _⟩

theorem rlook_any (s : ByteArray) (i A : Int) (w : World) (hm : s.size ≤ maxLen) :
    Calls Tryd.prog 34 #[.string s, .int .i64 i, .int .i64 A] w fun r w' => r = .returned (.tuple #[.int .i64 (lookR s i A).1, .int .i64 (lookR s i A).2, .int .i64 (lookE s i A)]) ∧ Below w.heap.size w w' := by
  by_cases h : i < 0 ∨ (s.size : Int) < i
  · obtain ⟨e1, e2⟩ := lookE_arg (A := A) h
    rw [e1, e2]
    unfold maxLen at hm
    rcases h with h | h
    · go_enter Tryd.func34, Tryd.ntmps34
      go_wp2_with fail
      go_ret3
      exact ⟨rfl, Below.refl _ _⟩
    · go_enter Tryd.func34, Tryd.ntmps34
      go_wp2_with fail
      go_ret3
      exact ⟨rfl, Below.refl _ _⟩
  · obtain ⟨k, rfl⟩ := Int.eq_ofNat_of_zero_le (show 0 ≤ i by omega)
    exact rlook_in s k A w hm (by omega)
end Go.Proofs.YtdfnmpmmkcpddaaDoor
