import Derived.Test.YtdfnmpmmkcpddaaDoorQ22
import Derived.Test.YtdfnmpmmkcpddaaDoorQ19
import Derived.Test.YtdfnmpmmkcpddaaDoorQ20
/- The walk of the document's Lookup. -/
namespace Go.Proofs.YtdfnmpmmkcpddaaDoor
open Go.RowKit

theorem lookE_arg {s : ByteArray} {i A : Int} (h : i < 0 ∨ (s.size : Int) < i) : lookE s i A = 2 ∧ lookR s i A = (0, 0) := by
  have e : lookE s i A = 2 := by unfold lookE; rw [if_pos h]
  refine ⟨e, ?_⟩
  unfold lookR; rw [e]; rfl

set_option maxRecDepth 100000 in
set_option maxHeartbeats 2000000 in
theorem rlook_in (s : ByteArray) (k : Nat) (A : Int) (w : World) (hm : s.size ≤ maxLen) (hk : k ≤ s.size) :
    Calls Tryd.prog 34 #[.string s, .int .i64 k, .int .i64 A] w fun r w' => r = .returned (.tuple #[.int .i64 (lookR s k A).1, .int .i64 (lookR s k A).2, .int .i64 (lookE s k A)]) ∧ Below w.heap.size w w' := by
  have hm' : s.size ≤ 9223372036854775807 := by unfold maxLen at hm; omega
  have hkn : ¬ ((k : Int) < 0 ∨ (s.size : Int) < k) := by omega
  obtain ⟨u, hu⟩ : ∃ u, s.extract k s.size = u := ⟨_, rfl⟩
  have hus : u.size = s.size - k := by rw [← hu, ByteArray.size_extract]; omega
  by_cases h1 : (s.size : Int) < k + 10
  · have e1 : lookE s k A = 6 := by unfold lookE; rw [if_neg hkn, if_pos (.inl h1)]
    have e2 : lookR s k A = (0, 0) := by unfold lookR; rw [e1]; rfl
    rw [e1, e2]
    have hus2 : u.size < 10 := by omega
    clear e1 e2 hm hkn h1 hus
    go_enter Tryd.func34, Tryd.ntmps34
    go_wp2_with fail
    go_ret3
    exact ⟨rfl, Below.refl _ _⟩
  have hun : u = s.extract k (k + (s.size - k)) := by rw [← hu]; congr 1; omega
  have hbu : ∀ j, j < s.size - k → byt u j = byt s (k + j) := fun j hj => by rw [hun]; exact byt_extract (by omega) hj
  obtain ⟨n, hn⟩ : ∃ n, b2 u 4 = n := ⟨_, rfl⟩
  have hns : b2 s (k + 4) = n := by rw [← hn, b2, b2, hbu 4 (by omega), hbu 5 (by omega)]
  have hnl : n ≤ 65535 := by rw [← hn]; exact b2_le (by omega)
  have hu10 : 10 ≤ u.size := by omega
  by_cases h2 : s.size < k + n
  · have e1 : lookE s k A = 6 := by unfold lookE; rw [if_neg hkn, if_pos (.inr (by rw [Int.toNat_natCast, hns]; exact h2))]
    have e2 : lookR s k A = (0, 0) := by unfold lookR; rw [e1]; rfl
    rw [e1, e2]
    have hn2 : u.size < n := by omega
    have HN : Hid (b2 u 4 = n) := hn
    clear e1 e2 hm hkn h1 hus hun hbu hns hn h2
    go_enter Tryd.func34, Tryd.ntmps34
    go_wp2_with fail
    refine (two_any u 4 _ (by omega) (by omega) (by omega)).mono ?_
    rintro r w1 ⟨rfl, k1, rfl⟩
    rw [show (4 : Int).toNat = 4 from rfl, HN.out]
    go_wp2_with fail
    go_ret3
    exact ⟨rfl, below_drewN (Below.refl _ _) _⟩
  obtain ⟨v, hv⟩ : ∃ v, u.extract 0 n = v := ⟨_, rfl⟩
  have hvi : v = imgAt s k := by
    rw [← hv, ← hu, imgAt, hns]
    refine ba_ext ?_
    simp only [ByteArray.data_extract, Array.toList_extract, List.extract_eq_take_drop, List.drop_zero]
    rw [List.take_take, show min (n - 0) (s.size - k) = n from by omega, show k + n - k = n from by omega]
  have hvs : v.size = n := by rw [hvi, imgAt_size (by rw [hns]; omega), hns]
  have hEE : lookE s k A = if imgF v = false then 6 else if 0 ≤ A ∧ A < ((2 ^ byt v 2 : Nat) : Int) then 0 else 2 := by
    unfold lookE; rw [if_neg hkn, if_neg (by rw [Int.toNat_natCast, hns]; omega), Int.toNat_natCast, ← hvi]
  have hRR : lookR s k A = if lookE s k A = 0 then lookF v A.toNat (byt v 2) (byt v 3) 6 0 else (0, 0) := by
    unfold lookR; rw [Int.toNat_natCast, ← hvi]
  have hnu : n ≤ u.size := by omega
  have HN : Hid (b2 u 4 = n) := hn
  have hvm : v.size ≤ 65535 := by omega
  clear hm hkn h1 hus hun hbu hns hn h2 hvi hvs
  cases hg : imgF v with
  | false =>
    have HG : Hid (imgF v = false) := hg
    have e1 : lookE s k A = 6 := by rw [hEE, hg, if_pos rfl]
    have e2 : lookR s k A = (0, 0) := by rw [hRR, e1, if_neg (by omega)]
    rw [e1, e2]
    clear hg e1 e2 hEE hRR
    go_enter Tryd.func34, Tryd.ntmps34
    go_wp2_with fail
    refine (two_any u 4 _ (by omega) (by omega) (by omega)).mono ?_
    rintro r w1 ⟨rfl, k1, rfl⟩
    rw [show (4 : Int).toNat = 4 from rfl, HN.out]
    go_wp2_with fail
    refine (two_any u 4 _ (by omega) (by omega) (by omega)).mono ?_
    rintro r w1 ⟨rfl, k2, rfl⟩
    rw [show (4 : Int).toNat = 4 from rfl, HN.out]
    go_wp2_with fail
    refine (rgood_any v _ (by unfold maxLen; omega)).mono ?_
    rintro r w1 ⟨rfl, k3, rfl⟩
    rw [HG.out]
    go_wp2_with fail
    go_ret3
    exact ⟨rfl, below_drewN (Below.refl _ _) _⟩
  | true =>
    have HG : Hid (imgF v = true) := hg
    obtain ⟨g1, g2, g3, g4, g5, g6⟩ := img_parts hg
    have i2 : 2 < v.size := by omega
    obtain ⟨W, hW⟩ : ∃ W, (v[2]'i2).toNat = W := ⟨_, rfl⟩
    have e2 : byt v 2 = W := by rw [byt_in i2, hW]
    rw [e2] at g3 g4 g5 g6 hEE hRR
    obtain ⟨D, hD⟩ : ∃ D, byt v 3 = D := ⟨_, rfl⟩
    rw [hD] at g5 g6 hRR
    rw [hg, if_neg (by simp)] at hEE
    have HG6 : Hid (goodF v (v.size - 2) D 6 W = true) := g6
    obtain ⟨p1, p3, p4⟩ := wrap_pow (W := W) (by omega)
    clear hg e2 hD g2 g6
    by_cases hA : 0 ≤ A ∧ A < ((2 ^ W : Nat) : Int)
    · rw [if_pos hA] at hEE
      rw [if_pos hEE] at hRR
      rw [hRR, hEE]
      clear hEE hRR
      obtain ⟨hA0, hA1⟩ := hA
      obtain ⟨a, rfl⟩ := Int.eq_ofNat_of_zero_le hA0
      rw [Int.toNat_natCast]
      have hq : (a : Int) < (2 : Int) ^ W := by rw [Int.natCast_pow] at hA1; exact hA1
      have hd : decide ((2 : Int) ^ W ≤ (a : Int)) = false := by rw [decide_eq_false_iff_not]; omega
      have ha : a < 4096 := by omega
      go_enter Tryd.func34, Tryd.ntmps34
      go_wp2_with fail
      refine (two_any u 4 _ (by omega) (by omega) (by omega)).mono ?_
      rintro r w1 ⟨rfl, k1, rfl⟩
      rw [show (4 : Int).toNat = 4 from rfl, HN.out]
      go_wp2_with fail
      refine (two_any u 4 _ (by omega) (by omega) (by omega)).mono ?_
      rintro r w1 ⟨rfl, k2, rfl⟩
      rw [show (4 : Int).toNat = 4 from rfl, HN.out]
      go_wp2_with fail
      refine (rgood_any v _ (by unfold maxLen; omega)).mono ?_
      rintro r w1 ⟨rfl, k3, rfl⟩
      rw [HG.out]
      go_wp2_with fail
      refine (rbitsA_any a W _ ha (by omega)).mono ?_
      rintro r w2 ⟨rfl, hb2⟩
      go_wp2_with fail
      go_loopg [12, 13, 14] D (fun g x y z wr => ∃ (p B c j : Nat), x = .int .i64 p ∧ y = .int .i64 B ∧ z = .int .i64 c ∧ wr = w2.drewN j ∧ p + 1 < v.size ∧ B ≤ W ∧ g + c ≤ D ∧ Hid (goodF v (v.size - 2) g p (W - B) = true) ∧
        Hid ((lookF v a W D 6 0).1 = (lookF v a W g p B).1 ∧ (lookF v a W D 6 0).2 = (lookF v a W g p B).2 + c))
      case atStart => exact ⟨6, 0, 0, 0, rfl, rfl, rfl, rfl, by omega, by omega, by omega, HG6.out, rfl, rfl⟩
      case round =>
        obtain ⟨p, B, c, j, rfl, rfl, rfl, rfl, hp, hB, hgc, HP, HL⟩ := hrel
        by_cases hh : b2 v p ≤ 250
        · go_wp2_with fail
          refine (two_any v p _ (by omega) (by omega) (by omega)).mono ?_
          rintro r w3 ⟨rfl, k4, rfl⟩
          rw [Int.toNat_natCast]
          go_wp2_with fail
          refine (two_any v p _ (by omega) (by omega) (by omega)).mono ?_
          rintro r w3 ⟨rfl, k5, rfl⟩
          rw [Int.toNat_natCast]
          go_wp2_with fail
          go_ret3
          have hl := look_hop (s := v) (A := a) (W := W) (p := p) (B := B) hh gk
          refine ⟨ret3 (int_eq (by rw [HL.out.1, hl])) (int_eq (by rw [HL.out.2, hl]; simp)) rfl, ?_⟩
          exact below_drewN ((below_drewN (Below.refl _ _) _).trans hb2) _
        · obtain ⟨n', hgn, hv2, hnd, hgd, hnl2, hBl⟩ := good_next (A := a) hh HP.out hB
          have HH : Hid (¬ b2 v p ≤ 250) := hh
          have hbb := b2_le (s := v) (p := p) (by omega)
          have HX : Hid (1002 ≤ b2 v p ∧ nodeF v (p + b2 v p - 1000) (v.size - 2) (W - B) = true) := ⟨hv2, hnd⟩
          have HY : Hid (gk = n' + 1 ∧ goodF v (v.size - 2) n' (nextF v a W p B) (W - (B + byt v (p + b2 v p - 1000))) = true) := ⟨hgn, hgd⟩
          have HZ : Hid (nextF v a W p B + 1 < v.size - 2 ∧ B + byt v (p + b2 v p - 1000) ≤ W) := ⟨hnl2, hBl⟩
          clear hnd hgd hgn hnl2 hBl
          go_wp2_with fail
          refine (two_any v p _ (by omega) (by omega) (by omega)).mono ?_
          rintro r w3 ⟨rfl, k4, rfl⟩
          rw [Int.toNat_natCast]
          go_wp2_with fail
          refine (step_any v a W p B (v.size - 2) _ (by omega) (by omega) (by omega) hB hp HX.out.1 HX.out.2).mono ?_
          rintro r w3 ⟨rfl, k5, rfl⟩
          go_wp2_with fail
          go_roundg n'
          case measure => have := HY.out.1; omega
          case rel =>
            obtain ⟨y1, y2⟩ := HY.out
            obtain ⟨z1, z2⟩ := HZ.out
            refine ⟨nextF v a W p B, B + byt v (p + b2 v p - 1000), c + 1, _, rfl, rfl, int_eq (by omega), rfl, by omega, z2, by omega, y2, ?_⟩
            have hl := HL.out
            rw [y1, look_node HH.out] at hl
            exact ⟨hl.1, by rw [hl.2]; simp only []; omega⟩
    · rw [if_neg hA] at hEE
      rw [if_neg (by rw [hEE]; omega)] at hRR
      rw [hRR, hEE]
      clear hEE hRR
      by_cases hA0 : 0 ≤ A
      · have hA1 : ¬ A < ((2 ^ W : Nat) : Int) := fun h => hA ⟨hA0, h⟩
        have hq : (2 : Int) ^ W ≤ A := by rw [Int.natCast_pow] at hA1; exact Int.not_lt.1 hA1
        have hd : decide ((2 : Int) ^ W ≤ A) = true := by rw [decide_eq_true_eq]; exact hq
        clear hA
        go_enter Tryd.func34, Tryd.ntmps34
        go_wp2_with fail
        refine (two_any u 4 _ (by omega) (by omega) (by omega)).mono ?_
        rintro r w1 ⟨rfl, k1, rfl⟩
        rw [show (4 : Int).toNat = 4 from rfl, HN.out]
        go_wp2_with fail
        refine (two_any u 4 _ (by omega) (by omega) (by omega)).mono ?_
        rintro r w1 ⟨rfl, k2, rfl⟩
        rw [show (4 : Int).toNat = 4 from rfl, HN.out]
        go_wp2_with fail
        refine (rgood_any v _ (by unfold maxLen; omega)).mono ?_
        rintro r w1 ⟨rfl, k3, rfl⟩
        rw [HG.out]
        go_wp2_with fail
        go_ret3
        exact ⟨rfl, below_drewN (Below.refl _ _) _⟩
      · clear hA
        go_enter Tryd.func34, Tryd.ntmps34
        go_wp2_with fail
        refine (two_any u 4 _ (by omega) (by omega) (by omega)).mono ?_
        rintro r w1 ⟨rfl, k1, rfl⟩
        rw [show (4 : Int).toNat = 4 from rfl, HN.out]
        go_wp2_with fail
        refine (two_any u 4 _ (by omega) (by omega) (by omega)).mono ?_
        rintro r w1 ⟨rfl, k2, rfl⟩
        rw [show (4 : Int).toNat = 4 from rfl, HN.out]
        go_wp2_with fail
        refine (rgood_any v _ (by unfold maxLen; omega)).mono ?_
        rintro r w1 ⟨rfl, k3, rfl⟩
        rw [HG.out]
        go_wp2_with fail
        go_ret3
        exact ⟨rfl, below_drewN (Below.refl _ _) _⟩

theorem rlook_any (s : ByteArray) (i A : Int) (w : World) (hm : s.size ≤ maxLen) :
    Calls Tryd.prog 34 #[.string s, .int .i64 i, .int .i64 A] w fun r w' => r = .returned (.tuple #[.int .i64 (lookR s i A).1, .int .i64 (lookR s i A).2, .int .i64 (lookE s i A)]) ∧ Below w.heap.size w w' := by
  by_cases h : i < 0 ∨ (s.size : Int) < i
  · obtain ⟨e1, e2⟩ := lookE_arg (A := A) h
    rw [e1, e2]
    unfold maxLen at hm
    rcases h with h | h
    · go_enter Tryd.func34, Tryd.ntmps34
      go_wp2_with fail
      go_ret3
      exact ⟨rfl, Below.refl _ _⟩
    · go_enter Tryd.func34, Tryd.ntmps34
      go_wp2_with fail
      go_ret3
      exact ⟨rfl, Below.refl _ _⟩
  · obtain ⟨k, rfl⟩ := Int.eq_ofNat_of_zero_le (show 0 ≤ i by omega)
    exact rlook_in s k A w hm (by omega)
end Go.Proofs.YtdfnmpmmkcpddaaDoor
/- The walk of the document's Judge, where it says yes. -/
namespace Go.Proofs.YtdfnmpmmkcpddaaDoor
open Go.RowKit

theorem cost_range {s : ByteArray} {W d : Int} : 0 ≤ prC s W d ∧ prC s W d ≤ 4096 := by
  unfold prC
  split
  · rename_i he
    split
    · omega
    · rename_i hh
      have hd : ¬ prArg s W d := by intro h; unfold prE at he; rw [if_pos h] at he; omega
      have hE : prE s W d = tErr s W := by unfold prE; rw [if_neg hd]
      obtain ⟨hs, _⟩ := t_zero (hE.symm.trans he)
      have h3 : ¬ (W < 1 ∨ 12 < W ∨ d < 1 ∨ W < d) := fun h => hd ⟨hs, h⟩
      have := cost_bd (D := dedup (tRts s W)) (fun r hr => (dedup_fit (tRts_fit s W) r hr).1) d.toNat ⟨#[]⟩ (by omega) (by omega)
      omega
  · omega

/-- With an error. -/
theorem judge_err (s : ByteArray) (W d L A e : Int) (w : World) (hm : s.size ≤ maxLen) (he : prE s W d ≠ 0) (hE : e = prE s W d) :
    Calls Tryd.prog 32 #[.string s, .int .i64 W, .int .i64 d, .int .i64 L, .int .i64 A, .string ⟨#[]⟩, .int .i64 e] w fun r w' => r = .returned (.bool true) ∧ Below w.heap.size w w' := by
  have hne : ((prE s W d : Int) != 0) = true := by rw [bne_iff_ne]; omega
  have heq : (e == (prE s W d : Int)) = true := by rw [beq_iff_eq]; exact hE
  have HE : Hid (e = prE s W d) := hE
  clear hE he
  go_enter Tryd.func32, Tryd.ntmps32
  go_wp2_with fail
  refine (priced_any s W d _ hm).mono ?_
  rintro r w1 ⟨ao, n, cap, rfl, _, hb⟩
  go_wp2_with fail
  go_ret
  exact ⟨rfl, hb⟩
/-- Where the image is too long. -/
theorem judge_size (s : ByteArray) (W d L A : Int) (w : World) (hm : s.size ≤ maxLen) (he : prE s W d = 0) (hL : L < 10 + 5 * prC s W d) :
    Calls Tryd.prog 32 #[.string s, .int .i64 W, .int .i64 d, .int .i64 L, .int .i64 A, .string ⟨#[]⟩, .int .i64 5] w fun r w' => r = .returned (.bool true) ∧ Below w.heap.size w w' := by
  have hne : ((prE s W d : Int) != 0) = false := by rw [bne_eq_false_iff_eq]; omega
  have hr := cost_range (s := s) (W := W) (d := d)
  have HE : Hid (prE s W d = 0) := he
  clear he
  go_enter Tryd.func32, Tryd.ntmps32
  go_wp2_with fail
  refine (priced_any s W d _ hm).mono ?_
  rintro r w1 ⟨ao, n, cap, rfl, _, hb⟩
  go_wp2_with fail
  go_ret
  exact ⟨rfl, hb⟩

theorem imgAt_self {m : ByteArray} (h : b2 m 4 = m.size) : imgAt m 0 = m := by
  unfold imgAt
  rw [show b2 m (0 + 4) = m.size from h, Nat.zero_add]
  exact ByteArray.extract_zero_size
theorem look_self {m : ByteArray} {A : Int} (h : imgF m = true) (h0 : 0 ≤ A) (h1 : A < ((2 ^ byt m 2 : Nat) : Int)) : lookE m 0 A = 0 := by
  obtain ⟨g1, g2, _⟩ := img_parts h
  unfold lookE
  rw [if_neg (by omega), if_neg (by rw [show b2 m ((0 : Int).toNat + 4) = m.size from g2]; simp; omega), show (0 : Int).toNat = 0 from rfl, imgAt_self g2, if_neg (by rw [h]; simp), if_pos ⟨h0, h1⟩]

set_option maxRecDepth 100000 in
set_option maxHeartbeats 1000000 in
/-- With an image. -/
theorem judge_ok (s m : ByteArray) (W d : Nat) (L A : Int) (w : World) (hm : s.size ≤ maxLen) (he : prE s W d = 0) (himg : imgF m = true) (hL : m.size ≤ L) (hC : (m.size : Int) ≤ 10 + 5 * prC s W d) (h2 : byt m 2 = W) (h3 : byt m 3 ≤ d)
    (hS : (slotsF m (byt m 3) 6 : Int) ≤ prC s W d) (hop : 0 ≤ A → A < ((2 ^ W : Nat) : Int) → (lookR m 0 A).1 = (bestF (addr A.toNat W) (tRts s W)).2) :
    Calls Tryd.prog 32 #[.string s, .int .i64 W, .int .i64 d, .int .i64 L, .int .i64 A, .string m, .int .i64 0] w fun r w' => r = .returned (.bool true) ∧ Below w.heap.size w w' := by
  have hne : ((prE s W d : Int) != 0) = false := by rw [bne_eq_false_iff_eq]; omega
  have hr := cost_range (s := s) (W := (W : Int)) (d := (d : Int))
  obtain ⟨g1, g2, g3, g4, g5, g6⟩ := img_parts himg
  have hs : m.size ≤ 65535 := by rw [← g2]; exact b2_le (by omega)
  have i2 : 2 < m.size := by omega
  have i3 : 3 < m.size := by omega
  obtain ⟨x2, hx2⟩ : ∃ x, (m[2]'i2).toNat = x := ⟨_, rfl⟩
  obtain ⟨x3, hx3⟩ : ∃ x, (m[3]'i3).toNat = x := ⟨_, rfl⟩
  have hW2 : x2 = W := by rw [← hx2, ← byt_in i2]; exact h2
  have hD3 : byt m 3 = x3 := by rw [byt_in i3, hx3]
  rw [hD3] at h3 hS g5 g6
  rw [h2] at g3 g4 g5 g6
  subst hW2
  have HG : Hid (goodF m (m.size - 2) x3 6 x2 = true) := g6
  have HI : Hid (imgF m = true) := himg
  have HE : Hid (prE s x2 d = 0) := he
  have H2 : Hid (byt m 2 = x2) := h2
  have HOP : Hid (0 ≤ A → A < ((2 ^ x2 : Nat) : Int) → (lookR m 0 A).1 = (bestF (addr A.toNat x2) (tRts s x2)).2) := hop
  have hdl := dedup_length (tRts s x2)
  have hlen : (tRts s x2).length ≤ 24 := by
    have hd : ¬ prArg s x2 d := by intro h; unfold prE at he; rw [if_pos h] at he; omega
    have hE : prE s x2 d = tErr s x2 := by unfold prE; rw [if_neg hd]
    exact (t_zero (hE.symm.trans he)).2.2.2
  obtain ⟨p1, p3, p4⟩ := wrap_pow (W := x2) (by omega)
  clear he himg g2 g6 h2 hop hD3
  go_enter Tryd.func32, Tryd.ntmps32
  go_wp2_with fail
  refine (priced_any s x2 d _ hm).mono ?_
  rintro r w1 ⟨ao, n, cap, rfl, hrow, hb⟩
  obtain ⟨rfl, hown⟩ := hrow HE.out
  go_wp2_with fail
  refine (rgood_any m _ (by unfold maxLen; omega)).mono ?_
  rintro r w2 ⟨rfl, k2, rfl⟩
  rw [HI.out]
  go_wp2_with fail
  rw [show ((m.size : Int) - 2) = ((m.size - 2 : Nat) : Int) from by omega]
  refine (slots_any m (m.size - 2) (by omega) (by omega) x3 6 x2 _ (by omega) (by omega) (by omega) (by omega) (by rw [Int.toNat_natCast]; exact HG.out)).mono ?_
  rintro r w3 ⟨rfl, k3, rfl⟩
  rw [show (6 : Int).toNat = 6 from rfl]
  by_cases hA0 : 0 ≤ A
  · by_cases hA1 : A < ((2 ^ x2 : Nat) : Int)
    · have HL := HOP.out hA0 hA1
      have HLE := look_self HI.out hA0 (by rw [H2.out]; exact hA1)
      obtain ⟨A, rfl⟩ := Int.eq_ofNat_of_zero_le hA0
      rw [Int.toNat_natCast] at HL
      have HL' : Hid ((lookR m 0 A).1 = (bestF (addr A x2) (tRts s x2)).2) := HL
      have hq : (A : Int) < (2 : Int) ^ x2 := by rw [Int.natCast_pow] at hA1; exact hA1
      have hd : decide ((2 : Int) ^ x2 ≤ (A : Int)) = false := by rw [decide_eq_false_iff_not]; omega
      have HLE' : Hid (lookE m 0 A = 0) := HLE
      have hA12 : A < 4096 := by omega
      clear HL HLE HOP
      go_wp2_with fail
      refine (rlook_any m 0 A _ (by unfold maxLen; omega)).mono ?_
      rintro r w4 ⟨rfl, hb4⟩
      rw [HLE'.out, HL'.out]
      go_wp2_with fail
      refine (rbitsA_any A x2 _ hA12 (by omega)).mono ?_
      rintro r w5 ⟨rfl, hb5⟩
      have hz := hb.size
      have hb45 : Below w1.heap.size w1 w5 := (below_drewN (Below.refl _ w1) _).trans (hb4.trans (hb5.mono hb4.size))
      go_wp2_with fail
      refine (rhopA_any (addr A x2) (dedup (tRts s x2)) ao cap _ _ (by omega) (own_below hown hb45)).mono ?_
      rintro r w6 ⟨h, rfl, hres, hb6⟩
      have hbest := best_eq hres
      go_wp2_with fail
      go_ret
      refine ⟨ret1 (bool_eq ?_), hb.trans ((hb45.trans (hb6.mono hb45.size)).mono hz)⟩
      simp
    · have hq : (2 : Int) ^ x2 ≤ A := by rw [Int.natCast_pow] at hA1; exact Int.not_lt.1 hA1
      have hd : decide ((2 : Int) ^ x2 ≤ A) = true := by rw [decide_eq_true_eq]; exact hq
      go_wp2_with fail
      go_ret
      exact ⟨rfl, below_drewN hb _⟩
  · go_wp2_with fail
    go_ret
    exact ⟨rfl, below_drewN hb _⟩
end Go.Proofs.YtdfnmpmmkcpddaaDoor
/- Plain facts for stage 3: a printed table has the same hops and costs; an image among other bytes. -/
namespace Go.Proofs.YtdfnmpmmkcpddaaDoor

theorem lastOf_ord (l : List Rt) (b : ByteArray) : lastOf (ordR l) b = lastOf l b := by
  have key : ∀ h, lastOf (ordR l) b = some h ↔ lastOf l b = some h := by
    intro h
    have h1 := ordR_mem (ordR l) ⟨b, h⟩
    have h2 := ordR_mem l ⟨b, h⟩
    rw [ordR_id (ordR_ord l)] at h1
    exact h1.symm.trans h2
  cases h : lastOf l b with
  | some x => exact (key x).2 h
  | none =>
    cases h' : lastOf (ordR l) b with
    | none => rfl
    | some x => rw [(key x).1 h'] at h; exact absurd h (by simp)
theorem best_last {a : ByteArray} {l m : List Rt} (h : ∀ b, lastOf l b = lastOf m b) : (bestF a l).2 = (bestF a m).2 := by
  rcases bestF_spec a l with ⟨h1, h2⟩ | ⟨b, h1, h2, h3, h4⟩
  · rcases bestF_spec a m with ⟨k1, k2⟩ | ⟨c, k1, k2, k3, k4⟩
    · rw [h1, k1]
    · rw [← h] at k3; rw [h2 c _ k3] at k1; exact absurd k1 (by simp)
  · rcases bestF_spec a m with ⟨k1, k2⟩ | ⟨c, k1, k2, k3, k4⟩
    · rw [h] at h3; rw [k2 b _ h3] at h1; exact absurd h1 (by simp)
    · have e1 := h4 c _ (by rw [h]; exact k3) k1
      have e2 := k4 b _ (by rw [← h]; exact h3) h1
      have : b = c := pre_size_eq h1 k1 (by omega)
      subst this
      rw [h, k3] at h3
      exact (Option.some.inj h3).symm
theorem best_ord (a : ByteArray) (l : List Rt) : (bestF a (ordR l)).2 = (bestF a l).2 := best_last (lastOf_ord l)

/-- What Print answers is the same table. -/
structure Again (s t : ByteArray) (W : Int) : Prop where
  size : t.size ≤ 400
  err : tErr t W = 0
  rts : ordR (tRts t W) = ordR (tRts s W)
  print : pText t W = t
  cost : ∀ D, prC t W D = prC s W D ∧ prE t W D = prE s W D
  hop : ∀ A, fHop t W A = fHop s W A
  none : t.size = 0 ↔ s.size = 0
theorem print_again {s : ByteArray} {W : Int} (h : tErr s W = 0) : Again s (pText s W) W := by
  obtain ⟨hs, hW1, hW2, _⟩ := t_zero h
  obtain ⟨W, rfl⟩ := Int.eq_ofNat_of_zero_le (show 0 ≤ W by omega)
  obtain ⟨h1, h2, h3, h4⟩ := print_read h hs (by omega) (by omega)
  have hO : ordR (tRts (pText s W) W) = ordR (tRts s W) := by
    unfold pText; rw [h3, ordR_id (ordR_ord _)]
  have hE : ∀ D, prE (pText s W) W D = prE s W D := by
    intro D
    have hA : prArg (pText s W) W D ↔ prArg s W D := by
      unfold prArg
      constructor
      · rintro ⟨_, h⟩; exact ⟨hs, h⟩
      · rintro ⟨_, h⟩; exact ⟨by unfold pText; omega, h⟩
    unfold prE
    by_cases c : prArg s W D
    · rw [if_pos c, if_pos (hA.2 c)]
    · rw [if_neg c, if_neg (fun e => c (hA.1 e)), h]; exact h2
  refine ⟨by unfold pText; omega, h2, hO, ?_, ?_, ?_, ?_⟩
  · show textB (ordR (tRts (pText s W) W)) = textB (ordR (tRts s W)); rw [hO]
  · intro D
    refine ⟨?_, hE D⟩
    by_cases c : prE s W D = 0
    · rw [tab_prC c, tab_prC ((hE D).trans c), hO]
    · have e1 : prC s W D = 0 := by unfold prC; rw [if_neg c]
      have e2 : prC (pText s W) W D = 0 := by unfold prC; rw [if_neg (by rw [hE D]; exact c)]
      rw [e1, e2]
  · intro A
    have e : tErr (pText s W) W = 0 := h2
    unfold fHop
    rw [if_pos e, if_pos h]
    split
    · rw [← best_ord _ (tRts (pText s W) W), ← best_ord _ (tRts s W), hO]
    · rfl
  · rw [← h4]
    constructor
    · intro e
      have hl : (textL (ordR (tRts s W))).length = 0 := by
        have : (textB (ordR (tRts s W))).data.toList.length = 0 := e
        rwa [textB_list] at this
      cases hc : ordR (tRts s W) with
      | nil =>
        cases hd : tRts s W with
        | nil => rfl
        | cons r l =>
          obtain ⟨x, hx⟩ := lastOf_some (L := tRts s W) (r := r) (by rw [hd]; simp)
          have := (ordR_mem (tRts s W) ⟨r.bits, x⟩).2 hx
          rw [hc] at this; simp at this
      | cons r l =>
        rw [hc] at hl
        simp [textL, lineL] at hl
    · intro e
      have : pText s W = ⟨#[]⟩ := by unfold pText; rw [e]; rfl
      rw [this]; rfl

theorem extract_list (x : ByteArray) (a n : Nat) : (x.extract a (a + n)).data.toList = (x.data.toList.drop a).take n := by
  simp [ByteArray.data_extract, List.extract_eq_take_drop]
/-- An image among other bytes. -/
theorem byt_right {p m : ByteArray} {k : Nat} (h : k < m.size) (q : ByteArray) : byt (p ++ m ++ q) (p.size + k) = byt m k := by
  have hk : k < m.data.toList.length := h
  have e := byt_mid (s := p ++ m ++ q) (P := p.data.toList) (X := m.data.toList) (Q := q.data.toList) (k := k) (c := m.data.toList[k]) (by simp [ByteArray.data_append]) (List.getElem?_eq_getElem hk)
  have e2 : byt m k = (m.data.toList[k]).toNat := by rw [byt_list, List.getElem?_eq_getElem hk]
  rw [e2]
  exact e
theorem imgAt_mid {p m q : ByteArray} (h : imgF m = true) : b2 (p ++ m ++ q) (p.size + 4) = m.size ∧ imgAt (p ++ m ++ q) p.size = m := by
  obtain ⟨g1, g2, _⟩ := img_parts h
  have hb : b2 (p ++ m ++ q) (p.size + 4) = m.size := by
    rw [← g2, b2, b2, byt_right (by omega), show p.size + 4 + 1 = p.size + 5 from rfl, byt_right (by omega)]
  refine ⟨hb, ?_⟩
  unfold imgAt
  rw [hb]
  refine ba_ext ?_
  rw [extract_list]
  have e2 : (p ++ m ++ q).data.toList = p.data.toList ++ (m.data.toList ++ q.data.toList) := by simp [ByteArray.data_append]
  have e3 : p.size = p.data.toList.length := rfl
  have e4 : m.size = m.data.toList.length := rfl
  rw [e2, e3, List.drop_left, e4, List.take_left]
theorem look_mid {p m q : ByteArray} (h : imgF m = true) (A : Int) : lookE (p ++ m ++ q) p.size A = lookE m 0 A ∧ lookR (p ++ m ++ q) p.size A = lookR m 0 A := by
  obtain ⟨g1, g2, _⟩ := img_parts h
  obtain ⟨k1, k2⟩ := imgAt_mid (p := p) (q := q) h
  have hs : (p ++ m ++ q).size = p.size + m.size + q.size := by rw [ByteArray.size_append, ByteArray.size_append]
  have e1 : lookE (p ++ m ++ q) p.size A = if 0 ≤ A ∧ A < ((2 ^ byt m 2 : Nat) : Int) then 0 else 2 := by
    unfold lookE
    rw [if_neg (by omega), if_neg (by rw [Int.toNat_natCast, k1]; omega), Int.toNat_natCast, k2, if_neg (by rw [h]; simp)]
  have e2 : lookE m 0 A = if 0 ≤ A ∧ A < ((2 ^ byt m 2 : Nat) : Int) then 0 else 2 := by
    unfold lookE
    rw [if_neg (by omega), if_neg (by rw [show (0 : Int).toNat = 0 from rfl, show b2 m (0 + 4) = m.size from g2]; omega), show (0 : Int).toNat = 0 from rfl, imgAt_self g2, if_neg (by rw [h]; simp)]
  refine ⟨e1.trans e2.symm, ?_⟩
  unfold lookR
  rw [e1, e2, Int.toNat_natCast, k2, show (0 : Int).toNat = 0 from rfl, imgAt_self g2]
end Go.Proofs.YtdfnmpmmkcpddaaDoor
