/- The walks of the document's images: good, Good, Load. -/
import Derived.Test.YtdfnmpmmkcpddaaDoorWalkJ
namespace Go.Proofs.YtdfnmpmmkcpddaaDoor
open Go.RowKit

/-- What is asked of 'good' with n nodes left. -/
def GoodC (s : ByteArray) (e n : Nat) : Prop := ∀ (p b m : Int) (w : World), 0 ≤ p → p + 1 < s.size → 0 ≤ b → b ≤ 12 → m = n →
  Calls Tryd.prog 78 #[.string s, .int .i64 p, .int .i64 e, .int .i64 b, .int .i64 m] w fun r w' => r = .returned (.bool (goodF s e n p.toNat b.toNat)) ∧ ∃ k, w' = w.drewN k

theorem goodF_hop {s : ByteArray} {e p b : Nat} (h : b2 s p ≤ 250) : ∀ n, goodF s e n p b = true
  | 0 => by simp [goodF, h]
  | n + 1 => by simp [goodF, h]

theorem good_hop (s : ByteArray) (e n : Nat) (p b m : Int) (w : World) (hs : s.size ≤ 70000) (h0 : 0 ≤ p) (h : p + 1 < s.size) (hv : b2 s p.toNat ≤ 250) :
    Calls Tryd.prog 78 #[.string s, .int .i64 p, .int .i64 e, .int .i64 b, .int .i64 m] w fun r w' => r = .returned (.bool (goodF s e n p.toNat b.toNat)) ∧ ∃ k, w' = w.drewN k := by
  rw [goodF_hop hv n]
  go_enter Tryd.func78, Tryd.ntmps78
  go_wp2_with fail
  refine (two_any s p _ h0 h (by omega)).mono ?_
  rintro r w1 ⟨rfl, k, rfl⟩
  go_wp2_with fail
  go_ret
  exact ⟨rfl, _, rfl⟩

theorem good_zero (s : ByteArray) (e : Nat) (hs : s.size ≤ 70000) : GoodC s e 0 := by
  intro p b m w h0 h hb0 hb hm
  by_cases hv : b2 s p.toNat ≤ 250
  · exact good_hop s e 0 p b m w hs h0 h hv
  · have hF : goodF s e 0 p.toNat b.toNat = false := by simp [goodF, hv]
    rw [hF]
    subst hm
    have hbl := b2_le (s := s) (p := p.toNat) (by omega)
    by_cases h2 : b2 s p.toNat < 1002
    · go_enter Tryd.func78, Tryd.ntmps78
      go_wp2_with fail
      refine (two_any s p _ h0 h (by omega)).mono ?_
      rintro r w1 ⟨rfl, k, rfl⟩
      go_wp2_with fail
      go_ret
      exact ⟨rfl, _, rfl⟩
    · go_enter Tryd.func78, Tryd.ntmps78
      go_wp2_with fail
      refine (two_any s p _ h0 h (by omega)).mono ?_
      rintro r w1 ⟨rfl, k, rfl⟩
      go_wp2_with fail
      go_ret
      exact ⟨rfl, _, rfl⟩

theorem nodeF_parts {s : ByteArray} {p e b : Nat} (h : nodeF s p e b = true) : p < e ∧ 1 ≤ byt s p ∧ byt s p ≤ b ∧ entF s p + 2 * onesF s p (2 ^ byt s p) ≤ e := by
  simp only [nodeF, Bool.and_eq_true, decide_eq_true_eq] at h
  omega

set_option maxRecDepth 100000 in
set_option maxHeartbeats 1000000 in
theorem good_succ (s : ByteArray) (e n : Nat) (hs : s.size ≤ 70000) (he : e ≤ s.size) (hn : n ≤ 12) (ih : GoodC s e n) : GoodC s e (n + 1) := by
  intro p b m w h0 h hb0 hb hm
  by_cases hv : b2 s p.toNat ≤ 250
  · exact good_hop s e (n + 1) p b m w hs h0 h hv
  have HI : Hid (GoodC s e n) := ih
  clear ih
  have hbl := b2_le (s := s) (p := p.toNat) (by omega)
  have hm0 : (m == 0) = false := by rw [beq_eq_false_iff_ne]; omega
  have HM : Hid (m = ((n + 1 : Nat) : Int)) := hm
  have hm1 : 1 ≤ m := by omega
  have hm2 : m ≤ 13 := by omega
  clear hm
  obtain ⟨p, rfl⟩ := Int.eq_ofNat_of_zero_le h0
  obtain ⟨b, rfl⟩ := Int.eq_ofNat_of_zero_le hb0
  rw [Int.toNat_natCast] at hv hbl
  rw [Int.toNat_natCast, Int.toNat_natCast]
  obtain ⟨v, hve⟩ : ∃ v, b2 s p = v := ⟨_, rfl⟩
  rw [hve] at hv hbl
  have HV : Hid (b2 s p = v) := hve
  clear hve
  by_cases h2 : v < 1002
  · have hF : Hid (goodF s e (n + 1) p b = false) := by unfold Hid; rw [goodF, HV.out]; simp; omega
    go_enter Tryd.func78, Tryd.ntmps78
    go_wp2_with fail
    refine (two_any s p _ h0 h (by omega)).mono ?_
    rintro r w1 ⟨rfl, k, rfl⟩
    rw [Int.toNat_natCast, HV.out]
    go_wp2_with fail
    go_ret
    rw [hF.out]
    exact ⟨rfl, _, rfl⟩
  obtain ⟨q, hq⟩ : ∃ q : Nat, q = p + v - 1000 := ⟨_, rfl⟩
  have hqi : ((p : Int) + (v : Int) - 1000) = (q : Int) := by omega
  have hql : q ≤ 200000 := by omega
  cases hnd : nodeF s q e b with
  | false =>
    have hF : Hid (goodF s e (n + 1) p b = false) := by unfold Hid; rw [goodF, HV.out, ← hq, hnd]; simp; omega
    have HN : Hid (nodeF s q e b = false) := hnd
    clear hnd hq
    go_enter Tryd.func78, Tryd.ntmps78
    go_wp2_with fail
    refine (two_any s p _ h0 h (by omega)).mono ?_
    rintro r w1 ⟨rfl, k, rfl⟩
    rw [Int.toNat_natCast, HV.out]
    go_wp2_with fail
    refine (lies_any s q e b _ (by omega) (by omega) (by omega) (by omega) hs (by omega) (by omega)).mono ?_
    rintro r w2 ⟨⟨x, y, ok, rfl, hok, _⟩, rfl⟩
    rw [Int.toNat_natCast, Int.toNat_natCast, Int.toNat_natCast, HN.out] at hok
    subst hok
    go_wp2_with fail
    go_ret
    rw [hF.out]
    exact ⟨rfl, _, rfl⟩
  | true =>
    obtain ⟨hn1, hn2, hn3, hn4⟩ := nodeF_parts hnd
    have hqs : q < s.size := by omega
    obtain ⟨t, ht⟩ : ∃ t, (s[q]'hqs).toNat = t := ⟨_, rfl⟩
    have HT : Hid (byt s q = t) := by unfold Hid; rw [byt_in hqs, ht]
    rw [HT.out] at hn2 hn3 hn4
    obtain ⟨K, hK⟩ : ∃ K, onesF s q (2 ^ t) = K := ⟨_, rfl⟩
    obtain ⟨E, hE⟩ : ∃ E, entF s q = E := ⟨_, rfl⟩
    rw [hK, hE] at hn4
    have hF : Hid (goodF s e (n + 1) p b = (List.range K).all fun i => goodF s e n (E + 2 * i) (b - t)) := by
      unfold Hid; rw [goodF, HV.out, ← hq, hnd, HT.out, hK, hE]; simp [show ¬ v ≤ 250 from hv, show 1002 ≤ v by omega]
    have HN : Hid (nodeF s q e b = true) := hnd
    have HK : Hid (onesF s q (2 ^ byt s q) = K) := by unfold Hid; rw [HT.out, hK]
    have HE : Hid (entF s q = E) := hE
    clear hnd hq hK hE
    go_enter Tryd.func78, Tryd.ntmps78
    go_wp2_with fail
    refine (two_any s p _ h0 h (by omega)).mono ?_
    rintro r w1 ⟨rfl, k, rfl⟩
    rw [Int.toNat_natCast, HV.out]
    go_wp2_with fail
    refine (lies_any s q e b _ (by omega) (by omega) (by omega) (by omega) hs (by omega) (by omega)).mono ?_
    rintro r w2 ⟨⟨x, y, ok, rfl, hok, hxy⟩, rfl⟩
    rw [Int.toNat_natCast, Int.toNat_natCast, Int.toNat_natCast, HN.out] at hok
    subst hok
    obtain ⟨rfl, rfl⟩ := hxy rfl
    rw [Int.toNat_natCast, HK.out, HE.out]
    go_wp2_with fail
    go_loopg [17] K (fun g x wr => ∃ i k : Nat, x = .int .i64 i ∧ g + i = K ∧ wr = w.drewN k ∧ Hid (∀ j, j < i → goodF s e n (E + 2 * j) (b - t) = true))
    case atStart => exact ⟨0, _, rfl, by omega, rfl, fun j hj => by omega⟩
    case round =>
      obtain ⟨i, k, rfl, hgi, rfl, HA⟩ := hrel
      by_cases hlt : i < K
      · cases hg : goodF s e n (E + 2 * i) (b - t) with
        | true =>
          have HG : Hid (goodF s e n (E + 2 * i) (b - t) = true) := hg
          clear hg
          go_wp2_with fail
          refine (HI.out _ _ _ _ (by omega) (by omega) (by omega) (by omega) (by have := HM.out; omega)).mono ?_
          rintro r w3 ⟨rfl, k3, rfl⟩
          rw [show ((E : Int) + 2 * (i : Int)).toNat = E + 2 * i from by omega, show ((b : Int) - (t : Int)).toNat = b - t from by omega, HG.out]
          go_wp2_with fail
          go_roundg (gk - 1)
          case measure => omega
          case rel =>
            refine ⟨i + 1, _, int_eq (by omega), by omega, rfl, ?_⟩
            intro j hj
            by_cases hji : j = i
            · subst hji; exact HG.out
            · exact HA.out j (by omega)
        | false =>
          have HG : Hid (goodF s e n (E + 2 * i) (b - t) = false) := hg
          clear hg
          go_wp2_with fail
          refine (HI.out _ _ _ _ (by omega) (by omega) (by omega) (by omega) (by have := HM.out; omega)).mono ?_
          rintro r w3 ⟨rfl, k3, rfl⟩
          rw [show ((E : Int) + 2 * (i : Int)).toNat = E + 2 * i from by omega, show ((b : Int) - (t : Int)).toNat = b - t from by omega, HG.out]
          go_wp2_with fail
          go_ret
          rw [hF.out]
          refine ⟨ret1 (bool_eq ?_), _, rfl⟩
          symm
          rw [List.all_eq_false]
          exact ⟨i, List.mem_range.2 hlt, by rw [HG.out]; simp⟩
      · go_wp2_with fail
        go_ret
        rw [hF.out]
        refine ⟨ret1 (bool_eq ?_), _, rfl⟩
        symm
        rw [List.all_eq_true]
        intro j hj
        exact HA.out j (by have := List.mem_range.1 hj; omega)

theorem good_any (s : ByteArray) (e : Nat) (hs : s.size ≤ 70000) (he : e ≤ s.size) : ∀ n, n ≤ 13 → GoodC s e n
  | 0, _ => good_zero s e hs
  | n + 1, h => good_succ s e n hs he (by omega) (good_any s e hs he n (by omega))

/-- The first two bytes. -/
theorem head_eq {s : ByteArray} (h : 10 ≤ s.size) : ((s.extract 0 2).toList == ([70, 73] : List UInt8)) = decide (byt s 0 = 70 ∧ byt s 1 = 73) := by
  have h0 : 0 < s.data.size := by show 0 < s.size; omega
  have h1 : 1 < s.data.size := by show 1 < s.size; omega
  have e0 : byt s 0 = s.data[0].toNat := byt_in (s := s) (k := 0) (by omega)
  have e1 : byt s 1 = s.data[1].toNat := byt_in (s := s) (k := 1) (by omega)
  have e : (s.extract 0 2).toList = [s.data[0], s.data[1]] := by
    rw [ByteArray.toList_eq]
    simp only [ByteArray.data_extract, Array.toList_extract, List.extract_eq_take_drop, List.drop_zero]
    refine List.ext_getElem? fun i => ?_
    match i with
    | 0 => simp
    | 1 => simp
    | i + 2 => simp; omega
  rw [e, e0, e1, Bool.eq_iff_iff, beq_iff_eq, decide_eq_true_eq]
  simp only [List.cons.injEq, and_true, ← UInt8.toNat_inj]
  rfl

theorem sum_int (s : ByteArray) (n : Int) (w : World) (h0 : 0 ≤ n) (h : n ≤ s.size) (hs : s.size ≤ 70000) :
    Calls Tryd.prog 77 #[.string s, .int .i64 n] w fun e w' => e = .returned (.int .i64 (sumF s n.toNat)) ∧ w' = w := by
  obtain ⟨n, rfl⟩ := Int.eq_ofNat_of_zero_le h0
  rw [Int.toNat_natCast]
  exact sum_any s n w (by omega) hs

set_option maxHeartbeats 2000000 in
theorem rgood_any (s : ByteArray) (w : World) (hm : s.size ≤ maxLen) :
    Calls Tryd.prog 53 #[.string s] w fun r w' => r = .returned (.bool (imgF s)) ∧ ∃ k, w' = w.drewN k := by
  unfold maxLen at hm
  by_cases h1 : 10 ≤ s.size
  · have hh := head_eq h1
    cases hhd : decide (byt s 0 = 70 ∧ byt s 1 = 73) with
    | false =>
      have hF : Hid (imgF s = false) := by unfold Hid imgF; rw [hhd]; simp
      rw [hhd] at hh
      clear hhd
      go_enter Tryd.func53, Tryd.ntmps53
      go_wp2_with fail
      go_ret
      rw [hF.out]
      exact ⟨rfl, 0, rfl⟩
    | true =>
      rw [hhd] at hh
      by_cases h2 : b2 s 4 = s.size
      · have hs : s.size ≤ 65535 := by rw [← h2]; exact b2_le (by omega)
        have h2b : ((b2 s 4 : Int) != (s.size : Int)) = false := by rw [bne_eq_false_iff_eq]; omega
        have i2 : 2 < s.size := by omega
        have i3 : 3 < s.size := by omega
        obtain ⟨W, hW⟩ : ∃ W, (s[2]'i2).toNat = W := ⟨_, rfl⟩
        obtain ⟨D, hD⟩ : ∃ D, (s[3]'i3).toNat = D := ⟨_, rfl⟩
        have hW2 : W < 256 := by rw [← hW]; exact (s[2]'i2).toNat_lt
        have hD2 : D < 256 := by rw [← hD]; exact (s[3]'i3).toNat_lt
        have e2 : byt s 2 = W := by rw [byt_in i2, hW]
        have e3 : byt s 3 = D := by rw [byt_in i3, hD]
        have hI : Hid (imgF s = (decide (1 ≤ W ∧ W ≤ 12 ∧ D ≤ W) && decide (sumF s (s.size - 2) = b2 s (s.size - 2)) && goodF s (s.size - 2) D 6 W)) := by
          unfold Hid imgF; rw [hhd, e2, e3, h2]; simp [h1]
        clear hhd e2 e3 h2
        by_cases h3 : 1 ≤ W ∧ W ≤ 12 ∧ D ≤ W
        · obtain ⟨h31, h32, h33⟩ := h3
          by_cases h4 : sumF s (s.size - 2) = b2 s (s.size - 2)
          · have hsb : ((sumF s (s.size - 2) : Int) != (b2 s (s.size - 2) : Int)) = false := by rw [bne_eq_false_iff_eq]; omega
            have H4 : Hid (sumF s (s.size - 2) = b2 s (s.size - 2)) := h4
            clear h4
            go_enter Tryd.func53, Tryd.ntmps53
            go_wp2_with fail
            refine (two_any s 4 _ (by omega) (by omega) (by omega)).mono ?_
            rintro r w1 ⟨rfl, k1, rfl⟩
            rw [show (4 : Int).toNat = 4 from rfl]
            go_wp2_with fail
            refine (sum_int s _ _ (by omega) (by omega) (by omega)).mono ?_
            rintro r w2 ⟨rfl, rfl⟩
            rw [show ((s.size : Int) - 2).toNat = s.size - 2 from by omega]
            go_wp2_with fail
            refine (two_any s _ _ (by omega) (by omega) (by omega)).mono ?_
            rintro r w3 ⟨rfl, k3, rfl⟩
            rw [show ((s.size : Int) - 2).toNat = s.size - 2 from by omega]
            go_wp2_with fail
            rw [show ((s.size : Int) - 2) = ((s.size - 2 : Nat) : Int) from by omega]
            refine (good_any s (s.size - 2) (by omega) (by omega) D (by omega) 6 W D _ (by omega) (by omega) (by omega) (by omega) rfl).mono ?_
            rintro r w4 ⟨rfl, k4, rfl⟩
            rw [show (6 : Int).toNat = 6 from rfl, Int.toNat_natCast]
            go_wp2_with fail
            go_ret
            rw [hI.out, H4.out]
            refine ⟨ret1 (bool_eq ?_), _, rfl⟩
            simp [h31, h32, h33]
          · have hsb : ((sumF s (s.size - 2) : Int) != (b2 s (s.size - 2) : Int)) = true := by rw [bne_iff_ne]; omega
            have HF : Hid (imgF s = false) := by unfold Hid; rw [hI.out]; simp [h4]
            clear h4
            go_enter Tryd.func53, Tryd.ntmps53
            go_wp2_with fail
            refine (two_any s 4 _ (by omega) (by omega) (by omega)).mono ?_
            rintro r w1 ⟨rfl, k1, rfl⟩
            rw [show (4 : Int).toNat = 4 from rfl]
            go_wp2_with fail
            refine (sum_int s _ _ (by omega) (by omega) (by omega)).mono ?_
            rintro r w2 ⟨rfl, rfl⟩
            rw [show ((s.size : Int) - 2).toNat = s.size - 2 from by omega]
            go_wp2_with fail
            refine (two_any s _ _ (by omega) (by omega) (by omega)).mono ?_
            rintro r w3 ⟨rfl, k3, rfl⟩
            rw [show ((s.size : Int) - 2).toNat = s.size - 2 from by omega]
            go_wp2_with fail
            go_ret
            rw [HF.out]
            exact ⟨rfl, _, rfl⟩
        · have HF : Hid (imgF s = false) := by unfold Hid; rw [hI.out]; simp only [h3, decide_false, Bool.false_and]
          by_cases h31 : 1 ≤ W
          · by_cases h32 : W ≤ 12
            · have h33 : ¬ D ≤ W := fun h => h3 ⟨h31, h32, h⟩
              have g1 : decide ((W : Int) < 1) = false := by rw [decide_eq_false_iff_not]; omega
              have g2 : decide ((12 : Int) < (W : Int)) = false := by rw [decide_eq_false_iff_not]; omega
              have g3 : decide (W < D) = true := by rw [decide_eq_true_eq]; omega
              clear h3
              go_enter Tryd.func53, Tryd.ntmps53
              go_wp2_with fail
              refine (two_any s 4 _ (by omega) (by omega) (by omega)).mono ?_
              rintro r w1 ⟨rfl, k1, rfl⟩
              rw [show (4 : Int).toNat = 4 from rfl]
              go_wp2_with fail
              go_ret
              rw [HF.out]
              exact ⟨rfl, _, rfl⟩
            · have g1 : decide ((W : Int) < 1) = false := by rw [decide_eq_false_iff_not]; omega
              have g2 : decide ((12 : Int) < (W : Int)) = true := by rw [decide_eq_true_eq]; omega
              clear h3
              go_enter Tryd.func53, Tryd.ntmps53
              go_wp2_with fail
              refine (two_any s 4 _ (by omega) (by omega) (by omega)).mono ?_
              rintro r w1 ⟨rfl, k1, rfl⟩
              rw [show (4 : Int).toNat = 4 from rfl]
              go_wp2_with fail
              go_ret
              rw [HF.out]
              exact ⟨rfl, _, rfl⟩
          · clear h3
            go_enter Tryd.func53, Tryd.ntmps53
            go_wp2_with fail
            refine (two_any s 4 _ (by omega) (by omega) (by omega)).mono ?_
            rintro r w1 ⟨rfl, k1, rfl⟩
            rw [show (4 : Int).toNat = 4 from rfl]
            go_wp2_with fail
            go_ret
            rw [HF.out]
            exact ⟨rfl, _, rfl⟩
      · have h2b : ((b2 s 4 : Int) != (s.size : Int)) = true := by rw [bne_iff_ne]; omega
        have HF : Hid (imgF s = false) := by unfold Hid imgF; simp [h2]
        clear hhd h2
        go_enter Tryd.func53, Tryd.ntmps53
        go_wp2_with fail
        refine (two_any s 4 _ (by omega) (by omega) (by omega)).mono ?_
        rintro r w1 ⟨rfl, k1, rfl⟩
        rw [show (4 : Int).toNat = 4 from rfl]
        go_wp2_with fail
        go_ret
        rw [HF.out]
        exact ⟨rfl, _, rfl⟩
  · have hF : Hid (imgF s = false) := by unfold Hid imgF; simp [h1]
    go_enter Tryd.func53, Tryd.ntmps53
    go_wp2_with fail
    go_ret
    rw [hF.out]
    exact ⟨rfl, 0, rfl⟩

/-- P8's answer, by the document. -/
theorem rload_any (s : ByteArray) (w : World) (hm : s.size ≤ maxLen) :
    Calls Tryd.prog 33 #[.string s] w fun r w' => r = .returned (.int .i64 (if imgF s = true then 0 else 6)) ∧ ∃ k, w' = w.drewN k := by
  cases h : imgF s with
  | true =>
    have H : Hid (imgF s = true) := h
    clear h
    rw [if_pos rfl]
    go_enter Tryd.func33, Tryd.ntmps33
    go_wp2_with fail
    refine (rgood_any s _ hm).mono ?_
    rintro r w1 ⟨rfl, k1, rfl⟩
    rw [H.out]
    go_wp2_with fail
    go_ret
    exact ⟨rfl, _, rfl⟩
  | false =>
    have H : Hid (imgF s = false) := h
    clear h
    rw [if_neg (by simp)]
    go_enter Tryd.func33, Tryd.ntmps33
    go_wp2_with fail
    refine (rgood_any s _ hm).mono ?_
    rintro r w1 ⟨rfl, k1, rfl⟩
    rw [H.out]
    go_wp2_with fail
    go_ret
    exact ⟨rfl, _, rfl⟩
end Go.Proofs.YtdfnmpmmkcpddaaDoor
