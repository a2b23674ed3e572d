/- The walks of the program's images: a node. -/
import Derived.Test.YtdfnmpmmkcpddaaDoorGoA
namespace Go.Proofs.YtdfnmpmmkcpddaaDoor
open Go.RowKit

/-- The node that is read at p, and none. -/
def nodeV (s : ByteArray) (p : Nat) : Value := .agg #[.int .i64 (byt s p), .string (s.extract (p + 1) (entF s p)), .int .i64 (entF s p), .int .i64 (onesF s p (2 ^ byt s p))]
def noNode : Value := .agg #[.int .i64 0, .string ⟨#[]⟩, .int .i64 0, .int .i64 0]
def readV (s : ByteArray) (p b : Nat) : Value := if nodeF s p s.size b = true then nodeV s p else noNode
theorem readV_no {s : ByteArray} {p b : Nat} (h : nodeF s p s.size b = false) : readV s p b = noNode := by unfold readV; rw [h]; simp
theorem readV_yes {s : ByteArray} {p b : Nat} (h : nodeF s p s.size b = true) : readV s p b = nodeV s p := by unfold readV; rw [h]; simp

set_option maxHeartbeats 1000000 in
theorem readNode_any (s : ByteArray) (p b : Int) (w : World) (h0 : 0 ≤ p) (hp : p ≤ 200000) (hs : s.size ≤ 70000) (hb0 : 0 ≤ b) (hb : b ≤ 12) :
    Calls Tryd.prog 71 #[.string s, .int .i64 p, .int .i64 b] w fun r w' => r = .returned (readV s p.toNat b.toNat) ∧ Below w.heap.size w w' := by
  obtain ⟨p, rfl⟩ := Int.eq_ofNat_of_zero_le h0
  obtain ⟨b, rfl⟩ := Int.eq_ofNat_of_zero_le hb0
  rw [Int.toNat_natCast, Int.toNat_natCast]
  obtain ⟨t, ht⟩ : ∃ t, bz s p = t := ⟨_, rfl⟩
  have HB : Hid (bz s p = t) := ht
  have htl : t < 256 := by rw [← ht]; exact bz_lt _ _
  by_cases h2 : 1 ≤ t ∧ t ≤ b
  · obtain ⟨h21, h22⟩ := h2
    have hpi : p < s.size := by
      by_cases h : p < s.size
      · exact h
      · rw [bz_out h] at ht; omega
    have HT : Hid (byt s p = t) := by unfold Hid; rw [← bz_in hpi, ht]
    obtain ⟨P, hP⟩ : ∃ P : Nat, P = 2 ^ t := ⟨_, rfl⟩
    obtain ⟨hpw, hP1, hP2⟩ := pow_st h21 (show t ≤ 12 by omega)
    rw [← hP] at hpw hP1 hP2
    have HP : Hid (2 ^ byt s p = P) := by unfold Hid; rw [HT.out, hP]
    have HE : Hid (entF s p = p + 1 + (P + 7) / 8) := by unfold Hid entF; rw [HP.out]
    have HN : Hid (nodeF s p s.size b = (decide (p + 1 + (P + 7) / 8 ≤ s.size) && setF s p 0 && spareF s p (8 - P) P && decide (p + 1 + (P + 7) / 8 + 2 * onesF s p P ≤ s.size))) := by
      unfold Hid nodeF; rw [HE.out, HP.out, HT.out]; simp [hpi, h21, h22]
    have HS : Hid (onesF s p (8 * ((P + 7) / 8)) = onesF s p P ↔ spareF s p (8 - P) P = true) := by
      unfold Hid; rw [hP]; exact spare_all s p t
    obtain ⟨M, hM⟩ : ∃ M : Nat, (P + 7) / 8 = M := ⟨_, rfl⟩
    have hMi : ((P : Int) + 7) / 8 = (M : Int) := by omega
    have hM8 : P ≤ 8 * M := by omega
    have hM9 : M ≤ 513 := by omega
    have hM1 : 1 ≤ M := by omega
    rw [hM] at HE HN HS
    clear hP ht hM
    by_cases h3 : p + 1 + M ≤ s.size
    · obtain ⟨u, hu⟩ : ∃ u, s.extract (p + 1) (p + 1 + M) = u := ⟨_, rfl⟩
      have hus : u.size = M := by rw [← hu, ByteArray.size_extract]; omega
      have HC : Hid (∀ n, n ≤ 8 * M → crF u n = onesF s p n) := by unfold Hid; intro n hn; rw [← hu]; exact crF_ones h3 n hn
      have HU : Hid (s.extract (p + 1) (entF s p) = u) := by unfold Hid; rw [HE.out, hu]
      obtain ⟨c, hc⟩ : ∃ c, onesF s p P = c := ⟨_, rfl⟩
      have hcP : c ≤ P := by rw [← hc]; exact onesF_le _ _ _
      obtain ⟨c1, hc1⟩ : ∃ c, onesF s p 1 = c := ⟨_, rfl⟩
      obtain ⟨c8, hc8⟩ : ∃ c, onesF s p (8 * M) = c := ⟨_, rfl⟩
      have HC0 : Hid (onesF s p P = c) := hc
      have HC1 : Hid (onesF s p 1 = c1) := hc1
      have HC8 : Hid (onesF s p (8 * M) = c8) := hc8
      have hc8l : c8 ≤ 8 * M := by rw [← hc8]; exact onesF_le _ _ _
      clear hc hc1 hc8
      by_cases h4 : p + 1 + M + 2 * c ≤ s.size
      · by_cases h5 : c1 = 1
        · by_cases h6 : c8 = c
          · have hY : Hid (nodeF s p s.size b = true) := by
              have a1 := HC1.out
              rw [ones_one, h5] at a1
              have a2 : setF s p 0 = true := by
                by_cases h : setF s p 0 = true
                · exact h
                · rw [if_neg h] at a1; omega
              have a3 := HS.out.1 (by rw [HC8.out, HC0.out, h6])
              unfold Hid; rw [HN.out, a2, a3, HC0.out]; simp [h3, h4]
            subst h5 h6
            go_enter Tryd.func71, Tryd.ntmps71
            go_wp2_with fail
            refine (byteAt_any s p _ (by omega)).mono ?_
            rintro r w1 ⟨rfl, rfl⟩
            rw [Int.toNat_natCast, HB.out]
            go_wp2_with fail
            refine (countRuns_any u P _ (by omega) (by omega)).mono ?_
            rintro r w1 ⟨rfl, rfl⟩
            rw [Int.toNat_natCast, HC.out P (by omega), HC0.out]
            go_wp2_with fail
            refine (countRuns_any u 1 _ (by omega) (by omega)).mono ?_
            rintro r w1 ⟨rfl, rfl⟩
            rw [show (1 : Int).toNat = 1 from rfl, HC.out 1 (by omega), HC1.out]
            go_wp2_with fail
            refine (countRuns_any u (8 * M) _ (by omega) (by omega)).mono ?_
            rintro r w1 ⟨rfl, rfl⟩
            rw [show (8 * (M : Int)).toNat = 8 * M from by omega, HC.out (8 * M) (by omega), HC8.out]
            go_wp2_with fail
            rw [readV_yes hY.out, nodeV, HU.out, HP.out, HC0.out, HE.out, HT.out]
            refine bodyPost_ret (v := .agg #[.int .i64 t, .string u, .int .i64 (p + 1 + M : Nat), .int .i64 c8]) (by simp [results, Tryd.results71, go_sem]) rfl ⟨rfl, ?_⟩
            exact (Below.refl _ _).alloc (Nat.le_refl _) _
          · have hY : Hid (nodeF s p s.size b = false) := by
              have a3 : spareF s p (8 - P) P = false := by
                cases h : spareF s p (8 - P) P with
                | false => rfl
                | true => exact absurd (by have := HS.out.2 h; rw [HC8.out, HC0.out] at this; exact this) h6
              unfold Hid; rw [HN.out, a3]; simp
            have h6b : ((c8 : Int) == (c : Int)) = false := by rw [beq_eq_false_iff_ne]; omega
            subst h5
            clear h6
            go_enter Tryd.func71, Tryd.ntmps71
            go_wp2_with fail
            refine (byteAt_any s p _ (by omega)).mono ?_
            rintro r w1 ⟨rfl, rfl⟩
            rw [Int.toNat_natCast, HB.out]
            go_wp2_with fail
            refine (countRuns_any u P _ (by omega) (by omega)).mono ?_
            rintro r w1 ⟨rfl, rfl⟩
            rw [Int.toNat_natCast, HC.out P (by omega), HC0.out]
            go_wp2_with fail
            refine (countRuns_any u 1 _ (by omega) (by omega)).mono ?_
            rintro r w1 ⟨rfl, rfl⟩
            rw [show (1 : Int).toNat = 1 from rfl, HC.out 1 (by omega), HC1.out]
            go_wp2_with fail
            refine (countRuns_any u (8 * M) _ (by omega) (by omega)).mono ?_
            rintro r w1 ⟨rfl, rfl⟩
            rw [show (8 * (M : Int)).toNat = 8 * M from by omega, HC.out (8 * M) (by omega), HC8.out]
            go_wp2_with fail
            rw [readV_no hY.out, noNode]
            refine bodyPost_ret (v := .agg #[.int .i64 0, .string ⟨#[]⟩, .int .i64 0, .int .i64 0]) (by simp [results, Tryd.results71, go_sem]) rfl ⟨rfl, ?_⟩
            exact (Below.refl _ _).alloc (Nat.le_refl _) _
        · have hY : Hid (nodeF s p s.size b = false) := by
            have a1 := HC1.out
            have a2 : setF s p 0 = false := by
              cases h : setF s p 0 with
              | false => rfl
              | true => exact absurd (by rw [ones_one, if_pos h] at a1; exact a1.symm) h5
            unfold Hid; rw [HN.out, a2]; simp
          have h5b : ((c1 : Int) == 1) = false := by rw [beq_eq_false_iff_ne]; omega
          clear h5
          go_enter Tryd.func71, Tryd.ntmps71
          go_wp2_with fail
          refine (byteAt_any s p _ (by omega)).mono ?_
          rintro r w1 ⟨rfl, rfl⟩
          rw [Int.toNat_natCast, HB.out]
          go_wp2_with fail
          refine (countRuns_any u P _ (by omega) (by omega)).mono ?_
          rintro r w1 ⟨rfl, rfl⟩
          rw [Int.toNat_natCast, HC.out P (by omega), HC0.out]
          go_wp2_with fail
          refine (countRuns_any u 1 _ (by omega) (by omega)).mono ?_
          rintro r w1 ⟨rfl, rfl⟩
          rw [show (1 : Int).toNat = 1 from rfl, HC.out 1 (by omega), HC1.out]
          go_wp2_with fail
          refine (countRuns_any u (8 * M) _ (by omega) (by omega)).mono ?_
          rintro r w1 ⟨rfl, rfl⟩
          rw [show (8 * (M : Int)).toNat = 8 * M from by omega, HC.out (8 * M) (by omega), HC8.out]
          go_wp2_with fail
          rw [readV_no hY.out, noNode]
          refine bodyPost_ret (v := .agg #[.int .i64 0, .string ⟨#[]⟩, .int .i64 0, .int .i64 0]) (by simp [results, Tryd.results71, go_sem]) rfl ⟨rfl, ?_⟩
          exact (Below.refl _ _).alloc (Nat.le_refl _) _
      · have hY : Hid (nodeF s p s.size b = false) := by unfold Hid; rw [HN.out, HC0.out]; simp [h4]
        go_enter Tryd.func71, Tryd.ntmps71
        go_wp2_with fail
        refine (byteAt_any s p _ (by omega)).mono ?_
        rintro r w1 ⟨rfl, rfl⟩
        rw [Int.toNat_natCast, HB.out]
        go_wp2_with fail
        refine (countRuns_any u P _ (by omega) (by omega)).mono ?_
        rintro r w1 ⟨rfl, rfl⟩
        rw [Int.toNat_natCast, HC.out P (by omega), HC0.out]
        go_wp2_with fail
        rw [readV_no hY.out, noNode]
        refine bodyPost_ret (v := .agg #[.int .i64 0, .string ⟨#[]⟩, .int .i64 0, .int .i64 0]) (by simp [results, Tryd.results71, go_sem]) rfl ⟨rfl, ?_⟩
        exact (Below.refl _ _).alloc (Nat.le_refl _) _
    · have hY : Hid (nodeF s p s.size b = false) := by unfold Hid; rw [HN.out]; simp [h3]
      go_enter Tryd.func71, Tryd.ntmps71
      go_wp2_with fail
      refine (byteAt_any s p _ (by omega)).mono ?_
      rintro r w1 ⟨rfl, rfl⟩
      rw [Int.toNat_natCast, HB.out]
      go_wp2_with fail
      rw [readV_no hY.out, noNode]
      refine bodyPost_ret (v := .agg #[.int .i64 0, .string ⟨#[]⟩, .int .i64 0, .int .i64 0]) (by simp [results, Tryd.results71, go_sem]) rfl ⟨rfl, ?_⟩
      exact (Below.refl _ _).alloc (Nat.le_refl _) _
  · have hY : Hid (nodeF s p s.size b = false) := by
      unfold Hid nodeF
      by_cases h : p < s.size
      · rw [← bz_in h, HB.out]; simp [h2]
      · simp [h]
    by_cases h21 : 1 ≤ t
    · have h22 : ¬ t ≤ b := fun h => h2 ⟨h21, h⟩
      clear h2 ht
      go_enter Tryd.func71, Tryd.ntmps71
      go_wp2_with fail
      refine (byteAt_any s p _ (by omega)).mono ?_
      rintro r w1 ⟨rfl, rfl⟩
      rw [Int.toNat_natCast, HB.out]
      go_wp2_with fail
      rw [readV_no hY.out, noNode]
      refine bodyPost_ret (v := .agg #[.int .i64 0, .string ⟨#[]⟩, .int .i64 0, .int .i64 0]) (by simp [results, Tryd.results71, go_sem]) rfl ⟨rfl, ?_⟩
      exact (Below.refl _ _).alloc (Nat.le_refl _) _
    · clear h2 ht
      go_enter Tryd.func71, Tryd.ntmps71
      go_wp2_with fail
      refine (byteAt_any s p _ (by omega)).mono ?_
      rintro r w1 ⟨rfl, rfl⟩
      rw [Int.toNat_natCast, HB.out]
      go_wp2_with fail
      rw [readV_no hY.out, noNode]
      refine bodyPost_ret (v := .agg #[.int .i64 0, .string ⟨#[]⟩, .int .i64 0, .int .i64 0]) (by simp [results, Tryd.results71, go_sem]) rfl ⟨rfl, ?_⟩
      exact (Below.refl _ _).alloc (Nat.le_refl _) _
end Go.Proofs.YtdfnmpmmkcpddaaDoor
