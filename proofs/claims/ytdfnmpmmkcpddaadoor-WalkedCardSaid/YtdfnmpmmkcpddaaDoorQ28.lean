import Derived.Test.YtdfnmpmmkcpddaaDoorQ19
import Derived.Test.YtdfnmpmmkcpddaaDoorQ16
import Derived.Test.YtdfnmpmmkcpddaaDoorQ25
/- Cost: the law's step. -/
namespace Go.Proofs.YtdfnmpmmkcpddaaDoor
open Go.RowKit

theorem tables_cost (W D L A : Int) (s : ByteArray) (w : World) (hm : s.size ≤ maxLen) :
    Calls Tryd.prog 31 #[opV 4 W D L A s] w fun e w' => e = .returned (.bool true) ∧ Below w.heap.size w w' := by
  unfold opV
  go_enter Tryd.func31, Tryd.ntmps31
  go_wp2_with fail
  refine (cost_fib s W D _ hm).mono ?_
  rintro e w1 ⟨rfl, hb1⟩
  obtain ⟨hc, _⟩ := bcell hb1
  have hz : w.heap.size < w1.heap.size := by have := hb1.size; simp at this; omega
  go_wp2_with fail
  refine (rcost_any s W D _ hm).mono ?_
  rintro e w2 ⟨rfl, hb2⟩
  go_wp2_with (go_at_call 25; refine (num_any _ _).mono ?_; rintro e w3 ⟨rfl, rfl⟩)
  go_ret
  refine ⟨rfl, ?_⟩
  have h1 : Below w.heap.size w w1 := ((Below.refl _ _).alloc (Nat.le_refl _) _).trans (hb1.mono (by simp))
  exact h1.trans (hb2.mono (by omega))

theorem plays_cost : Plays 4 4 := by
  intro k W D L A s w h1 h2 hm _ _ _ _ hE
  obtain rfl : k = 4 := by omega
  exact plays_tab 4 W D L A s w (.inr (.inr (.inr rfl))) hE fun w _ => tables_cost W D L A s w hm

theorem costs_any (ao : Option Addr) (len cap : Nat) (w : World) (hs : Script w ao len) (hE : Env w) :
    Calls Tryd.prog 6 #[.slice ao len cap] w fun e w' => e = .returned (.bool true) ∧ Below w.heap.size w w' := by
  have HS : Hid (Script w ao len) := hs
  clear hs
  go_enter Tryd.func6, Tryd.ntmps6
  go_wp2_with fail
  refine (upTo_any 4 4 ao len cap _ plays_cost hE HS.out).mono ?_
  rintro e w1 ⟨rfl, hb1⟩
  go_wp2_with fail
  go_ret
  exact ⟨rfl, hb1⟩
end Go.Proofs.YtdfnmpmmkcpddaaDoor
/- The walks of the program's images: bytes, numbers, runs, the sum. -/
namespace Go.Proofs.YtdfnmpmmkcpddaaDoor
open Go.RowKit

theorem byteAt_any (s : ByteArray) (i : Int) (w : World) (h0 : 0 ≤ i) :
    Calls Tryd.prog 43 #[.string s, .int .i64 i] w fun e w' => e = .returned (.int .i64 (bz s i.toNat)) ∧ w' = w := by
  obtain ⟨p, rfl⟩ := Int.eq_ofNat_of_zero_le h0
  rw [Int.toNat_natCast]
  by_cases h : p < s.size
  · have HB : Hid (bz s p = (s[p]'h).toNat) := by unfold Hid; rw [bz_in h, byt_in h]
    have hq : (p : Int) < (s.size : Int) := by omega
    have hc := (s[p]'h).toNat_lt
    go_enter Tryd.func43, Tryd.ntmps43
    go_wp2_with fail
    go_ret
    exact ⟨ret1 (int_eq (by rw [HB.out])), rfl⟩
  · have HB : Hid (bz s p = 0) := bz_out h
    have hq : (s.size : Int) ≤ (p : Int) := by omega
    go_enter Tryd.func43, Tryd.ntmps43
    go_wp2_with fail
    go_ret
    exact ⟨ret1 (int_eq (by rw [HB.out]; rfl)), rfl⟩

theorem numberAt_any (s : ByteArray) (i : Int) (w : World) (h0 : 0 ≤ i) (h : i ≤ 9223372036854775806) :
    Calls Tryd.prog 68 #[.string s, .int .i64 i] w fun e w' => e = .returned (.int .i64 (nz s i.toNat)) ∧ w' = w := by
  have h1 := bz_lt s i.toNat
  have h2 := bz_lt s (i.toNat + 1)
  go_enter Tryd.func68, Tryd.ntmps68
  go_wp2_with fail
  refine (byteAt_any s i _ h0).mono ?_
  rintro e w1 ⟨rfl, rfl⟩
  go_wp2_with fail
  refine (byteAt_any s (i + 1) _ (by omega)).mono ?_
  rintro e w1 ⟨rfl, rfl⟩
  rw [show (i + 1).toNat = i.toNat + 1 from by omega]
  go_wp2_with fail
  go_ret
  exact ⟨ret1 (int_eq (by unfold nz; omega)), rfl⟩

theorem byteAt_neg (s : ByteArray) (i : Int) (w : World) (h0 : i < 0) :
    Calls Tryd.prog 43 #[.string s, .int .i64 i] w fun e w' => e = .returned (.int .i64 0) ∧ w' = w := by
  go_enter Tryd.func43, Tryd.ntmps43
  go_wp2_with fail
  go_ret
  exact ⟨rfl, rfl⟩
theorem numberAt_neg (s : ByteArray) (i : Int) (w : World) (h0 : i < -1) (h1 : -9223372036854775808 ≤ i) :
    Calls Tryd.prog 68 #[.string s, .int .i64 i] w fun e w' => e = .returned (.int .i64 0) ∧ w' = w := by
  go_enter Tryd.func68, Tryd.ntmps68
  go_wp2_with fail
  refine (byteAt_neg s i _ (by omega)).mono ?_
  rintro e w1 ⟨rfl, rfl⟩
  go_wp2_with fail
  refine (byteAt_neg s (i + 1) _ (by omega)).mono ?_
  rintro e w1 ⟨rfl, rfl⟩
  go_wp2_with fail
  go_ret
  exact ⟨rfl, rfl⟩
theorem numberAt_top (s : ByteArray) (w : World) (h : s.size ≤ 9223372036854775807) :
    Calls Tryd.prog 68 #[.string s, .int .i64 9223372036854775807] w fun e w' => e = .returned (.int .i64 0) ∧ w' = w := by
  have HZ : Hid (bz s 9223372036854775807 = 0) := bz_out (by omega)
  have hw : wrap64 9223372036854775808 = -9223372036854775808 := by unfold wrap64; decide
  go_enter Tryd.func68, Tryd.ntmps68
  go_wp2_with fail
  refine (byteAt_any s 9223372036854775807 _ (by omega)).mono ?_
  rintro e w1 ⟨rfl, rfl⟩
  rw [show (9223372036854775807 : Int).toNat = 9223372036854775807 from rfl, HZ.out]
  go_wp2_with fail
  rw [hw]
  refine (byteAt_neg s (-9223372036854775808) _ (by omega)).mono ?_
  rintro e w1 ⟨rfl, rfl⟩
  go_wp2_with fail
  go_ret
  exact ⟨rfl, rfl⟩

theorem countRuns_any (r : ByteArray) (n : Int) (w : World) (hn0 : 0 ≤ n) (hn : n ≤ 100000) :
    Calls Tryd.prog 72 #[.string r, .int .i64 n] w fun e w' => e = .returned (.int .i64 (crF r n.toNat)) ∧ w' = w := by
  obtain ⟨n, rfl⟩ := Int.eq_ofNat_of_zero_le hn0
  rw [Int.toNat_natCast]
  go_enter Tryd.func72, Tryd.ntmps72
  go_wp2_with fail
  go_loopg [5, 6] n (fun g x y wr => ∃ i k : Nat, wr = w ∧ x = .int .i64 k ∧ y = .int .i64 i ∧ g + i = n ∧ k ≤ i ∧ Hid (k = crF r i))
  case atStart => exact ⟨0, 0, rfl, rfl, rfl, by omega, by omega, rfl⟩
  case round =>
    obtain ⟨i, k, rfl, rfl, rfl, hg, hk, HK⟩ := hrel
    by_cases hlt : i < n
    · obtain ⟨c, hc⟩ : ∃ c, bz r (i / 8) = c := ⟨_, rfl⟩
      have hcl : c < 256 := by rw [← hc]; exact bz_lt _ _
      have HC : Hid (bz r (i / 8) = c) := hc
      clear hc
      have hb : Go.bits BinOp.and IntKind.i64 ((c : Int) / 2 ^ (i % 8)) 1 = ((c / 2 ^ (i % 8) % 2 : Nat) : Int) := by
        rw [i64_and1, Int.natCast_emod, Int.natCast_ediv, Int.natCast_pow]; rfl
      obtain ⟨d, hd⟩ : ∃ d, c / 2 ^ (i % 8) % 2 = d := ⟨_, rfl⟩
      rw [hd] at hb
      have hd1 : d ≤ 1 := by omega
      have HD : Hid (c / 2 ^ (i % 8) % 2 = d) := hd
      clear hd
      go_wp2_with fail
      refine (byteAt_any r ((i / 8 : Nat) : Int) _ (by omega)).mono ?_
      rintro e w1 ⟨rfl, rfl⟩
      rw [Int.toNat_natCast, HC.out]
      go_wp2_with fail
      go_roundg (gk - 1)
      case measure => omega
      case rel => exact ⟨i + 1, k + d, rfl, int_eq (by omega), int_eq (by omega), by omega, by omega, by unfold Hid; rw [crF, HC.out, HD.out, ← HK.out]⟩
    · go_wp2_with fail
      go_ret
      have : i = n := by omega
      subst this
      exact ⟨ret1 (int_eq (by rw [HK.out])), rfl⟩

theorem sumOf_any (s : ByteArray) (w : World) (hs : s.size ≤ 70000) :
    Calls Tryd.prog 67 #[.string s] w fun e w' => e = .returned (.int .i64 (sumF s s.size)) ∧ w' = w := by
  go_enter Tryd.func67, Tryd.ntmps67
  go_wp2_with fail
  go_loopg [3, 4] s.size (fun g x y wr => ∃ i t : Nat, wr = w ∧ x = .int .i64 t ∧ y = .int .i64 i ∧ g + i = s.size ∧ t < 65521 ∧ Hid (t = sumF s i))
  case atStart => exact ⟨0, 0, rfl, rfl, rfl, by omega, by omega, rfl⟩
  case round =>
    obtain ⟨i, t, rfl, rfl, rfl, hg, ht, HT⟩ := hrel
    by_cases hlt : i < s.size
    · have hc := (s[i]'hlt).toNat_lt
      have HC : Hid (byt s i = (s[i]'hlt).toNat) := byt_in hlt
      obtain ⟨m, hm⟩ : ∃ m : Nat, m = (i + 1) * ((s[i]'hlt).toNat + 1) := ⟨_, rfl⟩
      have hmle : m ≤ 70000 * 256 := by rw [hm]; exact Nat.mul_le_mul (by omega) (by omega)
      have hmi : ((i : Int) + 1) * (((s[i]'hlt).toNat : Int) + 1) = (m : Int) := by rw [hm]; simp
      have HM : Hid (m = (i + 1) * ((s[i]'hlt).toNat + 1)) := hm
      clear hm
      go_wp2_with fail
      go_roundg (gk - 1)
      case measure => omega
      case rel => exact ⟨i + 1, (t + m) % 65521, rfl, int_eq (by omega), int_eq (by omega), by omega, by omega, by unfold Hid; rw [sumF, ← HT.out, HC.out, ← HM.out]⟩
    · go_wp2_with fail
      go_ret
      have : i = s.size := by omega
      subst this
      exact ⟨ret1 (int_eq (by rw [HT.out])), rfl⟩
end Go.Proofs.YtdfnmpmmkcpddaaDoor
/- The walks of the program's images: a node. -/
namespace Go.Proofs.YtdfnmpmmkcpddaaDoor
open Go.RowKit

/-- The node that is read at p, and none. -/
def nodeV (s : ByteArray) (p : Nat) : Value := .agg #[.int .i64 (byt s p), .string (s.extract (p + 1) (entF s p)), .int .i64 (entF s p), .int .i64 (onesF s p (2 ^ byt s p))]
def noNode : Value := .agg #[.int .i64 0, .string ⟨#[]⟩, .int .i64 0, .int .i64 0]
def readV (s : ByteArray) (p b : Nat) : Value := if nodeF s p s.size b = true then nodeV s p else noNode
theorem readV_no {s : ByteArray} {p b : Nat} (h : nodeF s p s.size b = false) : readV s p b = noNode := by unfold readV; rw [h]; simp
theorem readV_yes {s : ByteArray} {p b : Nat} (h : nodeF s p s.size b = true) : readV s p b = nodeV s p := by unfold readV; rw [h]; simp

set_option maxHeartbeats 1000000 in
theorem readNode_any (s : ByteArray) (p b : Int) (w : World) (h0 : 0 ≤ p) (hp : p ≤ 200000) (hs : s.size ≤ 70000) (hb0 : 0 ≤ b) (hb : b ≤ 12) :
    Calls Tryd.prog 71 #[.string s, .int .i64 p, .int .i64 b] w fun r w' => r = .returned (readV s p.toNat b.toNat) ∧ Below w.heap.size w w' := by
  obtain ⟨p, rfl⟩ := Int.eq_ofNat_of_zero_le h0
  obtain ⟨b, rfl⟩ := Int.eq_ofNat_of_zero_le hb0
  rw [Int.toNat_natCast, Int.toNat_natCast]
  obtain ⟨t, ht⟩ : ∃ t, bz s p = t := ⟨_, rfl⟩
  have HB : Hid (bz s p = t) := ht
  have htl : t < 256 := by rw [← ht]; exact bz_lt _ _
  by_cases h2 : 1 ≤ t ∧ t ≤ b
  · obtain ⟨h21, h22⟩ := h2
    have hpi : p < s.size := by
      by_cases h : p < s.size
      · exact h
      · rw [bz_out h] at ht; omega
    have HT : Hid (byt s p = t) := by unfold Hid; rw [← bz_in hpi, ht]
    obtain ⟨P, hP⟩ : ∃ P : Nat, P = 2 ^ t := ⟨_, rfl⟩
    obtain ⟨hpw, hP1, hP2⟩ := pow_st h21 (show t ≤ 12 by omega)
    rw [← hP] at hpw hP1 hP2
    have HP : Hid (2 ^ byt s p = P) := by unfold Hid; rw [HT.out, hP]
    have HE : Hid (entF s p = p + 1 + (P + 7) / 8) := by unfold Hid entF; rw [HP.out]
    have HN : Hid (nodeF s p s.size b = (decide (p + 1 + (P + 7) / 8 ≤ s.size) && setF s p 0 && spareF s p (8 - P) P && decide (p + 1 + (P + 7) / 8 + 2 * onesF s p P ≤ s.size))) := by
      unfold Hid nodeF; rw [HE.out, HP.out, HT.out]; simp [hpi, h21, h22]
    have HS : Hid (onesF s p (8 * ((P + 7) / 8)) = onesF s p P ↔ spareF s p (8 - P) P = true) := by
      unfold Hid; rw [hP]; exact spare_all s p t
    obtain ⟨M, hM⟩ : ∃ M : Nat, (P + 7) / 8 = M := ⟨_, rfl⟩
    have hMi : ((P : Int) + 7) / 8 = (M : Int) := by omega
    have hM8 : P ≤ 8 * M := by omega
    have hM9 : M ≤ 513 := by omega
    have hM1 : 1 ≤ M := by omega
    rw [hM] at HE HN HS
    clear hP ht hM
    by_cases h3 : p + 1 + M ≤ s.size
    · obtain ⟨u, hu⟩ : ∃ u, s.extract (p + 1) (p + 1 + M) = u := ⟨_, rfl⟩
      have hus : u.size = M := by rw [← hu, ByteArray.size_extract]; omega
      have HC : Hid (∀ n, n ≤ 8 * M → crF u n = onesF s p n) := by unfold Hid; intro n hn; rw [← hu]; exact crF_ones h3 n hn
      have HU : Hid (s.extract (p + 1) (entF s p) = u) := by unfold Hid; rw [HE.out, hu]
      obtain ⟨c, hc⟩ : ∃ c, onesF s p P = c := ⟨_, rfl⟩
      have hcP : c ≤ P := by rw [← hc]; exact onesF_le _ _ _
      obtain ⟨c1, hc1⟩ : ∃ c, onesF s p 1 = c := ⟨_, rfl⟩
      obtain ⟨c8, hc8⟩ : ∃ c, onesF s p (8 * M) = c := ⟨_, rfl⟩
      have HC0 : Hid (onesF s p P = c) := hc
      have HC1 : Hid (onesF s p 1 = c1) := hc1
      have HC8 : Hid (onesF s p (8 * M) = c8) := hc8
      have hc8l : c8 ≤ 8 * M := by rw [← hc8]; exact onesF_le _ _ _
      clear hc hc1 hc8
      by_cases h4 : p + 1 + M + 2 * c ≤ s.size
      · by_cases h5 : c1 = 1
        · by_cases h6 : c8 = c
          · have hY : Hid (nodeF s p s.size b = true) := by
              have a1 := HC1.out
              rw [ones_one, h5] at a1
              have a2 : setF s p 0 = true := by
                by_cases h : setF s p 0 = true
                · exact h
                · rw [if_neg h] at a1; omega
              have a3 := HS.out.1 (by rw [HC8.out, HC0.out, h6])
              unfold Hid; rw [HN.out, a2, a3, HC0.out]; simp [h3, h4]
            subst h5 h6
            go_enter Tryd.func71, Tryd.ntmps71
            go_wp2_with fail
            refine (byteAt_any s p _ (by omega)).mono ?_
            rintro r w1 ⟨rfl, rfl⟩
            rw [Int.toNat_natCast, HB.out]
            go_wp2_with fail
            refine (countRuns_any u P _ (by omega) (by omega)).mono ?_
            rintro r w1 ⟨rfl, rfl⟩
            rw [Int.toNat_natCast, HC.out P (by omega), HC0.out]
            go_wp2_with fail
            refine (countRuns_any u 1 _ (by omega) (by omega)).mono ?_
            rintro r w1 ⟨rfl, rfl⟩
            rw [show (1 : Int).toNat = 1 from rfl, HC.out 1 (by omega), HC1.out]
            go_wp2_with fail
            refine (countRuns_any u (8 * M) _ (by omega) (by omega)).mono ?_
            rintro r w1 ⟨rfl, rfl⟩
            rw [show (8 * (M : Int)).toNat = 8 * M from by omega, HC.out (8 * M) (by omega), HC8.out]
            go_wp2_with fail
            rw [readV_yes hY.out, nodeV, HU.out, HP.out, HC0.out, HE.out, HT.out]
            refine bodyPost_ret (v := .agg #[.int .i64 t, .string u, .int .i64 (p + 1 + M : Nat), .int .i64 c8]) (by simp [results, Tryd.results71, go_sem]) rfl ⟨rfl, ?_⟩
            exact (Below.refl _ _).alloc (Nat.le_refl _) _
          · have hY : Hid (nodeF s p s.size b = false) := by
              have a3 : spareF s p (8 - P) P = false := by
                cases h : spareF s p (8 - P) P with
                | false => rfl
                | true => exact absurd (by have := HS.out.2 h; rw [HC8.out, HC0.out] at this; exact this) h6
              unfold Hid; rw [HN.out, a3]; simp
            have h6b : ((c8 : Int) == (c : Int)) = false := by rw [beq_eq_false_iff_ne]; omega
            subst h5
            clear h6
            go_enter Tryd.func71, Tryd.ntmps71
            go_wp2_with fail
            refine (byteAt_any s p _ (by omega)).mono ?_
            rintro r w1 ⟨rfl, rfl⟩
            rw [Int.toNat_natCast, HB.out]
            go_wp2_with fail
            refine (countRuns_any u P _ (by omega) (by omega)).mono ?_
            rintro r w1 ⟨rfl, rfl⟩
            rw [Int.toNat_natCast, HC.out P (by omega), HC0.out]
            go_wp2_with fail
            refine (countRuns_any u 1 _ (by omega) (by omega)).mono ?_
            rintro r w1 ⟨rfl, rfl⟩
            rw [show (1 : Int).toNat = 1 from rfl, HC.out 1 (by omega), HC1.out]
            go_wp2_with fail
            refine (countRuns_any u (8 * M) _ (by omega) (by omega)).mono ?_
            rintro r w1 ⟨rfl, rfl⟩
            rw [show (8 * (M : Int)).toNat = 8 * M from by omega, HC.out (8 * M) (by omega), HC8.out]
            go_wp2_with fail
            rw [readV_no hY.out, noNode]
            refine bodyPost_ret (v := .agg #[.int .i64 0, .string ⟨#[]⟩, .int .i64 0, .int .i64 0]) (by simp [results, Tryd.results71, go_sem]) rfl ⟨rfl, ?_⟩
            exact (Below.refl _ _).alloc (Nat.le_refl _) _
        · have hY : Hid (nodeF s p s.size b = false) := by
            have a1 := HC1.out
            have a2 : setF s p 0 = false := by
              cases h : setF s p 0 with
              | false => rfl
              | true => exact absurd (by rw [ones_one, if_pos h] at a1; exact a1.symm) h5
            unfold Hid; rw [HN.out, a2]; simp
          have h5b : ((c1 : Int) == 1) = false := by rw [beq_eq_false_iff_ne]; omega
          clear h5
          go_enter Tryd.func71, Tryd.ntmps71
          go_wp2_with fail
          refine (byteAt_any s p _ (by omega)).mono ?_
          rintro r w1 ⟨rfl, rfl⟩
          rw [Int.toNat_natCast, HB.out]
          go_wp2_with fail
          refine (countRuns_any u P _ (by omega) (by omega)).mono ?_
          rintro r w1 ⟨rfl, rfl⟩
          rw [Int.toNat_natCast, HC.out P (by omega), HC0.out]
          go_wp2_with fail
          refine (countRuns_any u 1 _ (by omega) (by omega)).mono ?_
          rintro r w1 ⟨rfl, rfl⟩
          rw [show (1 : Int).toNat = 1 from rfl, HC.out 1 (by omega), HC1.out]
          go_wp2_with fail
          refine (countRuns_any u (8 * M) _ (by omega) (by omega)).mono ?_
          rintro r w1 ⟨rfl, rfl⟩
          rw [show (8 * (M : Int)).toNat = 8 * M from by omega, HC.out (8 * M) (by omega), HC8.out]
          go_wp2_with fail
          rw [readV_no hY.out, noNode]
          refine bodyPost_ret (v := .agg #[.int .i64 0, .string ⟨#[]⟩, .int .i64 0, .int .i64 0]) (by simp [results, Tryd.results71, go_sem]) rfl ⟨rfl, ?_⟩
          exact (Below.refl _ _).alloc (Nat.le_refl _) _
      · have hY : Hid (nodeF s p s.size b = false) := by unfold Hid; rw [HN.out, HC0.out]; simp [h4]
        go_enter Tryd.func71, Tryd.ntmps71
        go_wp2_with fail
        refine (byteAt_any s p _ (by omega)).mono ?_
        rintro r w1 ⟨rfl, rfl⟩
        rw [Int.toNat_natCast, HB.out]
        go_wp2_with fail
        refine (countRuns_any u P _ (by omega) (by omega)).mono ?_
        rintro r w1 ⟨rfl, rfl⟩
        rw [Int.toNat_natCast, HC.out P (by omega), HC0.out]
        go_wp2_with fail
        rw [readV_no hY.out, noNode]
        refine bodyPost_ret (v := .agg #[.int .i64 0, .string ⟨#[]⟩, .int .i64 0, .int .i64 0]) (by simp [results, Tryd.results71, go_sem]) rfl ⟨rfl, ?_⟩
        exact (Below.refl _ _).alloc (Nat.le_refl _) _
    · have hY : Hid (nodeF s p s.size b = false) := by unfold Hid; rw [HN.out]; simp [h3]
      go_enter Tryd.func71, Tryd.ntmps71
      go_wp2_with fail
      refine (byteAt_any s p _ (by omega)).mono ?_
      rintro r w1 ⟨rfl, rfl⟩
      rw [Int.toNat_natCast, HB.out]
      go_wp2_with fail
      rw [readV_no hY.out, noNode]
      refine bodyPost_ret (v := .agg #[.int .i64 0, .string ⟨#[]⟩, .int .i64 0, .int .i64 0]) (by simp [results, Tryd.results71, go_sem]) rfl ⟨rfl, ?_⟩
      exact (Below.refl _ _).alloc (Nat.le_refl _) _
  · have hY : Hid (nodeF s p s.size b = false) := by
      unfold Hid nodeF
      by_cases h : p < s.size
      · rw [← bz_in h, HB.out]; simp [h2]
      · simp [h]
    by_cases h21 : 1 ≤ t
    · have h22 : ¬ t ≤ b := fun h => h2 ⟨h21, h⟩
      clear h2 ht
      go_enter Tryd.func71, Tryd.ntmps71
      go_wp2_with fail
      refine (byteAt_any s p _ (by omega)).mono ?_
      rintro r w1 ⟨rfl, rfl⟩
      rw [Int.toNat_natCast, HB.out]
      go_wp2_with fail
      rw [readV_no hY.out, noNode]
      refine bodyPost_ret (v := .agg #[.int .i64 0, .string ⟨#[]⟩, .int .i64 0, .int .i64 0]) (by simp [results, Tryd.results71, go_sem]) rfl ⟨rfl, ?_⟩
      exact (Below.refl _ _).alloc (Nat.le_refl _) _
    · clear h2 ht
      go_enter Tryd.func71, Tryd.ntmps71
      go_wp2_with fail
      refine (byteAt_any s p _ (by omega)).mono ?_
      rintro r w1 ⟨rfl, rfl⟩
      rw [Int.toNat_natCast, HB.out]
      go_wp2_with fail
      rw [readV_no hY.out, noNode]
      refine bodyPost_ret (v := .agg #[.int .i64 0, .string ⟨#[]⟩, .int .i64 0, .int .i64 0]) (by simp [results, Tryd.results71, go_sem]) rfl ⟨rfl, ?_⟩
      exact (Below.refl _ _).alloc (Nat.le_refl _) _
end Go.Proofs.YtdfnmpmmkcpddaaDoor
