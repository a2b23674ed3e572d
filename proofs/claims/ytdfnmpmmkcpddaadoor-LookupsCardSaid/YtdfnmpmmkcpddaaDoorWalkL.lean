/- The walks of the document's images: a lookup. -/
import Derived.Test.YtdfnmpmmkcpddaaDoorWalkK
import Derived.Test.YtdfnmpmmkcpddaaDoorWalkH
import Derived.Test.YtdfnmpmmkcpddaaDoorSpecJ
namespace Go.Proofs.YtdfnmpmmkcpddaaDoor
open Go.RowKit

set_option maxHeartbeats 1000000 in
theorem step_any (s : ByteArray) (A W p B e : Nat) (w : World) (hs : s.size ≤ 70000) (he : e ≤ s.size) (hW : W ≤ 12) (hB : B ≤ W) (hp : p + 1 < s.size) (hv : 1002 ≤ b2 s p) (hn : nodeF s (p + b2 s p - 1000) e (W - B) = true) :
    Calls Tryd.prog 58 #[.string s, .int .i64 p, .string (addr A W), .int .i64 B] w fun r w' => r = .returned (.tuple #[.int .i64 (nextF s A W p B), .int .i64 (B + byt s (p + b2 s p - 1000) : Nat)]) ∧ ∃ k, w' = w.drewN k := by
  obtain ⟨v, hve⟩ : ∃ v, b2 s p = v := ⟨_, rfl⟩
  have hbl := b2_le (s := s) (p := p) (by omega)
  obtain ⟨q, hq⟩ : ∃ q : Nat, q = p + v - 1000 := ⟨_, rfl⟩
  unfold nextF
  rw [hve] at hv hn hbl ⊢
  rw [← hq] at hn ⊢
  have hqi : ((p : Int) + (v : Int) - 1000) = (q : Int) := by omega
  obtain ⟨hn1, hn2, hn3, hn4⟩ := nodeF_parts hn
  obtain ⟨hst, hen⟩ := nodeF_set hn
  have hqs : q < s.size := by omega
  obtain ⟨t, ht⟩ : ∃ t, (s[q]'hqs).toNat = t := ⟨_, rfl⟩
  have HT : Hid (byt s q = t) := by unfold Hid; rw [byt_in hqs, ht]
  rw [HT.out] at hn2 hn3 hn4 ⊢
  obtain ⟨P, hP⟩ : ∃ P : Nat, P = 2 ^ t := ⟨_, rfl⟩
  obtain ⟨hpw, hP1, hP2⟩ := pow_st hn2 (show t ≤ 12 by omega)
  rw [← hP] at hpw hP1 hP2 hn4
  have HE : Hid (entF s q = q + 1 + (P + 7) / 8) := by unfold Hid entF; rw [HT.out, hP]
  rw [HE.out] at hn4 hen ⊢
  have HV : Hid (b2 s p = v) := hve
  have HS : Hid (setF s q 0 = true) := hst
  have HP : Hid (P = 2 ^ t) := hP
  have hasz := addr_size A W
  have htB : t + B ≤ W := by omega
  have HN4 : Hid (q + 1 + (P + 7) / 8 + 2 * onesF s q P ≤ s.size) := by unfold Hid; omega
  have hen' : q + 1 + (P + 7) / 8 ≤ s.size := by omega
  clear hve hq hn hst hP hn3 hn4 hen hn1 he
  go_enter Tryd.func58, Tryd.ntmps58
  go_wp2_with fail
  refine (two_any s p _ (by omega) (by omega) (by omega)).mono ?_
  rintro r w1 ⟨rfl, k1, rfl⟩
  rw [Int.toNat_natCast, HV.out]
  go_wp2_with fail
  go_loopg [12, 13] t (fun g x y wr => ∃ (i j : Nat), wr = w.drewN k1 ∧ x = .int .i64 j ∧ y = .int .i64 i ∧ g + i = t ∧ j ≤ 4096 ∧ Hid (j = slotF A W B i))
  case atStart => exact ⟨0, 0, rfl, rfl, rfl, by omega, by omega, by unfold Hid slotF; simp [Nat.mod_one]⟩
  case round =>
    obtain ⟨i, j, rfl, rfl, rfl, hgi, hj, HJ⟩ := hrel
    by_cases hlt : i < t
    · have hai : B + i < (addr A W).size := by omega
      obtain ⟨c, hc⟩ : ∃ c, ((addr A W)[B + i]'hai).toNat = c := ⟨_, rfl⟩
      obtain ⟨d, hd⟩ : ∃ d, A / 2 ^ (W - 1 - (B + i)) % 2 = d := ⟨_, rfl⟩
      have hcd : c = 48 + d := by rw [← hc, ← byt_in hai, addr_byt (by omega), hd]
      have hd1 : d ≤ 1 := by omega
      have HSS : Hid (slotF A W B (i + 1) = 2 * slotF A W B i + d) := by unfold Hid; rw [slot_step (by omega), hd]
      have hle := slot_lt A W B (i + 1)
      have hpl : 2 ^ (i + 1) ≤ 2 ^ 12 := Nat.pow_le_pow_right (by omega) (by omega)
      have hjn : 2 * j + d ≤ 4096 := by rw [HJ.out, ← HSS.out]; omega
      have hc1 : 48 ≤ c := by omega
      have hc2 : c ≤ 49 := by omega
      have HCD : Hid (c = 48 + d) := hcd
      clear hcd hd hle hpl
      go_wp2_with fail
      go_roundg (gk - 1)
      case measure => omega
      case rel =>
        have hcd := HCD.out
        exact ⟨i + 1, 2 * j + d, rfl, int_eq (by omega), int_eq (by omega), by omega, hjn, by unfold Hid; rw [HSS.out, HJ.out]⟩
    · have hit : i = t := by omega
      have HJ' : Hid (j = slotF A W B t) := by have := HJ.out; rw [hit] at this; exact this
      have hjl : j + 1 ≤ P := by have := slot_lt A W B t; rw [HJ'.out, HP.out]; omega
      have h1 := onesF_pos (s := s) (p := q) (j := j) HS.out
      have h2 := onesF_mono s q hjl
      have h3 := HN4.out
      have h4 : onesF s q (j + 1) ≤ 70000 := by omega
      clear h2 h3 hit HJ
      go_wp2_with fail
      refine (ones_any s q (j + 1) _ (by omega) (by omega) (by omega) hs (by omega)).mono ?_
      rintro r w2 ⟨rfl, rfl⟩
      rw [Int.toNat_natCast, show ((j : Int) + 1).toNat = j + 1 from by omega]
      go_wp2_with fail
      go_ret2
      refine ⟨ret2 (int_eq ?_) (int_eq (by omega)), _, rfl⟩
      rw [← HJ'.out]; omega

/-- A good entry that tells of a node: what is next is good. -/
theorem good_next {s : ByteArray} {e n p W B A : Nat} (hv : ¬ b2 s p ≤ 250) (hg : goodF s e n p (W - B) = true) (hW : B ≤ W) :
    ∃ n', n = n' + 1 ∧ 1002 ≤ b2 s p ∧ nodeF s (p + b2 s p - 1000) e (W - B) = true ∧ goodF s e n' (nextF s A W p B) (W - (B + byt s (p + b2 s p - 1000))) = true ∧ nextF s A W p B + 1 < e ∧ B + byt s (p + b2 s p - 1000) ≤ W := by
  cases n with
  | zero => simp [goodF, hv] at hg
  | succ n' =>
    rw [goodF] at hg
    simp only [Bool.or_eq_true, decide_eq_true_eq, hv, false_or, Bool.and_eq_true, List.all_eq_true, List.mem_range] at hg
    obtain ⟨⟨h1, h2⟩, h3⟩ := hg
    obtain ⟨hn1, hn2, hn3, hn4⟩ := nodeF_parts h2
    obtain ⟨hst, _⟩ := nodeF_set h2
    have hsl := slot_lt A W B (byt s (p + b2 s p - 1000))
    have o1 := onesF_pos (s := s) (p := p + b2 s p - 1000) (j := slotF A W B (byt s (p + b2 s p - 1000))) hst
    have o2 := onesF_mono s (p + b2 s p - 1000) (show slotF A W B (byt s (p + b2 s p - 1000)) + 1 ≤ 2 ^ byt s (p + b2 s p - 1000) by omega)
    refine ⟨n', rfl, h1, h2, ?_, ?_, by omega⟩
    · have := h3 (onesF s (p + b2 s p - 1000) (slotF A W B (byt s (p + b2 s p - 1000)) + 1) - 1) (by omega)
      rw [show W - (B + byt s (p + b2 s p - 1000)) = W - B - byt s (p + b2 s p - 1000) from by omega]
      exact this
    · unfold nextF; omega
theorem look_hop {s : ByteArray} {A W p B : Nat} (h : b2 s p ≤ 250) : ∀ n, lookF s A W n p B = (b2 s p, 0)
  | 0 => rfl
  | n + 1 => by rw [lookF, if_pos h]
theorem look_node {s : ByteArray} {A W n p B : Nat} (h : ¬ b2 s p ≤ 250) : lookF s A W (n + 1) p B = ((lookF s A W n (nextF s A W p B) (B + byt s (p + b2 s p - 1000))).1, (lookF s A W n (nextF s A W p B) (B + byt s (p + b2 s p - 1000))).2 + 1) := by
  rw [lookF, if_neg h]
theorem img_parts {s : ByteArray} (h : imgF s = true) : 10 ≤ s.size ∧ b2 s 4 = s.size ∧ 1 ≤ byt s 2 ∧ byt s 2 ≤ 12 ∧ byt s 3 ≤ byt s 2 ∧ goodF s (s.size - 2) (byt s 3) 6 (byt s 2) = true := by
  simp only [imgF, Bool.and_eq_true, decide_eq_true_eq] at h
  exact ⟨h.1.1.1.1.1, h.1.1.1.2, h.1.1.2.1, h.1.1.2.2.1, h.1.1.2.2.2, h.2⟩
end Go.Proofs.YtdfnmpmmkcpddaaDoor
