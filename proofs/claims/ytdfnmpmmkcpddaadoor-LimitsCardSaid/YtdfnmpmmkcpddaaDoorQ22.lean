import Derived.Test.YtdfnmpmmkcpddaaDoorQ20
import Derived.Test.YtdfnmpmmkcpddaaDoorQ21
import Derived.Test.YtdfnmpmmkcpddaaDoorQ09
/- The plain functions of images: their slots. -/
namespace Go.Proofs.YtdfnmpmmkcpddaaDoor

/-- What the first j slots of the node at q have, where entry i has g i. -/
def slSum (g : Nat → Nat) (s : ByteArray) (q : Nat) : Nat → Nat
  | 0 => 0
  | j + 1 => slSum g s q j + g (onesF s q (j + 1) - 1)
/-- The slots of the entry at p, n nodes at most. -/
def slotsF (s : ByteArray) : Nat → Nat → Nat
  | 0, _ => 0
  | n + 1, p => if b2 s p ≤ 250 then 0 else 2 ^ byt s (p + b2 s p - 1000) + slSum (fun i => slotsF s n (entF s (p + b2 s p - 1000) + 2 * i)) s (p + b2 s p - 1000) (2 ^ byt s (p + b2 s p - 1000))

theorem slots_hop {s : ByteArray} {p : Nat} (h : b2 s p ≤ 250) : ∀ n, slotsF s n p = 0
  | 0 => rfl
  | n + 1 => by rw [slotsF, if_pos h]
theorem slSum_le {g : Nat → Nat} {s : ByteArray} {q m K : Nat} (h : ∀ i, i < K → g i ≤ m) (hs : setF s q 0 = true) : ∀ j, onesF s q j ≤ K → slSum g s q j ≤ j * m
  | 0, _ => by simp [slSum]
  | j + 1, hK => by
    have h1 := onesF_mono s q (show j ≤ j + 1 by omega)
    have ih := slSum_le h hs j (by omega)
    have h2 := onesF_pos (s := s) (p := q) (j := j) hs
    have h3 := h (onesF s q (j + 1) - 1) (by omega)
    rw [slSum, Nat.succ_mul]
    omega
theorem good_node {s : ByteArray} {e n p b : Nat} (hv : ¬ b2 s p ≤ 250) (hg : goodF s e n p b = true) :
    ∃ n', n = n' + 1 ∧ 1002 ≤ b2 s p ∧ nodeF s (p + b2 s p - 1000) e b = true ∧ ∀ i, i < onesF s (p + b2 s p - 1000) (2 ^ byt s (p + b2 s p - 1000)) → goodF s e n' (entF s (p + b2 s p - 1000) + 2 * i) (b - byt s (p + b2 s p - 1000)) = true := by
  cases n with
  | zero => simp [goodF, hv] at hg
  | succ n' =>
    rw [goodF] at hg
    simp only [Bool.or_eq_true, decide_eq_true_eq, hv, false_or, Bool.and_eq_true, List.all_eq_true, List.mem_range] at hg
    exact ⟨n', rfl, hg.1.1, hg.1.2, hg.2⟩
theorem slots_bd {s : ByteArray} {e : Nat} (n : Nat) : ∀ (p b : Nat), goodF s e n p b = true → slotsF s n p + 2 ≤ 2 ^ (b + 1) := by
  induction n with
  | zero =>
    intro p b _
    have hb2 : 2 ^ 1 ≤ 2 ^ (b + 1) := Nat.pow_le_pow_right (by omega) (by omega)
    simp only [slotsF]; omega
  | succ n' ih =>
    intro p b hg
    have hb2 : 2 ^ 1 ≤ 2 ^ (b + 1) := Nat.pow_le_pow_right (by omega) (by omega)
    by_cases hv : b2 s p ≤ 250
    · rw [slots_hop hv]; omega
    · obtain ⟨n2, hn2, _, hn, hi⟩ := good_node hv hg
      obtain rfl : n' = n2 := by omega
      obtain ⟨_, h2, h3, _⟩ := nodeF_parts hn
      obtain ⟨hst, _⟩ := nodeF_set hn
      rw [slotsF, if_neg hv]
      obtain ⟨t, ht⟩ : ∃ t, byt s (p + b2 s p - 1000) = t := ⟨_, rfl⟩
      rw [ht] at h2 h3 hi ⊢
      have hsum := slSum_le (g := fun i => slotsF s n' (entF s (p + b2 s p - 1000) + 2 * i)) (m := 2 ^ (b - t + 1) - 2) (fun i hlt => by
        have := ih _ _ (hi i hlt)
        show slotsF s n' (entF s (p + b2 s p - 1000) + 2 * i) ≤ _
        omega) hst (2 ^ t) (Nat.le_refl _)
      have e1 : 2 ^ (b + 1) = 2 ^ t * 2 ^ (b - t + 1) := by rw [← Nat.pow_add]; congr 1; omega
      have e2 : 2 ^ 1 ≤ 2 ^ t := Nat.pow_le_pow_right (by omega) h2
      rw [Nat.mul_sub] at hsum
      rw [e1]
      have e3 : 2 ^ t * 2 ≤ 2 ^ t * 2 ^ (b - t + 1) := Nat.mul_le_mul_left _ (by
        have : 2 ^ 1 ≤ 2 ^ (b - t + 1) := Nat.pow_le_pow_right (by omega) (by omega)
        omega)
      omega
end Go.Proofs.YtdfnmpmmkcpddaaDoor
/- The walk of the document's slots. -/
namespace Go.Proofs.YtdfnmpmmkcpddaaDoor
open Go.RowKit

def SlotsC (s : ByteArray) (e n : Nat) : Prop := ∀ (p b : Int) (w : World), 0 ≤ p → p + 1 < s.size → 0 ≤ b → b ≤ 12 → goodF s e n p.toNat b.toNat = true →
  Calls Tryd.prog 54 #[.string s, .int .i64 p, .int .i64 e, .int .i64 b] w fun r w' => r = .returned (.int .i64 (slotsF s n p.toNat)) ∧ ∃ k, w' = w.drewN k

theorem slots_hop_any (s : ByteArray) (e n : Nat) (p b : Int) (w : World) (hs : s.size ≤ 70000) (h0 : 0 ≤ p) (h : p + 1 < s.size) (hv : b2 s p.toNat ≤ 250) :
    Calls Tryd.prog 54 #[.string s, .int .i64 p, .int .i64 e, .int .i64 b] w fun r w' => r = .returned (.int .i64 (slotsF s n p.toNat)) ∧ ∃ k, w' = w.drewN k := by
  rw [slots_hop hv n]
  go_enter Tryd.func54, Tryd.ntmps54
  go_wp2_with fail
  refine (two_any s p _ h0 h (by omega)).mono ?_
  rintro r w1 ⟨rfl, k, rfl⟩
  go_wp2_with fail
  go_ret
  exact ⟨rfl, _, rfl⟩

theorem set_room {q N E e S j : Nat} (h : E = q + 1 + (N + 7) / 8) (hE : E ≤ e) (he : e ≤ S) (hj : j < N) : q + 1 + j / 8 < S := by omega

set_option maxRecDepth 100000 in
set_option maxHeartbeats 1000000 in
theorem slots_succ (s : ByteArray) (e n : Nat) (hs : s.size ≤ 70000) (he : e ≤ s.size) (ih : SlotsC s e n) : SlotsC s e (n + 1) := by
  intro p b w h0 h hb0 hb hg
  by_cases hv : b2 s p.toNat ≤ 250
  · exact slots_hop_any s e (n + 1) p b w hs h0 h hv
  have HI : Hid (SlotsC s e n) := ih
  clear ih
  have hbl := b2_le (s := s) (p := p.toNat) (by omega)
  obtain ⟨p, rfl⟩ := Int.eq_ofNat_of_zero_le h0
  obtain ⟨b, rfl⟩ := Int.eq_ofNat_of_zero_le hb0
  rw [Int.toNat_natCast] at hv hbl hg
  rw [Int.toNat_natCast] at hg
  rw [Int.toNat_natCast]
  obtain ⟨n2, hn2, hv2, hnd, hi⟩ := good_node hv hg
  obtain rfl : n = n2 := by omega
  have hF0 := slotsF.eq_2 s p n
  rw [if_neg hv] at hF0
  obtain ⟨v, hve⟩ : ∃ v, b2 s p = v := ⟨_, rfl⟩
  rw [hve] at hv hbl hv2 hnd hi hF0
  have HV : Hid (b2 s p = v) := hve
  clear hve hn2 hg
  obtain ⟨q, hq⟩ : ∃ q : Nat, p + v - 1000 = q := ⟨_, rfl⟩
  have hqi : ((p : Int) + (v : Int) - 1000) = (q : Int) := by omega
  have hql : q ≤ 200000 := by omega
  rw [hq] at hnd hi hF0
  obtain ⟨hn1, hn2, hn3, hn4⟩ := nodeF_parts hnd
  obtain ⟨hst, hne⟩ := nodeF_set hnd
  have hqs : q < s.size := by omega
  obtain ⟨t, ht⟩ : ∃ t, (s[q]'hqs).toNat = t := ⟨_, rfl⟩
  have HT : Hid (byt s q = t) := by unfold Hid; rw [byt_in hqs, ht]
  rw [HT.out] at hn2 hn3 hn4 hi hF0
  obtain ⟨K, hK⟩ : ∃ K, onesF s q (2 ^ t) = K := ⟨_, rfl⟩
  obtain ⟨N, hN⟩ : ∃ N, 2 ^ t = N := ⟨_, rfl⟩
  have hE0 : entF s q = q + 1 + (N + 7) / 8 := by unfold entF; rw [HT.out, hN]
  obtain ⟨E, hE⟩ : ∃ E, entF s q = E := ⟨_, rfl⟩
  rw [hK, hE] at hn4
  rw [hE] at hi hF0 hne hE0
  rw [hK] at hi
  have HF : Hid (slotsF s (n + 1) p = 2 ^ t + slSum (fun i => slotsF s n (E + 2 * i)) s q (2 ^ t)) := hF0
  have HG : Hid (∀ i, i < K → goodF s e n (E + 2 * i) (b - t) = true) := hi
  have HN : Hid (nodeF s q e b = true) := hnd
  have HK : Hid (onesF s q (2 ^ t) = K) := hK
  have HE : Hid (entF s q = E) := hE
  have HST : Hid (setF s q 0 = true) := hst
  obtain ⟨p1, p3, p4⟩ := pow_st hn2 (by omega)
  rw [hN] at p1 p3 p4 HF HK
  have HNN : Hid (2 ^ t = N) := hN
  have HSET : Hid (∀ j : Nat, j < N → q + 1 + j / 8 < s.size) := by
    exact fun j hj => set_room hE0 hne he hj
  have HB : Hid (∀ i, i < K → slotsF s n (E + 2 * i) ≤ 8190) := by
    intro i hi'
    have h1 := slots_bd n _ _ (HG.out i hi')
    have h2 : 2 ^ (b - t + 1) ≤ 8192 := Nat.le_trans (Nat.pow_le_pow_right (by omega) (show b - t + 1 ≤ 13 by omega)) (by decide)
    exact Nat.le_of_add_le_add_right (Nat.le_trans h1 h2)
  clear hnd hq hK hE hF0 hi hst hN hE0 hb0 hn1 hv hne
  go_enter Tryd.func54, Tryd.ntmps54
  go_wp2_with fail
  refine (two_any s p _ h0 h (by omega)).mono ?_
  rintro r w1 ⟨rfl, k, rfl⟩
  rw [Int.toNat_natCast, HV.out]
  go_wp2_with fail
  refine (lies_any s q e b _ (by omega) (by omega) (by omega) (by omega) hs (by omega) (by omega)).mono ?_
  rintro r w2 ⟨⟨x, y, ok, rfl, hok, hxy⟩, rfl⟩
  rw [Int.toNat_natCast, Int.toNat_natCast, Int.toNat_natCast, HN.out] at hok
  subst hok
  obtain ⟨rfl, rfl⟩ := hxy rfl
  rw [Int.toNat_natCast, HT.out, HNN.out, HK.out, HE.out]
  go_wp2_with fail
  rw [p1]
  go_loopg [15, 16, 17, 18] (N) (fun g x y z u wr => ∃ (j m r c k : Nat), x = .int .i64 m ∧ y = .int .i64 r ∧ z = .int .i64 c ∧ u = .int .i64 j ∧ g + j = N ∧ r ≤ 8190 ∧ m ≤ 4096 + 8190 * j ∧ c ≤ K ∧ wr = w.drewN k ∧
    Hid (c = onesF s q j) ∧ Hid (m = N + slSum (fun i => slotsF s n (E + 2 * i)) s q j) ∧ Hid (1 ≤ j → r = slotsF s n (E + 2 * (onesF s q j - 1))))
  case atStart => exact ⟨0, N, 0, 0, _, rfl, rfl, rfl, rfl, by omega, by omega, by omega, by omega, rfl, rfl, rfl, fun h => by omega⟩
  case round =>
    obtain ⟨j, m, r, c, k, rfl, rfl, rfl, rfl, hgj, hr, hm, hc, rfl, HC, HM, HR⟩ := hrel
    by_cases hlt : j < N
    · cases hsj : setF s q j with
      | true =>
        have ho : onesF s q (j + 1) = c + 1 := by rw [onesF, if_pos hsj, HC.out]
        have hcK : c < K := by
          have := onesF_mono s q (show j + 1 ≤ N by omega)
          rw [HK.out, ho] at this; omega
        have hset := HSET.out j hlt
        have HSJ : Hid (setF s q j = true) := hsj
        have HO : Hid (onesF s q (j + 1) = c + 1) := ho
        have hbd := HB.out c hcK
        clear hsj ho
        go_wp2_with fail
        refine (set_any s q j _ (by omega) (by omega) (by omega) hs (by omega)).mono ?_
        rintro r1 w3 ⟨rfl, rfl⟩
        rw [Int.toNat_natCast, Int.toNat_natCast, HSJ.out]
        go_wp2_with fail
        refine (HI.out _ _ _ (by omega) (by omega) (by omega) (by omega) (by rw [show ((E : Int) + 2 * (c : Int)).toNat = E + 2 * c from by omega, show ((b : Int) - (t : Int)).toNat = b - t from by omega]; exact HG.out c hcK)).mono ?_
        rintro r1 w4 ⟨rfl, k4, rfl⟩
        rw [show ((E : Int) + 2 * (c : Int)).toNat = E + 2 * c from by omega]
        go_wp2_with fail
        go_roundg (gk - 1)
        case measure => omega
        case rel => exact ⟨j + 1, m + slotsF s n (E + 2 * c), slotsF s n (E + 2 * c), c + 1, _, int_eq (by omega), rfl, int_eq (by omega), int_eq (by omega), by omega, by omega, by omega, by omega, rfl, HO.out.symm, by unfold Hid; rw [slSum, HO.out, HM.out]; simp only [Nat.add_sub_cancel]; omega, fun _ => by rw [HO.out, Nat.add_sub_cancel]⟩
      | false =>
        have ho : onesF s q (j + 1) = c := by rw [onesF, if_neg (by rw [hsj]; simp), HC.out]
        have hj1 : 1 ≤ j := by
          by_cases e0 : j = 0
          · rw [e0, HST.out] at hsj; exact absurd hsj (by simp)
          · omega
        have HR' : Hid (r = slotsF s n (E + 2 * (c - 1))) := by unfold Hid; rw [HC.out]; exact HR.out hj1
        have hset := HSET.out j hlt
        have HSJ : Hid (setF s q j = false) := hsj
        have HO : Hid (onesF s q (j + 1) = c) := ho
        clear hsj ho HR
        go_wp2_with fail
        refine (set_any s q j _ (by omega) (by omega) (by omega) hs (by omega)).mono ?_
        rintro r1 w3 ⟨rfl, rfl⟩
        rw [Int.toNat_natCast, Int.toNat_natCast, HSJ.out]
        go_wp2_with fail
        go_roundg (gk - 1)
        case measure => omega
        case rel => exact ⟨j + 1, m + r, r, c, _, int_eq (by omega), rfl, rfl, int_eq (by omega), by omega, by omega, by omega, by omega, rfl, HO.out.symm, by unfold Hid; rw [slSum, HO.out, HM.out, HR'.out]; omega, fun _ => by rw [HO.out, HR'.out]⟩
    · go_wp2_with fail
      go_ret
      obtain rfl : j = N := by omega
      exact ⟨ret1 (int_eq (by rw [HF.out, HM.out])), _, rfl⟩
theorem slots_any (s : ByteArray) (e : Nat) (hs : s.size ≤ 70000) (he : e ≤ s.size) : ∀ n, SlotsC s e n
  | 0 => by
    intro p b w h0 h hb0 hb hg
    exact slots_hop_any s e 0 p b w hs h0 h (by simpa [goodF] using hg)
  | n + 1 => slots_succ s e n hs he (slots_any s e hs he n)
end Go.Proofs.YtdfnmpmmkcpddaaDoor
/- The walks of the document's images: a lookup. -/
namespace Go.Proofs.YtdfnmpmmkcpddaaDoor
open Go.RowKit

set_option maxHeartbeats 1000000 in
theorem step_any (s : ByteArray) (A W p B e : Nat) (w : World) (hs : s.size ≤ 70000) (he : e ≤ s.size) (hW : W ≤ 12) (hB : B ≤ W) (hp : p + 1 < s.size) (hv : 1002 ≤ b2 s p) (hn : nodeF s (p + b2 s p - 1000) e (W - B) = true) :
    Calls Tryd.prog 58 #[.string s, .int .i64 p, .string (addr A W), .int .i64 B] w fun r w' => r = .returned (.tuple #[.int .i64 (nextF s A W p B), .int .i64 (B + byt s (p + b2 s p - 1000) : Nat)]) ∧ ∃ k, w' = w.drewN k := by
  obtain ⟨v, hve⟩ : ∃ v, b2 s p = v := ⟨_, rfl⟩
  have hbl := b2_le (s := s) (p := p) (by omega)
  obtain ⟨q, hq⟩ : ∃ q : Nat, q = p + v - 1000 := ⟨_, rfl⟩
  unfold nextF
  rw [hve] at hv hn hbl ⊢
  rw [← hq] at hn ⊢
  have hqi : ((p : Int) + (v : Int) - 1000) = (q : Int) := by omega
  obtain ⟨hn1, hn2, hn3, hn4⟩ := nodeF_parts hn
  obtain ⟨hst, hen⟩ := nodeF_set hn
  have hqs : q < s.size := by omega
  obtain ⟨t, ht⟩ : ∃ t, (s[q]'hqs).toNat = t := ⟨_, rfl⟩
  have HT : Hid (byt s q = t) := by unfold Hid; rw [byt_in hqs, ht]
  rw [HT.out] at hn2 hn3 hn4 ⊢
  obtain ⟨P, hP⟩ : ∃ P : Nat, P = 2 ^ t := ⟨_, rfl⟩
  obtain ⟨hpw, hP1, hP2⟩ := pow_st hn2 (show t ≤ 12 by omega)
  rw [← hP] at hpw hP1 hP2 hn4
  have HE : Hid (entF s q = q + 1 + (P + 7) / 8) := by unfold Hid entF; rw [HT.out, hP]
  rw [HE.out] at hn4 hen ⊢
  have HV : Hid (b2 s p = v) := hve
  have HS : Hid (setF s q 0 = true) := hst
  have HP : Hid (P = 2 ^ t) := hP
  have hasz := addr_size A W
  have htB : t + B ≤ W := by omega
  have HN4 : Hid (q + 1 + (P + 7) / 8 + 2 * onesF s q P ≤ s.size) := by unfold Hid; omega
  have hen' : q + 1 + (P + 7) / 8 ≤ s.size := by omega
  clear hve hq hn hst hP hn3 hn4 hen hn1 he
  go_enter Tryd.func58, Tryd.ntmps58
  go_wp2_with fail
  refine (two_any s p _ (by omega) (by omega) (by omega)).mono ?_
  rintro r w1 ⟨rfl, k1, rfl⟩
  rw [Int.toNat_natCast, HV.out]
  go_wp2_with fail
  go_loopg [12, 13] t (fun g x y wr => ∃ (i j : Nat), wr = w.drewN k1 ∧ x = .int .i64 j ∧ y = .int .i64 i ∧ g + i = t ∧ j ≤ 4096 ∧ Hid (j = slotF A W B i))
  case atStart => exact ⟨0, 0, rfl, rfl, rfl, by omega, by omega, by unfold Hid slotF; simp [Nat.mod_one]⟩
  case round =>
    obtain ⟨i, j, rfl, rfl, rfl, hgi, hj, HJ⟩ := hrel
    by_cases hlt : i < t
    · have hai : B + i < (addr A W).size := by omega
      obtain ⟨c, hc⟩ : ∃ c, ((addr A W)[B + i]'hai).toNat = c := ⟨_, rfl⟩
      obtain ⟨d, hd⟩ : ∃ d, A / 2 ^ (W - 1 - (B + i)) % 2 = d := ⟨_, rfl⟩
      have hcd : c = 48 + d := by rw [← hc, ← byt_in hai, addr_byt (by omega), hd]
      have hd1 : d ≤ 1 := by omega
      have HSS : Hid (slotF A W B (i + 1) = 2 * slotF A W B i + d) := by unfold Hid; rw [slot_step (by omega), hd]
      have hle := slot_lt A W B (i + 1)
      have hpl : 2 ^ (i + 1) ≤ 2 ^ 12 := Nat.pow_le_pow_right (by omega) (by omega)
      have hjn : 2 * j + d ≤ 4096 := by rw [HJ.out, ← HSS.out]; omega
      have hc1 : 48 ≤ c := by omega
      have hc2 : c ≤ 49 := by omega
      have HCD : Hid (c = 48 + d) := hcd
      clear hcd hd hle hpl
      go_wp2_with fail
      go_roundg (gk - 1)
      case measure => omega
      case rel =>
        have hcd := HCD.out
        exact ⟨i + 1, 2 * j + d, rfl, int_eq (by omega), int_eq (by omega), by omega, hjn, by unfold Hid; rw [HSS.out, HJ.out]⟩
    · have hit : i = t := by omega
      have HJ' : Hid (j = slotF A W B t) := by have := HJ.out; rw [hit] at this; exact this
      have hjl : j + 1 ≤ P := by have := slot_lt A W B t; rw [HJ'.out, HP.out]; omega
      have h1 := onesF_pos (s := s) (p := q) (j := j) HS.out
      have h2 := onesF_mono s q hjl
      have h3 := HN4.out
      have h4 : onesF s q (j + 1) ≤ 70000 := by omega
      clear h2 h3 hit HJ
      go_wp2_with fail
      refine (ones_any s q (j + 1) _ (by omega) (by omega) (by omega) hs (by omega)).mono ?_
      rintro r w2 ⟨rfl, rfl⟩
      rw [Int.toNat_natCast, show ((j : Int) + 1).toNat = j + 1 from by omega]
      go_wp2_with fail
      go_ret2
      refine ⟨ret2 (int_eq ?_) (int_eq (by omega)), _, rfl⟩
      rw [← HJ'.out]; omega

/-- A good entry that tells of a node: what is next is good. -/
theorem good_next {s : ByteArray} {e n p W B A : Nat} (hv : ¬ b2 s p ≤ 250) (hg : goodF s e n p (W - B) = true) (hW : B ≤ W) :
    ∃ n', n = n' + 1 ∧ 1002 ≤ b2 s p ∧ nodeF s (p + b2 s p - 1000) e (W - B) = true ∧ goodF s e n' (nextF s A W p B) (W - (B + byt s (p + b2 s p - 1000))) = true ∧ nextF s A W p B + 1 < e ∧ B + byt s (p + b2 s p - 1000) ≤ W := by
  cases n with
  | zero => simp [goodF, hv] at hg
  | succ n' =>
    rw [goodF] at hg
    simp only [Bool.or_eq_true, decide_eq_true_eq, hv, false_or, Bool.and_eq_true, List.all_eq_true, List.mem_range] at hg
    obtain ⟨⟨h1, h2⟩, h3⟩ := hg
    obtain ⟨hn1, hn2, hn3, hn4⟩ := nodeF_parts h2
    obtain ⟨hst, _⟩ := nodeF_set h2
    have hsl := slot_lt A W B (byt s (p + b2 s p - 1000))
    have o1 := onesF_pos (s := s) (p := p + b2 s p - 1000) (j := slotF A W B (byt s (p + b2 s p - 1000))) hst
    have o2 := onesF_mono s (p + b2 s p - 1000) (show slotF A W B (byt s (p + b2 s p - 1000)) + 1 ≤ 2 ^ byt s (p + b2 s p - 1000) by omega)
    refine ⟨n', rfl, h1, h2, ?_, ?_, by omega⟩
    · have := h3 (onesF s (p + b2 s p - 1000) (slotF A W B (byt s (p + b2 s p - 1000)) + 1) - 1) (by omega)
      rw [show W - (B + byt s (p + b2 s p - 1000)) = W - B - byt s (p + b2 s p - 1000) from by omega]
      exact this
    · unfold nextF; omega
theorem look_hop {s : ByteArray} {A W p B : Nat} (h : b2 s p ≤ 250) : ∀ n, lookF s A W n p B = (b2 s p, 0)
  | 0 => rfl
  | n + 1 => by rw [lookF, if_pos h]
theorem look_node {s : ByteArray} {A W n p B : Nat} (h : ¬ b2 s p ≤ 250) : lookF s A W (n + 1) p B = ((lookF s A W n (nextF s A W p B) (B + byt s (p + b2 s p - 1000))).1, (lookF s A W n (nextF s A W p B) (B + byt s (p + b2 s p - 1000))).2 + 1) := by
  rw [lookF, if_neg h]
theorem img_parts {s : ByteArray} (h : imgF s = true) : 10 ≤ s.size ∧ b2 s 4 = s.size ∧ 1 ≤ byt s 2 ∧ byt s 2 ≤ 12 ∧ byt s 3 ≤ byt s 2 ∧ goodF s (s.size - 2) (byt s 3) 6 (byt s 2) = true := by
  simp only [imgF, Bool.and_eq_true, decide_eq_true_eq] at h
  exact ⟨h.1.1.1.1.1, h.1.1.1.2, h.1.1.2.1, h.1.1.2.2.1, h.1.1.2.2.2, h.2⟩
end Go.Proofs.YtdfnmpmmkcpddaaDoor
