/- The walks of the program's images: a good entry. -/
import Derived.Test.YtdfnmpmmkcpddaaDoorGoB
import Derived.Test.YtdfnmpmmkcpddaaDoorWalkK
namespace Go.Proofs.YtdfnmpmmkcpddaaDoor
open Go.RowKit

/-- A node lies in block B. -/
def Nd (w : World) (B t : Nat) (u : ByteArray) (E K : Nat) : Prop := w.heap[B]? = some (.cells #[.int .i64 t, .string u, .int .i64 E, .int .i64 K] 93 (0, 0))
section
variable {w : World} {B t E K : Nat} {u : ByteArray}
theorem Nd.cells (h : Nd w B t u E K) : w.cell? ⟨B, 0, none⟩ = some (.int .i64 t) ∧ w.cell? ⟨B, 1, none⟩ = some (.string u) ∧ w.cell? ⟨B, 2, none⟩ = some (.int .i64 E) ∧ w.cell? ⟨B, 3, none⟩ = some (.int .i64 K) := by
  refine ⟨?_, ?_, ?_, ?_⟩ <;> (rw [cell_of_row w B _ _ _ _ h]; rfl)
theorem Nd.lt (h : Nd w B t u E K) : B < w.heap.size := (Array.getElem?_eq_some_iff.1 h).1
theorem Nd.below {w' : World} (h : Nd w B t u E K) (hb : Below w.heap.size w w') : Nd w' B t u E K := (hb.block B h.lt).trans h
end

/-- What is asked of isGoodEntry with n nodes left. -/
def EntC (s : ByteArray) (n : Nat) : Prop := ∀ (p b m : Int) (w : World), 0 ≤ p → p + 1 < s.size → 0 ≤ b → b ≤ 12 → m = n →
  Calls Tryd.prog 70 #[.string s, .int .i64 p, .int .i64 b, .int .i64 m] w fun r w' => r = .returned (.bool (goodF s s.size n p.toNat b.toNat)) ∧ Below w.heap.size w w'

theorem ent_hop (s : ByteArray) (n : Nat) (p b m : Int) (w : World) (hs : s.size ≤ 70000) (h0 : 0 ≤ p) (h : p + 1 < s.size) (hv : b2 s p.toNat ≤ 250) :
    Calls Tryd.prog 70 #[.string s, .int .i64 p, .int .i64 b, .int .i64 m] w fun r w' => r = .returned (.bool (goodF s s.size n p.toNat b.toNat)) ∧ Below w.heap.size w w' := by
  rw [goodF_hop hv n]
  have HZ : Hid (nz s p.toNat = b2 s p.toNat) := nz_in (by omega)
  go_enter Tryd.func70, Tryd.ntmps70
  go_wp2_with fail
  refine (numberAt_any s p _ h0 (by omega)).mono ?_
  rintro r w1 ⟨rfl, rfl⟩
  rw [HZ.out]
  go_wp2_with fail
  go_ret
  exact ⟨rfl, Below.refl _ _⟩

theorem ent_zero (s : ByteArray) (hs : s.size ≤ 70000) : EntC s 0 := by
  intro p b m w h0 h hb0 hb hm
  by_cases hv : b2 s p.toNat ≤ 250
  · exact ent_hop s 0 p b m w hs h0 h hv
  · have hF : goodF s s.size 0 p.toNat b.toNat = false := by simp [goodF, hv]
    rw [hF]
    subst hm
    have hbl := b2_le (s := s) (p := p.toNat) (by omega)
    have HZ : Hid (nz s p.toNat = b2 s p.toNat) := nz_in (by omega)
    by_cases h2 : b2 s p.toNat < 1002
    · go_enter Tryd.func70, Tryd.ntmps70
      go_wp2_with fail
      refine (numberAt_any s p _ h0 (by omega)).mono ?_
      rintro r w1 ⟨rfl, rfl⟩
      rw [HZ.out]
      go_wp2_with fail
      go_ret
      exact ⟨rfl, Below.refl _ _⟩
    · go_enter Tryd.func70, Tryd.ntmps70
      go_wp2_with fail
      refine (numberAt_any s p _ h0 (by omega)).mono ?_
      rintro r w1 ⟨rfl, rfl⟩
      rw [HZ.out]
      go_wp2_with fail
      go_ret
      exact ⟨rfl, Below.refl _ _⟩

set_option maxRecDepth 100000 in
set_option maxHeartbeats 1000000 in
theorem ent_succ (s : ByteArray) (n : Nat) (hs : s.size ≤ 70000) (hn : n ≤ 12) (ih : EntC s n) : EntC s (n + 1) := by
  intro p b m w h0 h hb0 hb hm
  by_cases hv : b2 s p.toNat ≤ 250
  · exact ent_hop s (n + 1) p b m w hs h0 h hv
  have HI : Hid (EntC s n) := ih
  clear ih
  have hbl := b2_le (s := s) (p := p.toNat) (by omega)
  have HM : Hid (m = ((n + 1 : Nat) : Int)) := hm
  have hm1 : 1 ≤ m := by omega
  have hm2 : m ≤ 13 := by omega
  clear hm
  obtain ⟨p, rfl⟩ := Int.eq_ofNat_of_zero_le h0
  obtain ⟨b, rfl⟩ := Int.eq_ofNat_of_zero_le hb0
  rw [Int.toNat_natCast] at hv hbl
  rw [Int.toNat_natCast, Int.toNat_natCast]
  obtain ⟨v, hve⟩ : ∃ v, b2 s p = v := ⟨_, rfl⟩
  rw [hve] at hv hbl
  have HV : Hid (b2 s p = v) := hve
  have HZ : Hid (nz s p = v) := by unfold Hid; rw [nz_in (by omega), hve]
  clear hve
  by_cases h2 : v < 1002
  · have hF : Hid (goodF s s.size (n + 1) p b = false) := by unfold Hid; rw [goodF, HV.out]; simp; omega
    go_enter Tryd.func70, Tryd.ntmps70
    go_wp2_with fail
    refine (numberAt_any s p _ h0 (by omega)).mono ?_
    rintro r w1 ⟨rfl, rfl⟩
    rw [Int.toNat_natCast, HZ.out]
    go_wp2_with fail
    go_ret
    rw [hF.out]
    exact ⟨rfl, Below.refl _ _⟩
  obtain ⟨q, hq⟩ : ∃ q : Nat, q = p + v - 1000 := ⟨_, rfl⟩
  have hqi : ((p : Int) + (v : Int) - 1000) = (q : Int) := by omega
  have hql : q ≤ 200000 := by omega
  cases hnd : nodeF s q s.size b with
  | false =>
    have hF : Hid (goodF s s.size (n + 1) p b = false) := by unfold Hid; rw [goodF, HV.out, ← hq, hnd]; simp; omega
    have HN : Hid (readV s q b = noNode) := readV_no hnd
    clear hnd hq
    go_enter Tryd.func70, Tryd.ntmps70
    go_wp2_with fail
    refine (numberAt_any s p _ h0 (by omega)).mono ?_
    rintro r w1 ⟨rfl, rfl⟩
    rw [Int.toNat_natCast, HZ.out]
    go_wp2_with fail
    refine (readNode_any s q b _ (by omega) (by omega) hs (by omega) (by omega)).mono ?_
    rintro r w2 ⟨rfl, hb2⟩
    rw [Int.toNat_natCast, Int.toNat_natCast, HN.out, noNode]
    go_wp2_with fail
    go_ret
    rw [hF.out]
    have := hb2.size
    exact ⟨rfl, hb2.alloc (by omega) _⟩
  | true =>
    obtain ⟨hn1, hn2, hn3, hn4⟩ := nodeF_parts hnd
    obtain ⟨t, ht⟩ : ∃ t, byt s q = t := ⟨_, rfl⟩
    have HT : Hid (byt s q = t) := ht
    rw [HT.out] at hn2 hn3 hn4
    obtain ⟨K, hK⟩ : ∃ K, onesF s q (2 ^ t) = K := ⟨_, rfl⟩
    obtain ⟨E, hE⟩ : ∃ E, entF s q = E := ⟨_, rfl⟩
    rw [hK, hE] at hn4
    have hF : Hid (goodF s s.size (n + 1) p b = (List.range K).all fun i => goodF s s.size n (E + 2 * i) (b - t)) := by
      unfold Hid; rw [goodF, HV.out, ← hq, hnd, HT.out, hK, hE]; simp [show ¬ v ≤ 250 from hv, show 1002 ≤ v by omega]
    have HN : Hid (readV s q b = nodeV s q) := readV_yes hnd
    have HK : Hid (onesF s q (2 ^ byt s q) = K) := by unfold Hid; rw [HT.out, hK]
    have HE : Hid (entF s q = E) := hE
    have htb : ((t : Int) == 0) = false := by rw [beq_eq_false_iff_ne]; omega
    clear hnd hq hK hE ht
    go_enter Tryd.func70, Tryd.ntmps70
    go_wp2_with fail
    refine (numberAt_any s p _ h0 (by omega)).mono ?_
    rintro r w1 ⟨rfl, rfl⟩
    rw [Int.toNat_natCast, HZ.out]
    go_wp2_with fail
    refine (readNode_any s q b _ (by omega) (by omega) hs (by omega) (by omega)).mono ?_
    rintro r w2 ⟨rfl, hb2⟩
    rw [Int.toNat_natCast, Int.toNat_natCast, HN.out, nodeV, HK.out, HE.out, HT.out]
    go_wp2_with fail
    go_loopg [11] K (fun g x wr => ∃ i : Nat, x = .int .i64 i ∧ g + i = K ∧ Nd wr w2.heap.size t (s.extract (q + 1) E) E K ∧ Below w1.heap.size w1 wr ∧ Hid (∀ j, j < i → goodF s s.size n (E + 2 * j) (b - t) = true))
    case atStart => exact ⟨0, rfl, by omega, heap_alloc_new w2 _, hb2.alloc hb2.size _, fun j hj => by omega⟩
    case round =>
      obtain ⟨i, rfl, hgi, hND, hbel, HA⟩ := hrel
      obtain ⟨c0, c1, c2, c3⟩ := hND.cells
      by_cases hlt : i < K
      · cases hg : goodF s s.size n (E + 2 * i) (b - t) with
        | true =>
          have HG : Hid (goodF s s.size n (E + 2 * i) (b - t) = true) := hg
          clear hg
          go_wp2_with fail
          refine (HI.out _ _ _ _ (by omega) (by omega) (by omega) (by omega) (by have := HM.out; omega)).mono ?_
          rintro r w3 ⟨rfl, hb3⟩
          rw [show ((E : Int) + (i : Int) * 2).toNat = E + 2 * i from by omega, show ((b : Int) - (t : Int)).toNat = b - t from by omega, HG.out]
          go_wp2_with fail
          go_roundg (gk - 1)
          case measure => omega
          case rel =>
            refine ⟨i + 1, int_eq (by omega), by omega, hND.below hb3, hbel.trans (hb3.mono hbel.size), ?_⟩
            intro j hj
            by_cases hji : j = i
            · subst hji; exact HG.out
            · exact HA.out j (by omega)
        | false =>
          have HG : Hid (goodF s s.size n (E + 2 * i) (b - t) = false) := hg
          clear hg
          go_wp2_with fail
          refine (HI.out _ _ _ _ (by omega) (by omega) (by omega) (by omega) (by have := HM.out; omega)).mono ?_
          rintro r w3 ⟨rfl, hb3⟩
          rw [show ((E : Int) + (i : Int) * 2).toNat = E + 2 * i from by omega, show ((b : Int) - (t : Int)).toNat = b - t from by omega, HG.out]
          go_wp2_with fail
          go_ret
          rw [hF.out]
          refine ⟨ret1 (bool_eq ?_), hbel.trans (hb3.mono hbel.size)⟩
          symm
          rw [List.all_eq_false]
          exact ⟨i, List.mem_range.2 hlt, by rw [HG.out]; simp⟩
      · go_wp2_with fail
        go_ret
        rw [hF.out]
        refine ⟨ret1 (bool_eq ?_), hbel⟩
        symm
        rw [List.all_eq_true]
        intro j hj
        exact HA.out j (by have := List.mem_range.1 hj; omega)

theorem ent_any (s : ByteArray) (hs : s.size ≤ 70000) : ∀ n, n ≤ 13 → EntC s n
  | 0, _ => ent_zero s hs
  | n + 1, h => ent_succ s n hs (by omega) (ent_any s hs n (by omega))
end Go.Proofs.YtdfnmpmmkcpddaaDoor
