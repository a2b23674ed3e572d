import Derived.Test.YtdfnmpmmkcpddaaDoorQ28
import Derived.Test.YtdfnmpmmkcpddaaDoorQ21
import Derived.Test.YtdfnmpmmkcpddaaDoorQ09
import Derived.Test.YtdfnmpmmkcpddaaDoorQ22
import Derived.Test.YtdfnmpmmkcpddaaDoorQ23
/- The walks of the program's images: a good entry. -/
namespace Go.Proofs.YtdfnmpmmkcpddaaDoor
open Go.RowKit

/-- A node lies in block B. -/
def Nd (w : World) (B t : Nat) (u : ByteArray) (E K : Nat) : Prop := w.heap[B]? = some (.cells #[.int .i64 t, .string u, .int .i64 E, .int .i64 K] 93 (0, 0))
section
variable {w : World} {B t E K : Nat} {u : ByteArray}
theorem Nd.cells (h : Nd w B t u E K) : w.cell? ⟨B, 0, none⟩ = some (.int .i64 t) ∧ w.cell? ⟨B, 1, none⟩ = some (.string u) ∧ w.cell? ⟨B, 2, none⟩ = some (.int .i64 E) ∧ w.cell? ⟨B, 3, none⟩ = some (.int .i64 K) := by
  refine ⟨?_, ?_, ?_, ?_⟩ <;> (rw [cell_of_row w B _ _ _ _ h]; rfl)
theorem Nd.lt (h : Nd w B t u E K) : B < w.heap.size := (Array.getElem?_eq_some_iff.1 h).1
theorem Nd.below {w' : World} (h : Nd w B t u E K) (hb : Below w.heap.size w w') : Nd w' B t u E K := (hb.block B h.lt).trans h
end

/-- What is asked of isGoodEntry with n nodes left. -/
def EntC (s : ByteArray) (n : Nat) : Prop := ∀ (p b m : Int) (w : World), 0 ≤ p → p + 1 < s.size → 0 ≤ b → b ≤ 12 → m = n →
  Calls Tryd.prog 70 #[.string s, .int .i64 p, .int .i64 b, .int .i64 m] w fun r w' => r = .returned (.bool (goodF s s.size n p.toNat b.toNat)) ∧ Below w.heap.size w w'

theorem ent_hop (s : ByteArray) (n : Nat) (p b m : Int) (w : World) (hs : s.size ≤ 70000) (h0 : 0 ≤ p) (h : p + 1 < s.size) (hv : b2 s p.toNat ≤ 250) :
    Calls Tryd.prog 70 #[.string s, .int .i64 p, .int .i64 b, .int .i64 m] w fun r w' => r = .returned (.bool (goodF s s.size n p.toNat b.toNat)) ∧ Below w.heap.size w w' := by
  rw [goodF_hop hv n]
  have HZ : Hid (nz s p.toNat = b2 s p.toNat) := nz_in (by omega)
  go_enter Tryd.func70, Tryd.ntmps70
  go_wp2_with fail
  refine (numberAt_any s p _ h0 (by omega)).mono ?_
  rintro r w1 ⟨rfl, rfl⟩
  rw [HZ.out]
  go_wp2_with fail
  go_ret
  exact ⟨rfl, Below.refl _ _⟩

theorem ent_zero (s : ByteArray) (hs : s.size ≤ 70000) : EntC s 0 := by
  intro p b m w h0 h hb0 hb hm
  by_cases hv : b2 s p.toNat ≤ 250
  · exact ent_hop s 0 p b m w hs h0 h hv
  · have hF : goodF s s.size 0 p.toNat b.toNat = false := by simp [goodF, hv]
    rw [hF]
    subst hm
    have hbl := b2_le (s := s) (p := p.toNat) (by omega)
    have HZ : Hid (nz s p.toNat = b2 s p.toNat) := nz_in (by omega)
    by_cases h2 : b2 s p.toNat < 1002
    · go_enter Tryd.func70, Tryd.ntmps70
      go_wp2_with fail
      refine (numberAt_any s p _ h0 (by omega)).mono ?_
      rintro r w1 ⟨rfl, rfl⟩
      rw [HZ.out]
      go_wp2_with fail
      go_ret
      exact ⟨rfl, Below.refl _ _⟩
    · go_enter Tryd.func70, Tryd.ntmps70
      go_wp2_with fail
      refine (numberAt_any s p _ h0 (by omega)).mono ?_
      rintro r w1 ⟨rfl, rfl⟩
      rw [HZ.out]
      go_wp2_with fail
      go_ret
      exact ⟨rfl, Below.refl _ _⟩

set_option maxRecDepth 100000 in
set_option maxHeartbeats 1000000 in
theorem ent_succ (s : ByteArray) (n : Nat) (hs : s.size ≤ 70000) (hn : n ≤ 12) (ih : EntC s n) : EntC s (n + 1) := by
  intro p b m w h0 h hb0 hb hm
  by_cases hv : b2 s p.toNat ≤ 250
  · exact ent_hop s (n + 1) p b m w hs h0 h hv
  have HI : Hid (EntC s n) := ih
  clear ih
  have hbl := b2_le (s := s) (p := p.toNat) (by omega)
  have HM : Hid (m = ((n + 1 : Nat) : Int)) := hm
  have hm1 : 1 ≤ m := by omega
  have hm2 : m ≤ 13 := by omega
  clear hm
  obtain ⟨p, rfl⟩ := Int.eq_ofNat_of_zero_le h0
  obtain ⟨b, rfl⟩ := Int.eq_ofNat_of_zero_le hb0
  rw [Int.toNat_natCast] at hv hbl
  rw [Int.toNat_natCast, Int.toNat_natCast]
  obtain ⟨v, hve⟩ : ∃ v, b2 s p = v := ⟨_, rfl⟩
  rw [hve] at hv hbl
  have HV : Hid (b2 s p = v) := hve
  have HZ : Hid (nz s p = v) := by unfold Hid; rw [nz_in (by omega), hve]
  clear hve
  by_cases h2 : v < 1002
  · have hF : Hid (goodF s s.size (n + 1) p b = false) := by unfold Hid; rw [goodF, HV.out]; simp; omega
    go_enter Tryd.func70, Tryd.ntmps70
    go_wp2_with fail
    refine (numberAt_any s p _ h0 (by omega)).mono ?_
    rintro r w1 ⟨rfl, rfl⟩
    rw [Int.toNat_natCast, HZ.out]
    go_wp2_with fail
    go_ret
    rw [hF.out]
    exact ⟨rfl, Below.refl _ _⟩
  obtain ⟨q, hq⟩ : ∃ q : Nat, q = p + v - 1000 := ⟨_, rfl⟩
  have hqi : ((p : Int) + (v : Int) - 1000) = (q : Int) := by omega
  have hql : q ≤ 200000 := by omega
  cases hnd : nodeF s q s.size b with
  | false =>
    have hF : Hid (goodF s s.size (n + 1) p b = false) := by unfold Hid; rw [goodF, HV.out, ← hq, hnd]; simp; omega
    have HN : Hid (readV s q b = noNode) := readV_no hnd
    clear hnd hq
    go_enter Tryd.func70, Tryd.ntmps70
    go_wp2_with fail
    refine (numberAt_any s p _ h0 (by omega)).mono ?_
    rintro r w1 ⟨rfl, rfl⟩
    rw [Int.toNat_natCast, HZ.out]
    go_wp2_with fail
    refine (readNode_any s q b _ (by omega) (by omega) hs (by omega) (by omega)).mono ?_
    rintro r w2 ⟨rfl, hb2⟩
    rw [Int.toNat_natCast, Int.toNat_natCast, HN.out, noNode]
    go_wp2_with fail
    go_ret
    rw [hF.out]
    have := hb2.size
    exact ⟨rfl, hb2.alloc (by omega) _⟩
  | true =>
    obtain ⟨hn1, hn2, hn3, hn4⟩ := nodeF_parts hnd
    obtain ⟨t, ht⟩ : ∃ t, byt s q = t := ⟨_, rfl⟩
    have HT : Hid (byt s q = t) := ht
    rw [HT.out] at hn2 hn3 hn4
    obtain ⟨K, hK⟩ : ∃ K, onesF s q (2 ^ t) = K := ⟨_, rfl⟩
    obtain ⟨E, hE⟩ : ∃ E, entF s q = E := ⟨_, rfl⟩
    rw [hK, hE] at hn4
    have hF : Hid (goodF s s.size (n + 1) p b = (List.range K).all fun i => goodF s s.size n (E + 2 * i) (b - t)) := by
      unfold Hid; rw [goodF, HV.out, ← hq, hnd, HT.out, hK, hE]; simp [show ¬ v ≤ 250 from hv, show 1002 ≤ v by omega]
    have HN : Hid (readV s q b = nodeV s q) := readV_yes hnd
    have HK : Hid (onesF s q (2 ^ byt s q) = K) := by unfold Hid; rw [HT.out, hK]
    have HE : Hid (entF s q = E) := hE
    have htb : ((t : Int) == 0) = false := by rw [beq_eq_false_iff_ne]; omega
    clear hnd hq hK hE ht
    go_enter Tryd.func70, Tryd.ntmps70
    go_wp2_with fail
    refine (numberAt_any s p _ h0 (by omega)).mono ?_
    rintro r w1 ⟨rfl, rfl⟩
    rw [Int.toNat_natCast, HZ.out]
    go_wp2_with fail
    refine (readNode_any s q b _ (by omega) (by omega) hs (by omega) (by omega)).mono ?_
    rintro r w2 ⟨rfl, hb2⟩
    rw [Int.toNat_natCast, Int.toNat_natCast, HN.out, nodeV, HK.out, HE.out, HT.out]
    go_wp2_with fail
    go_loopg [11] K (fun g x wr => ∃ i : Nat, x = .int .i64 i ∧ g + i = K ∧ Nd wr w2.heap.size t (s.extract (q + 1) E) E K ∧ Below w1.heap.size w1 wr ∧ Hid (∀ j, j < i → goodF s s.size n (E + 2 * j) (b - t) = true))
    case atStart => exact ⟨0, rfl, by omega, heap_alloc_new w2 _, hb2.alloc hb2.size _, fun j hj => by omega⟩
    case round =>
      obtain ⟨i, rfl, hgi, hND, hbel, HA⟩ := hrel
      obtain ⟨c0, c1, c2, c3⟩ := hND.cells
      by_cases hlt : i < K
      · cases hg : goodF s s.size n (E + 2 * i) (b - t) with
        | true =>
          have HG : Hid (goodF s s.size n (E + 2 * i) (b - t) = true) := hg
          clear hg
          go_wp2_with fail
          refine (HI.out _ _ _ _ (by omega) (by omega) (by omega) (by omega) (by have := HM.out; omega)).mono ?_
          rintro r w3 ⟨rfl, hb3⟩
          rw [show ((E : Int) + (i : Int) * 2).toNat = E + 2 * i from by omega, show ((b : Int) - (t : Int)).toNat = b - t from by omega, HG.out]
          go_wp2_with fail
          go_roundg (gk - 1)
          case measure => omega
          case rel =>
            refine ⟨i + 1, int_eq (by omega), by omega, hND.below hb3, hbel.trans (hb3.mono hbel.size), ?_⟩
            intro j hj
            by_cases hji : j = i
            · subst hji; exact HG.out
            · exact HA.out j (by omega)
        | false =>
          have HG : Hid (goodF s s.size n (E + 2 * i) (b - t) = false) := hg
          clear hg
          go_wp2_with fail
          refine (HI.out _ _ _ _ (by omega) (by omega) (by omega) (by omega) (by have := HM.out; omega)).mono ?_
          rintro r w3 ⟨rfl, hb3⟩
          rw [show ((E : Int) + (i : Int) * 2).toNat = E + 2 * i from by omega, show ((b : Int) - (t : Int)).toNat = b - t from by omega, HG.out]
          go_wp2_with fail
          go_ret
          rw [hF.out]
          refine ⟨ret1 (bool_eq ?_), hbel.trans (hb3.mono hbel.size)⟩
          symm
          rw [List.all_eq_false]
          exact ⟨i, List.mem_range.2 hlt, by rw [HG.out]; simp⟩
      · go_wp2_with fail
        go_ret
        rw [hF.out]
        refine ⟨ret1 (bool_eq ?_), hbel⟩
        symm
        rw [List.all_eq_true]
        intro j hj
        exact HA.out j (by have := List.mem_range.1 hj; omega)

theorem ent_any (s : ByteArray) (hs : s.size ≤ 70000) : ∀ n, n ≤ 13 → EntC s n
  | 0, _ => ent_zero s hs
  | n + 1, h => ent_succ s n hs (by omega) (ent_any s hs n (by omega))
end Go.Proofs.YtdfnmpmmkcpddaaDoor
/- The walks of the program's images: a good image, Load. -/
namespace Go.Proofs.YtdfnmpmmkcpddaaDoor
open Go.RowKit

theorem sign_eq {s : ByteArray} (h : 10 ≤ s.size) : pre (⟨#[70, 73]⟩ : ByteArray) s = decide (byt s 0 = 70 ∧ byt s 1 = 73) := by
  rw [← head_eq h, ← pre_yes (show (⟨#[70, 73]⟩ : ByteArray).size ≤ s.size from by show 2 ≤ s.size; omega)]
  rw [ByteArray.toList_eq, ByteArray.toList_eq, ByteArray.toList_eq]
  rfl

set_option maxRecDepth 100000 in
set_option maxHeartbeats 2000000 in
theorem isImage_any (s : ByteArray) (w : World) (hm : s.size ≤ maxLen) :
    Calls Tryd.prog 42 #[.string s] w fun r w' => r = .returned (.bool (imgF s)) ∧ Below w.heap.size w w' := by
  unfold maxLen at hm
  by_cases h1 : 10 ≤ s.size
  · have Z4 : Hid (nz s 4 = b2 s 4) := nz_in (by omega)
    by_cases h2 : b2 s 4 = s.size
    · have hs : s.size ≤ 65535 := by rw [← h2]; exact b2_le (by omega)
      have h2b : ((b2 s 4 : Int) != (s.size : Int)) = false := by rw [bne_eq_false_iff_eq]; omega
      have i2 : 2 < s.size := by omega
      have i3 : 3 < s.size := by omega
      obtain ⟨W, hW⟩ : ∃ W, byt s 2 = W := ⟨_, rfl⟩
      obtain ⟨D, hD⟩ : ∃ D, byt s 3 = D := ⟨_, rfl⟩
      have ZW : Hid (bz s 2 = W) := by unfold Hid; rw [bz_in i2, hW]
      have ZD : Hid (bz s 3 = D) := by unfold Hid; rw [bz_in i3, hD]
      have hW2 : W < 256 := by rw [← ZW.out]; exact bz_lt _ _
      have hD2 : D < 256 := by rw [← ZD.out]; exact bz_lt _ _
      have hh := sign_eq h1
      obtain ⟨S, hS⟩ : ∃ S, decide (byt s 0 = 70 ∧ byt s 1 = 73) = S := ⟨_, rfl⟩
      rw [hS] at hh
      have hI : Hid (imgF s = (S && decide (1 ≤ W ∧ W ≤ 12 ∧ D ≤ W) && decide (sumF s (s.size - 2) = b2 s (s.size - 2)) && goodF s (s.size - 2) D 6 W)) := by
        unfold Hid imgF; rw [hS, hW, hD, h2]; simp [h1]
      have HS : Hid (pre (⟨#[70, 73]⟩ : ByteArray) s = S) := hh
      clear hW hD h2 hh hS
      by_cases h3 : S = true ∧ 1 ≤ W ∧ W ≤ 12 ∧ D ≤ W
      · obtain ⟨rfl, h31, h32, h33⟩ := h3
        obtain ⟨u, hu⟩ : ∃ u, s.extract 0 (s.size - 2) = u := ⟨_, rfl⟩
        have hus : u.size = s.size - 2 := by rw [← hu, ByteArray.size_extract]; omega
        have HU : Hid (sumF u u.size = sumF s (s.size - 2)) := by unfold Hid; rw [hus, ← hu]; exact sumF_cut (by omega) _ (Nat.le_refl _)
        have HG : Hid (goodF u u.size D 6 W = goodF s (s.size - 2) D 6 W) := by unfold Hid; rw [hus, ← hu]; exact goodF_cut (by omega) _ _ _ (by omega)
        have ZS : Hid (nz s u.size = b2 s (s.size - 2)) := by unfold Hid; rw [hus]; exact nz_in (by omega)
        have hu8 : 8 ≤ u.size := by omega
        have hu9 : u.size ≤ 65533 := by omega
        clear hus
        by_cases h4 : sumF s (s.size - 2) = b2 s (s.size - 2)
        · have hsb : ((sumF s (s.size - 2) : Int) != (b2 s (s.size - 2) : Int)) = false := by rw [bne_eq_false_iff_eq]; omega
          have H4 : Hid (sumF s (s.size - 2) = b2 s (s.size - 2)) := h4
          clear h4
          go_enter Tryd.func42, Tryd.ntmps42
          go_wp2_with fail
          refine (numberAt_any s 4 _ (by omega) (by omega)).mono ?_
          rintro r w1 ⟨rfl, rfl⟩
          rw [show (4 : Int).toNat = 4 from rfl, Z4.out]
          go_wp2_with fail
          refine (byteAt_any s 2 _ (by omega)).mono ?_
          rintro r w1 ⟨rfl, rfl⟩
          rw [show (2 : Int).toNat = 2 from rfl, ZW.out]
          go_wp2_with fail
          refine (byteAt_any s 3 _ (by omega)).mono ?_
          rintro r w1 ⟨rfl, rfl⟩
          rw [show (3 : Int).toNat = 3 from rfl, ZD.out]
          go_wp2_with fail
          refine (beginsWith_any s ⟨#[70, 73]⟩ _).mono ?_
          rintro r w1 ⟨rfl, rfl⟩
          rw [HS.out]
          go_wp2_with fail
          refine (sumOf_any u _ (by omega)).mono ?_
          rintro r w1 ⟨rfl, rfl⟩
          rw [HU.out]
          go_wp2_with fail
          refine (numberAt_any s u.size _ (by omega) (by omega)).mono ?_
          rintro r w1 ⟨rfl, rfl⟩
          rw [Int.toNat_natCast, ZS.out]
          go_wp2_with fail
          refine (ent_any u (by omega) D (by omega) 6 W D _ (by omega) (by omega) (by omega) (by omega) rfl).mono ?_
          rintro r w1 ⟨rfl, hb1⟩
          rw [show (6 : Int).toNat = 6 from rfl, Int.toNat_natCast, HG.out]
          go_wp2_with fail
          go_ret
          rw [hI.out, H4.out]
          refine ⟨ret1 (bool_eq ?_), hb1⟩
          simp [h31, h32, h33]
        · have hsb : ((sumF s (s.size - 2) : Int) != (b2 s (s.size - 2) : Int)) = true := by rw [bne_iff_ne]; omega
          have HF : Hid (imgF s = false) := by unfold Hid; rw [hI.out]; simp [h4]
          clear h4
          go_enter Tryd.func42, Tryd.ntmps42
          go_wp2_with fail
          refine (numberAt_any s 4 _ (by omega) (by omega)).mono ?_
          rintro r w1 ⟨rfl, rfl⟩
          rw [show (4 : Int).toNat = 4 from rfl, Z4.out]
          go_wp2_with fail
          refine (byteAt_any s 2 _ (by omega)).mono ?_
          rintro r w1 ⟨rfl, rfl⟩
          rw [show (2 : Int).toNat = 2 from rfl, ZW.out]
          go_wp2_with fail
          refine (byteAt_any s 3 _ (by omega)).mono ?_
          rintro r w1 ⟨rfl, rfl⟩
          rw [show (3 : Int).toNat = 3 from rfl, ZD.out]
          go_wp2_with fail
          refine (beginsWith_any s ⟨#[70, 73]⟩ _).mono ?_
          rintro r w1 ⟨rfl, rfl⟩
          rw [HS.out]
          go_wp2_with fail
          refine (sumOf_any u _ (by omega)).mono ?_
          rintro r w1 ⟨rfl, rfl⟩
          rw [HU.out]
          go_wp2_with fail
          refine (numberAt_any s u.size _ (by omega) (by omega)).mono ?_
          rintro r w1 ⟨rfl, rfl⟩
          rw [Int.toNat_natCast, ZS.out]
          go_wp2_with fail
          go_ret
          rw [HF.out]
          exact ⟨rfl, Below.refl _ _⟩
      · have HF : Hid (imgF s = false) := by
          unfold Hid; rw [hI.out]
          cases S with
          | false => simp
          | true => simp only [show ¬ (1 ≤ W ∧ W ≤ 12 ∧ D ≤ W) from fun h => h3 ⟨rfl, h⟩, decide_false, Bool.and_false, Bool.false_and]
        cases S with
        | false =>
          clear h3
          go_enter Tryd.func42, Tryd.ntmps42
          go_wp2_with fail
          refine (numberAt_any s 4 _ (by omega) (by omega)).mono ?_
          rintro r w1 ⟨rfl, rfl⟩
          rw [show (4 : Int).toNat = 4 from rfl, Z4.out]
          go_wp2_with fail
          refine (byteAt_any s 2 _ (by omega)).mono ?_
          rintro r w1 ⟨rfl, rfl⟩
          rw [show (2 : Int).toNat = 2 from rfl, ZW.out]
          go_wp2_with fail
          refine (byteAt_any s 3 _ (by omega)).mono ?_
          rintro r w1 ⟨rfl, rfl⟩
          rw [show (3 : Int).toNat = 3 from rfl, ZD.out]
          go_wp2_with fail
          refine (beginsWith_any s ⟨#[70, 73]⟩ _).mono ?_
          rintro r w1 ⟨rfl, rfl⟩
          rw [HS.out]
          go_wp2_with fail
          go_ret
          rw [HF.out]
          exact ⟨rfl, Below.refl _ _⟩
        | true =>
          by_cases h31 : 1 ≤ W
          · by_cases h32 : W ≤ 12
            · have h33 : ¬ D ≤ W := fun h => h3 ⟨rfl, h31, h32, h⟩
              have g1 : decide ((W : Int) < 1) = false := by rw [decide_eq_false_iff_not]; omega
              have g2 : decide ((12 : Int) < (W : Int)) = false := by rw [decide_eq_false_iff_not]; omega
              have g3 : decide ((W : Int) < (D : Int)) = true := by rw [decide_eq_true_eq]; omega
              clear h3
              go_enter Tryd.func42, Tryd.ntmps42
              go_wp2_with fail
              refine (numberAt_any s 4 _ (by omega) (by omega)).mono ?_
              rintro r w1 ⟨rfl, rfl⟩
              rw [show (4 : Int).toNat = 4 from rfl, Z4.out]
              go_wp2_with fail
              refine (byteAt_any s 2 _ (by omega)).mono ?_
              rintro r w1 ⟨rfl, rfl⟩
              rw [show (2 : Int).toNat = 2 from rfl, ZW.out]
              go_wp2_with fail
              refine (byteAt_any s 3 _ (by omega)).mono ?_
              rintro r w1 ⟨rfl, rfl⟩
              rw [show (3 : Int).toNat = 3 from rfl, ZD.out]
              go_wp2_with fail
              refine (beginsWith_any s ⟨#[70, 73]⟩ _).mono ?_
              rintro r w1 ⟨rfl, rfl⟩
              rw [HS.out]
              go_wp2_with fail
              go_ret
              rw [HF.out]
              exact ⟨rfl, Below.refl _ _⟩
            · have g1 : decide ((W : Int) < 1) = false := by rw [decide_eq_false_iff_not]; omega
              have g2 : decide ((12 : Int) < (W : Int)) = true := by rw [decide_eq_true_eq]; omega
              clear h3
              go_enter Tryd.func42, Tryd.ntmps42
              go_wp2_with fail
              refine (numberAt_any s 4 _ (by omega) (by omega)).mono ?_
              rintro r w1 ⟨rfl, rfl⟩
              rw [show (4 : Int).toNat = 4 from rfl, Z4.out]
              go_wp2_with fail
              refine (byteAt_any s 2 _ (by omega)).mono ?_
              rintro r w1 ⟨rfl, rfl⟩
              rw [show (2 : Int).toNat = 2 from rfl, ZW.out]
              go_wp2_with fail
              refine (byteAt_any s 3 _ (by omega)).mono ?_
              rintro r w1 ⟨rfl, rfl⟩
              rw [show (3 : Int).toNat = 3 from rfl, ZD.out]
              go_wp2_with fail
              refine (beginsWith_any s ⟨#[70, 73]⟩ _).mono ?_
              rintro r w1 ⟨rfl, rfl⟩
              rw [HS.out]
              go_wp2_with fail
              go_ret
              rw [HF.out]
              exact ⟨rfl, Below.refl _ _⟩
          · clear h3
            go_enter Tryd.func42, Tryd.ntmps42
            go_wp2_with fail
            refine (numberAt_any s 4 _ (by omega) (by omega)).mono ?_
            rintro r w1 ⟨rfl, rfl⟩
            rw [show (4 : Int).toNat = 4 from rfl, Z4.out]
            go_wp2_with fail
            refine (byteAt_any s 2 _ (by omega)).mono ?_
            rintro r w1 ⟨rfl, rfl⟩
            rw [show (2 : Int).toNat = 2 from rfl, ZW.out]
            go_wp2_with fail
            refine (byteAt_any s 3 _ (by omega)).mono ?_
            rintro r w1 ⟨rfl, rfl⟩
            rw [show (3 : Int).toNat = 3 from rfl, ZD.out]
            go_wp2_with fail
            refine (beginsWith_any s ⟨#[70, 73]⟩ _).mono ?_
            rintro r w1 ⟨rfl, rfl⟩
            rw [HS.out]
            go_wp2_with fail
            go_ret
            rw [HF.out]
            exact ⟨rfl, Below.refl _ _⟩
    · have h2b : ((b2 s 4 : Int) != (s.size : Int)) = true := by rw [bne_iff_ne]; omega
      have HF : Hid (imgF s = false) := by unfold Hid imgF; simp [h2]
      clear h2
      go_enter Tryd.func42, Tryd.ntmps42
      go_wp2_with fail
      refine (numberAt_any s 4 _ (by omega) (by omega)).mono ?_
      rintro r w1 ⟨rfl, rfl⟩
      rw [show (4 : Int).toNat = 4 from rfl, Z4.out]
      go_wp2_with fail
      go_ret
      rw [HF.out]
      exact ⟨rfl, Below.refl _ _⟩
  · have hF : Hid (imgF s = false) := by unfold Hid imgF; simp [h1]
    go_enter Tryd.func42, Tryd.ntmps42
    go_wp2_with fail
    go_ret
    rw [hF.out]
    exact ⟨rfl, Below.refl _ _⟩
/-- P8's answer, by the program. -/
theorem load_any (s : ByteArray) (w : World) (hm : s.size ≤ maxLen) :
    Calls Tryd.prog 29 #[.string s] w fun r w' => r = .returned (.int .i64 (if imgF s = true then 0 else 6)) ∧ Below w.heap.size w w' := by
  cases h : imgF s with
  | true =>
    have H : Hid (imgF s = true) := h
    clear h
    rw [if_pos rfl]
    go_enter Tryd.func29, Tryd.ntmps29
    go_wp2_with fail
    refine (isImage_any s _ hm).mono ?_
    rintro r w1 ⟨rfl, hb1⟩
    rw [H.out]
    go_wp2_with fail
    go_ret
    exact ⟨rfl, hb1⟩
  | false =>
    have H : Hid (imgF s = false) := h
    clear h
    rw [if_neg (by simp)]
    go_enter Tryd.func29, Tryd.ntmps29
    go_wp2_with fail
    refine (isImage_any s _ hm).mono ?_
    rintro r w1 ⟨rfl, hb1⟩
    rw [H.out]
    go_wp2_with fail
    go_ret
    exact ⟨rfl, hb1⟩
end Go.Proofs.YtdfnmpmmkcpddaaDoor
/- The walks of the program's Lookup: the image at a place, a walk through it. -/
namespace Go.Proofs.YtdfnmpmmkcpddaaDoor
open Go.RowKit

set_option maxRecDepth 100000 in
theorem imageAt_no (s : ByteArray) (k : Nat) (w : World) (hm : s.size ≤ maxLen) (hk : k ≤ s.size) (hk2 : k ≤ 9223372036854775802) (h : s.size < k + nz s (k + 4)) :
    Calls Tryd.prog 41 #[.string s, .int .i64 k] w fun r w' => r = .returned (.string ⟨#[]⟩) ∧ w' = w := by
  have hm' : s.size ≤ 9223372036854775807 := by unfold maxLen at hm; omega
  clear hm
  obtain ⟨n, hn⟩ : ∃ n, nz s (k + 4) = n := ⟨_, rfl⟩
  have hnl : n ≤ 65535 := by rw [← hn]; exact nz_le _ _
  rw [hn] at h
  have HN : Hid (nz s (k + 4) = n) := hn
  clear hn
  go_enter Tryd.func41, Tryd.ntmps41
  go_wp2_with fail
  refine (numberAt_any s (k + 4) _ (by omega) (by omega)).mono ?_
  rintro r w1 ⟨rfl, rfl⟩
  rw [show ((k : Int) + 4).toNat = k + 4 from by omega, HN.out]
  go_wp2_with fail
  go_ret
  exact ⟨rfl, rfl⟩
set_option maxRecDepth 100000 in
theorem imageAt_yes (s : ByteArray) (k : Nat) (w : World) (hm : s.size ≤ maxLen) (hk2 : k ≤ 9223372036854775802) (h : k + nz s (k + 4) ≤ s.size) :
    Calls Tryd.prog 41 #[.string s, .int .i64 k] w fun r w' => r = .returned (.string (s.extract k (k + nz s (k + 4)))) ∧ w' = w := by
  have hm' : s.size ≤ 9223372036854775807 := by unfold maxLen at hm; omega
  clear hm
  obtain ⟨n, hn⟩ : ∃ n, nz s (k + 4) = n := ⟨_, rfl⟩
  have hnl : n ≤ 65535 := by rw [← hn]; exact nz_le _ _
  rw [hn] at h ⊢
  have HN : Hid (nz s (k + 4) = n) := hn
  clear hn
  go_enter Tryd.func41, Tryd.ntmps41
  go_wp2_with fail
  refine (numberAt_any s (k + 4) _ (by omega) (by omega)).mono ?_
  rintro r w1 ⟨rfl, rfl⟩
  rw [show ((k : Int) + 4).toNat = k + 4 from by omega, HN.out]
  go_wp2_with fail
  go_ret
  exact ⟨rfl, rfl⟩
theorem extract_nil (s : ByteArray) (k : Nat) : s.extract k k = ⟨#[]⟩ := by
  refine ba_ext ?_
  simp
set_option maxRecDepth 100000 in
theorem imageAt_top (s : ByteArray) (k : Nat) (w : World) (hm : s.size ≤ maxLen) (hk : k ≤ s.size) (hk2 : 9223372036854775802 < k) :
    Calls Tryd.prog 41 #[.string s, .int .i64 k] w fun r w' => r = .returned (.string ⟨#[]⟩) ∧ w' = w := by
  have hm' : s.size ≤ 9223372036854775807 := by unfold maxLen at hm; omega
  clear hm
  have HE : Hid (s.extract k k = ⟨#[]⟩) := extract_nil s k
  by_cases h1 : k = 9223372036854775803
  · have hw : (k : Int) + 4 = 9223372036854775807 := by omega
    go_enter Tryd.func41, Tryd.ntmps41
    go_wp2_with fail
    refine (numberAt_top s _ (by omega)).mono ?_
    rintro r w1 ⟨rfl, rfl⟩
    go_wp2_with fail
    go_ret
    exact ⟨rfl, rfl⟩
  · have hw : wrap64 ((k : Int) + 4) = (k : Int) + 4 - 18446744073709551616 := by unfold wrap64; omega
    go_enter Tryd.func41, Tryd.ntmps41
    go_wp2_with fail
    rw [hw]
    refine (numberAt_neg s _ _ (by omega) (by omega)).mono ?_
    rintro r w1 ⟨rfl, rfl⟩
    go_wp2_with fail
    go_ret
    exact ⟨rfl, rfl⟩
end Go.Proofs.YtdfnmpmmkcpddaaDoor
