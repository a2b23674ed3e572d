/- The walks of the program's images: a good image, Load. -/
import Derived.Test.YtdfnmpmmkcpddaaDoorGoC
import Derived.Test.YtdfnmpmmkcpddaaDoorWalkH
namespace Go.Proofs.YtdfnmpmmkcpddaaDoor
open Go.RowKit

theorem sign_eq {s : ByteArray} (h : 10 ≤ s.size) : pre (⟨#[70, 73]⟩ : ByteArray) s = decide (byt s 0 = 70 ∧ byt s 1 = 73) := by
  rw [← head_eq h, ← pre_yes (show (⟨#[70, 73]⟩ : ByteArray).size ≤ s.size from by show 2 ≤ s.size; omega)]
  rw [ByteArray.toList_eq, ByteArray.toList_eq, ByteArray.toList_eq]
  rfl

set_option maxRecDepth 100000 in
set_option maxHeartbeats 2000000 in
theorem isImage_any (s : ByteArray) (w : World) (hm : s.size ≤ maxLen) :
    Calls Tryd.prog 42 #[.string s] w fun r w' => r = .returned (.bool (imgF s)) ∧ Below w.heap.size w w' := by
  unfold maxLen at hm
  by_cases h1 : 10 ≤ s.size
  · have Z4 : Hid (nz s 4 = b2 s 4) := nz_in (by omega)
    by_cases h2 : b2 s 4 = s.size
    · have hs : s.size ≤ 65535 := by rw [← h2]; exact b2_le (by omega)
      have h2b : ((b2 s 4 : Int) != (s.size : Int)) = false := by rw [bne_eq_false_iff_eq]; omega
      have i2 : 2 < s.size := by omega
      have i3 : 3 < s.size := by omega
      obtain ⟨W, hW⟩ : ∃ W, byt s 2 = W := ⟨_, rfl⟩
      obtain ⟨D, hD⟩ : ∃ D, byt s 3 = D := ⟨_, rfl⟩
      have ZW : Hid (bz s 2 = W) := by unfold Hid; rw [bz_in i2, hW]
      have ZD : Hid (bz s 3 = D) := by unfold Hid; rw [bz_in i3, hD]
      have hW2 : W < 256 := by rw [← ZW.out]; exact bz_lt _ _
      have hD2 : D < 256 := by rw [← ZD.out]; exact bz_lt _ _
      have hh := sign_eq h1
      obtain ⟨S, hS⟩ : ∃ S, decide (byt s 0 = 70 ∧ byt s 1 = 73) = S := ⟨_, rfl⟩
      rw [hS] at hh
      have hI : Hid (imgF s = (S && decide (1 ≤ W ∧ W ≤ 12 ∧ D ≤ W) && decide (sumF s (s.size - 2) = b2 s (s.size - 2)) && goodF s (s.size - 2) D 6 W)) := by
        unfold Hid imgF; rw [hS, hW, hD, h2]; simp [h1]
      have HS : Hid (pre (⟨#[70, 73]⟩ : ByteArray) s = S) := hh
      clear hW hD h2 hh hS
      by_cases h3 : S = true ∧ 1 ≤ W ∧ W ≤ 12 ∧ D ≤ W
      · obtain ⟨rfl, h31, h32, h33⟩ := h3
        obtain ⟨u, hu⟩ : ∃ u, s.extract 0 (s.size - 2) = u := ⟨_, rfl⟩
        have hus : u.size = s.size - 2 := by rw [← hu, ByteArray.size_extract]; omega
        have HU : Hid (sumF u u.size = sumF s (s.size - 2)) := by unfold Hid; rw [hus, ← hu]; exact sumF_cut (by omega) _ (Nat.le_refl _)
        have HG : Hid (goodF u u.size D 6 W = goodF s (s.size - 2) D 6 W) := by unfold Hid; rw [hus, ← hu]; exact goodF_cut (by omega) _ _ _ (by omega)
        have ZS : Hid (nz s u.size = b2 s (s.size - 2)) := by unfold Hid; rw [hus]; exact nz_in (by omega)
        have hu8 : 8 ≤ u.size := by omega
        have hu9 : u.size ≤ 65533 := by omega
        clear hus
        by_cases h4 : sumF s (s.size - 2) = b2 s (s.size - 2)
        · have hsb : ((sumF s (s.size - 2) : Int) != (b2 s (s.size - 2) : Int)) = false := by rw [bne_eq_false_iff_eq]; omega
          have H4 : Hid (sumF s (s.size - 2) = b2 s (s.size - 2)) := h4
          clear h4
          go_enter Tryd.func42, Tryd.ntmps42
          go_wp2_with fail
          refine (numberAt_any s 4 _ (by omega) (by omega)).mono ?_
          rintro r w1 ⟨rfl, rfl⟩
          rw [show (4 : Int).toNat = 4 from rfl, Z4.out]
          go_wp2_with fail
          refine (byteAt_any s 2 _ (by omega)).mono ?_
          rintro r w1 ⟨rfl, rfl⟩
          rw [show (2 : Int).toNat = 2 from rfl, ZW.out]
          go_wp2_with fail
          refine (byteAt_any s 3 _ (by omega)).mono ?_
          rintro r w1 ⟨rfl, rfl⟩
          rw [show (3 : Int).toNat = 3 from rfl, ZD.out]
          go_wp2_with fail
          refine (beginsWith_any s ⟨#[70, 73]⟩ _).mono ?_
          rintro r w1 ⟨rfl, rfl⟩
          rw [HS.out]
          go_wp2_with fail
          refine (sumOf_any u _ (by omega)).mono ?_
          rintro r w1 ⟨rfl, rfl⟩
          rw [HU.out]
          go_wp2_with fail
          refine (numberAt_any s u.size _ (by omega) (by omega)).mono ?_
          rintro r w1 ⟨rfl, rfl⟩
          rw [Int.toNat_natCast, ZS.out]
          go_wp2_with fail
          refine (ent_any u (by omega) D (by omega) 6 W D _ (by omega) (by omega) (by omega) (by omega) rfl).mono ?_
          rintro r w1 ⟨rfl, hb1⟩
          rw [show (6 : Int).toNat = 6 from rfl, Int.toNat_natCast, HG.out]
          go_wp2_with fail
          go_ret
          rw [hI.out, H4.out]
          refine ⟨ret1 (bool_eq ?_), hb1⟩
          simp [h31, h32, h33]
        · have hsb : ((sumF s (s.size - 2) : Int) != (b2 s (s.size - 2) : Int)) = true := by rw [bne_iff_ne]; omega
          have HF : Hid (imgF s = false) := by unfold Hid; rw [hI.out]; simp [h4]
          clear h4
          go_enter Tryd.func42, Tryd.ntmps42
          go_wp2_with fail
          refine (numberAt_any s 4 _ (by omega) (by omega)).mono ?_
          rintro r w1 ⟨rfl, rfl⟩
          rw [show (4 : Int).toNat = 4 from rfl, Z4.out]
          go_wp2_with fail
          refine (byteAt_any s 2 _ (by omega)).mono ?_
          rintro r w1 ⟨rfl, rfl⟩
          rw [show (2 : Int).toNat = 2 from rfl, ZW.out]
          go_wp2_with fail
          refine (byteAt_any s 3 _ (by omega)).mono ?_
          rintro r w1 ⟨rfl, rfl⟩
          rw [show (3 : Int).toNat = 3 from rfl, ZD.out]
          go_wp2_with fail
          refine (beginsWith_any s ⟨#[70, 73]⟩ _).mono ?_
          rintro r w1 ⟨rfl, rfl⟩
          rw [HS.out]
          go_wp2_with fail
          refine (sumOf_any u _ (by omega)).mono ?_
          rintro r w1 ⟨rfl, rfl⟩
          rw [HU.out]
          go_wp2_with fail
          refine (numberAt_any s u.size _ (by omega) (by omega)).mono ?_
          rintro r w1 ⟨rfl, rfl⟩
          rw [Int.toNat_natCast, ZS.out]
          go_wp2_with fail
          go_ret
          rw [HF.out]
          exact ⟨rfl, Below.refl _ _⟩
      · have HF : Hid (imgF s = false) := by
          unfold Hid; rw [hI.out]
          cases S with
          | false => simp
          | true => simp only [show ¬ (1 ≤ W ∧ W ≤ 12 ∧ D ≤ W) from fun h => h3 ⟨rfl, h⟩, decide_false, Bool.and_false, Bool.false_and]
        cases S with
        | false =>
          clear h3
          go_enter Tryd.func42, Tryd.ntmps42
          go_wp2_with fail
          refine (numberAt_any s 4 _ (by omega) (by omega)).mono ?_
          rintro r w1 ⟨rfl, rfl⟩
          rw [show (4 : Int).toNat = 4 from rfl, Z4.out]
          go_wp2_with fail
          refine (byteAt_any s 2 _ (by omega)).mono ?_
          rintro r w1 ⟨rfl, rfl⟩
          rw [show (2 : Int).toNat = 2 from rfl, ZW.out]
          go_wp2_with fail
          refine (byteAt_any s 3 _ (by omega)).mono ?_
          rintro r w1 ⟨rfl, rfl⟩
          rw [show (3 : Int).toNat = 3 from rfl, ZD.out]
          go_wp2_with fail
          refine (beginsWith_any s ⟨#[70, 73]⟩ _).mono ?_
          rintro r w1 ⟨rfl, rfl⟩
          rw [HS.out]
          go_wp2_with fail
          go_ret
          rw [HF.out]
          exact ⟨rfl, Below.refl _ _⟩
        | true =>
          by_cases h31 : 1 ≤ W
          · by_cases h32 : W ≤ 12
            · have h33 : ¬ D ≤ W := fun h => h3 ⟨rfl, h31, h32, h⟩
              have g1 : decide ((W : Int) < 1) = false := by rw [decide_eq_false_iff_not]; omega
              have g2 : decide ((12 : Int) < (W : Int)) = false := by rw [decide_eq_false_iff_not]; omega
              have g3 : decide ((W : Int) < (D : Int)) = true := by rw [decide_eq_true_eq]; omega
              clear h3
              go_enter Tryd.func42, Tryd.ntmps42
              go_wp2_with fail
              refine (numberAt_any s 4 _ (by omega) (by omega)).mono ?_
              rintro r w1 ⟨rfl, rfl⟩
              rw [show (4 : Int).toNat = 4 from rfl, Z4.out]
              go_wp2_with fail
              refine (byteAt_any s 2 _ (by omega)).mono ?_
              rintro r w1 ⟨rfl, rfl⟩
              rw [show (2 : Int).toNat = 2 from rfl, ZW.out]
              go_wp2_with fail
              refine (byteAt_any s 3 _ (by omega)).mono ?_
              rintro r w1 ⟨rfl, rfl⟩
              rw [show (3 : Int).toNat = 3 from rfl, ZD.out]
              go_wp2_with fail
              refine (beginsWith_any s ⟨#[70, 73]⟩ _).mono ?_
              rintro r w1 ⟨rfl, rfl⟩
              rw [HS.out]
              go_wp2_with fail
              go_ret
              rw [HF.out]
              exact ⟨rfl, Below.refl _ _⟩
            · have g1 : decide ((W : Int) < 1) = false := by rw [decide_eq_false_iff_not]; omega
              have g2 : decide ((12 : Int) < (W : Int)) = true := by rw [decide_eq_true_eq]; omega
              clear h3
              go_enter Tryd.func42, Tryd.ntmps42
              go_wp2_with fail
              refine (numberAt_any s 4 _ (by omega) (by omega)).mono ?_
              rintro r w1 ⟨rfl, rfl⟩
              rw [show (4 : Int).toNat = 4 from rfl, Z4.out]
              go_wp2_with fail
              refine (byteAt_any s 2 _ (by omega)).mono ?_
              rintro r w1 ⟨rfl, rfl⟩
              rw [show (2 : Int).toNat = 2 from rfl, ZW.out]
              go_wp2_with fail
              refine (byteAt_any s 3 _ (by omega)).mono ?_
              rintro r w1 ⟨rfl, rfl⟩
              rw [show (3 : Int).toNat = 3 from rfl, ZD.out]
              go_wp2_with fail
              refine (beginsWith_any s ⟨#[70, 73]⟩ _).mono ?_
              rintro r w1 ⟨rfl, rfl⟩
              rw [HS.out]
              go_wp2_with fail
              go_ret
              rw [HF.out]
              exact ⟨rfl, Below.refl _ _⟩
          · clear h3
            go_enter Tryd.func42, Tryd.ntmps42
            go_wp2_with fail
            refine (numberAt_any s 4 _ (by omega) (by omega)).mono ?_
            rintro r w1 ⟨rfl, rfl⟩
            rw [show (4 : Int).toNat = 4 from rfl, Z4.out]
            go_wp2_with fail
            refine (byteAt_any s 2 _ (by omega)).mono ?_
            rintro r w1 ⟨rfl, rfl⟩
            rw [show (2 : Int).toNat = 2 from rfl, ZW.out]
            go_wp2_with fail
            refine (byteAt_any s 3 _ (by omega)).mono ?_
            rintro r w1 ⟨rfl, rfl⟩
            rw [show (3 : Int).toNat = 3 from rfl, ZD.out]
            go_wp2_with fail
            refine (beginsWith_any s ⟨#[70, 73]⟩ _).mono ?_
            rintro r w1 ⟨rfl, rfl⟩
            rw [HS.out]
            go_wp2_with fail
            go_ret
            rw [HF.out]
            exact ⟨rfl, Below.refl _ _⟩
    · have h2b : ((b2 s 4 : Int) != (s.size : Int)) = true := by rw [bne_iff_ne]; omega
      have HF : Hid (imgF s = false) := by unfold Hid imgF; simp [h2]
      clear h2
      go_enter Tryd.func42, Tryd.ntmps42
      go_wp2_with fail
      refine (numberAt_any s 4 _ (by omega) (by omega)).mono ?_
      rintro r w1 ⟨rfl, rfl⟩
      rw [show (4 : Int).toNat = 4 from rfl, Z4.out]
      go_wp2_with fail
      go_ret
      rw [HF.out]
      exact ⟨rfl, Below.refl _ _⟩
  · have hF : Hid (imgF s = false) := by unfold Hid imgF; simp [h1]
    go_enter Tryd.func42, Tryd.ntmps42
    go_wp2_with fail
    go_ret
    rw [hF.out]
    exact ⟨rfl, Below.refl _ _⟩
/-- P8's answer, by the program. -/
theorem load_any (s : ByteArray) (w : World) (hm : s.size ≤ maxLen) :
    Calls Tryd.prog 29 #[.string s] w fun r w' => r = .returned (.int .i64 (if imgF s = true then 0 else 6)) ∧ Below w.heap.size w w' := by
  cases h : imgF s with
  | true =>
    have H : Hid (imgF s = true) := h
    clear h
    rw [if_pos rfl]
    go_enter Tryd.func29, Tryd.ntmps29
    go_wp2_with fail
    refine (isImage_any s _ hm).mono ?_
    rintro r w1 ⟨rfl, hb1⟩
    rw [H.out]
    go_wp2_with fail
    go_ret
    exact ⟨rfl, hb1⟩
  | false =>
    have H : Hid (imgF s = false) := h
    clear h
    rw [if_neg (by simp)]
    go_enter Tryd.func29, Tryd.ntmps29
    go_wp2_with fail
    refine (isImage_any s _ hm).mono ?_
    rintro r w1 ⟨rfl, hb1⟩
    rw [H.out]
    go_wp2_with fail
    go_ret
    exact ⟨rfl, hb1⟩
end Go.Proofs.YtdfnmpmmkcpddaaDoor
