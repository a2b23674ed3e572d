/- Find: both calls, and the law's step. -/
import Derived.Test.YtdfnmpmmkcpddaaDoorWalkI
import Derived.Test.YtdfnmpmmkcpddaaDoorLawB
namespace Go.Proofs.YtdfnmpmmkcpddaaDoor
open Go.RowKit

theorem t_zero {s : ByteArray} {W : Int} (h : tErr s W = 0) : s.size ≤ 400 ∧ 1 ≤ W ∧ W ≤ 12 ∧ (tRts s W).length ≤ 24 := by
  by_cases h1 : 400 < s.size
  · rw [(t_long h1).2.1] at h; omega
  by_cases h2 : W < 1 ∨ 12 < W
  · rw [(t_arg (by omega) h2).2.1] at h; omega
  obtain ⟨k, rfl⟩ := Int.eq_ofNat_of_zero_le (show 0 ≤ W by omega)
  refine ⟨by omega, by omega, by omega, ?_⟩
  cases ht : table s k with
  | mk o q =>
    cases o with
    | none => rw [(t_bad (by omega) (by omega) (by omega) ht).2.1] at h; omega
    | some l =>
      by_cases hl : 24 < l.length
      · rw [(t_many (by omega) (by omega) (by omega) ht hl).2.1] at h; omega
      · rw [(t_ok (by omega) (by omega) (by omega) ht hl).1]; omega

/-- P5's answer. -/
def fErr (s : ByteArray) (W A : Int) : Nat := if tErr s W = 0 then (if 0 ≤ A ∧ A < ((2 ^ W.toNat : Nat) : Int) then 0 else 2) else tErr s W
def fHop (s : ByteArray) (W A : Int) : Nat := if tErr s W = 0 then (if 0 ≤ A ∧ A < ((2 ^ W.toNat : Nat) : Int) then (bestF (addr A.toNat W.toNat) (tRts s W)).2 else 0) else 0

theorem dedup_length (l : List Rt) : (dedup l).length ≤ l.length := by
  refine snoc_ind (p := fun l => (dedup l).length ≤ l.length) ?_ ?_ l
  · simp [dedup]
  · intro l r ih; rw [dedup_snoc]; have := putR_length (dedup l) r.bits r.hop; simp; omega

set_option maxRecDepth 100000 in
theorem find_any (s : ByteArray) (W A : Int) (w : World) (hm : s.size ≤ maxLen) :
    Calls Tryd.prog 28 #[.string s, .int .i64 W, .int .i64 A] w fun e w' => e = .returned (.tuple #[.int .i64 (fHop s W A), .int .i64 (fErr s W A)]) ∧ Below w.heap.size w w' := by
  by_cases he : tErr s W = 0
  · obtain ⟨hs, hW1, hW2, hlen⟩ := t_zero he
    have hE : ((tErr s W : Int) != 0) = false := by rw [bne_eq_false_iff_eq]; omega
    obtain ⟨k, rfl⟩ := Int.eq_ofNat_of_zero_le (show 0 ≤ W by omega)
    by_cases hA : 0 ≤ A ∧ A < ((2 ^ k : Nat) : Int)
    · have e1 : fErr s k A = 0 := by unfold fErr; rw [if_pos he, Int.toNat_natCast, if_pos hA]
      have e2 : fHop s k A = (bestF (addr A.toNat k) (tRts s k)).2 := by unfold fHop; rw [if_pos he, Int.toNat_natCast, if_pos hA]
      rw [e1, e2]
      obtain ⟨hA0, hA1⟩ := hA
      obtain ⟨p1, p3, p4⟩ := wrap_pow (W := k) (by omega)
      obtain ⟨n, rfl⟩ := Int.eq_ofNat_of_zero_le hA0
      rw [Int.toNat_natCast]
      clear e1 e2 he
      go_enter Tryd.func28, Tryd.ntmps28
      go_wp2_with fail
      refine (readTable_any s k _ hm).mono ?_
      rintro e w1 ⟨ao, cap, rfl, hown, hb1⟩
      go_wp2_with fail
      refine (isAddress_yes _ _ _ (by omega) hA0 hA1).mono ?_
      rintro e w2 ⟨rfl, rfl⟩
      go_wp2_with fail
      refine (addressBits_any n k _ (by omega) (by omega)).mono ?_
      rintro e w3 ⟨rfl, rfl⟩
      go_wp2_with fail
      refine (hopOf_any (addr n k) (tRts s k) ao cap _ _ (by omega) hown).mono ?_
      rintro e w4 ⟨rfl, hb4⟩
      go_wp2_with fail
      go_ret2
      exact ⟨rfl, hb1.trans (hb4.mono hb1.size)⟩
    · have e1 : fErr s k A = 2 := by unfold fErr; rw [if_pos he, Int.toNat_natCast, if_neg hA]
      have e2 : fHop s k A = 0 := by unfold fHop; rw [if_pos he, Int.toNat_natCast, if_neg hA]
      rw [e1, e2]
      have HA : Hid (¬ (0 ≤ A ∧ A < ((2 ^ k : Nat) : Int))) := hA
      clear e1 e2 he hA
      go_enter Tryd.func28, Tryd.ntmps28
      go_wp2_with fail
      refine (readTable_any s k _ hm).mono ?_
      rintro e w1 ⟨ao, cap, rfl, hown, hb1⟩
      go_wp2_with fail
      refine (isAddress_no _ _ _ (by omega) HA.out).mono ?_
      rintro e w2 ⟨rfl, rfl⟩
      go_wp2_with fail
      go_ret2
      exact ⟨rfl, hb1⟩
  · have e1 : fErr s W A = tErr s W := by unfold fErr; rw [if_neg he]
    have e2 : fHop s W A = 0 := by unfold fHop; rw [if_neg he]
    rw [e1, e2]
    have hE : ((tErr s W : Int) != 0) = true := by rw [bne_iff_ne]; omega
    clear e1 e2 he
    go_enter Tryd.func28, Tryd.ntmps28
    go_wp2_with fail
    refine (readTable_any s W _ hm).mono ?_
    rintro e w1 ⟨ao, cap, rfl, hown, hb1⟩
    go_wp2_with fail
    go_ret2
    exact ⟨rfl, hb1⟩

set_option maxRecDepth 100000 in
theorem rfind_any (s : ByteArray) (W A : Int) (w : World) (hm : s.size ≤ maxLen) :
    Calls Tryd.prog 50 #[.string s, .int .i64 W, .int .i64 A] w fun e w' => e = .returned (.tuple #[.int .i64 (fHop s W A), .int .i64 (fErr s W A)]) ∧ Below w.heap.size w w' := by
  by_cases he : tErr s W = 0
  · obtain ⟨hs, hW1, hW2, hlen⟩ := t_zero he
    have hE : ((tErr s W : Int) != 0) = false := by rw [bne_eq_false_iff_eq]; omega
    obtain ⟨k, rfl⟩ := Int.eq_ofNat_of_zero_le (show 0 ≤ W by omega)
    obtain ⟨p1, p3, p4⟩ := wrap_pow (W := k) (by omega)
    by_cases hA : 0 ≤ A ∧ A < ((2 ^ k : Nat) : Int)
    · have e1 : fErr s k A = 0 := by unfold fErr; rw [if_pos he, Int.toNat_natCast, if_pos hA]
      have e2 : fHop s k A = (bestF (addr A.toNat k) (tRts s k)).2 := by unfold fHop; rw [if_pos he, Int.toNat_natCast, if_pos hA]
      rw [e1, e2]
      obtain ⟨hA0, hA1⟩ := hA
      obtain ⟨n, rfl⟩ := Int.eq_ofNat_of_zero_le hA0
      rw [Int.toNat_natCast]
      have hdl := dedup_length (tRts s k)
      have hq : (n : Int) < (2 : Int) ^ k := by rw [Int.natCast_pow] at hA1; exact hA1
      have hd : decide ((2 : Int) ^ k ≤ (n : Int)) = false := by rw [decide_eq_false_iff_not]; omega
      clear e1 e2 he
      go_enter Tryd.func50, Tryd.ntmps50
      go_wp2_with fail
      refine (read_any s k _ hm).mono ?_
      rintro e w1 ⟨ao, cap, rfl, hown, hb1⟩
      go_wp2_with fail
      refine (rbitsA_any n k _ (by omega) (by omega)).mono ?_
      rintro e w2 ⟨rfl, hb2⟩
      go_wp2_with fail
      refine (rhopA_any (addr n k) (dedup (tRts s k)) ao cap _ _ (by omega) (own_below hown hb2)).mono ?_
      rintro e w3 ⟨h, rfl, hres, hb3⟩
      go_wp2_with fail
      go_ret2
      refine ⟨ret2 (int_eq (by rw [best_eq hres])) rfl, ?_⟩
      have := hb1.size
      have := hb2.size
      exact (hb1.trans (hb2.mono (by omega))).trans (hb3.mono (by omega))
    · have e1 : fErr s k A = 2 := by unfold fErr; rw [if_pos he, Int.toNat_natCast, if_neg hA]
      have e2 : fHop s k A = 0 := by unfold fHop; rw [if_pos he, Int.toNat_natCast, if_neg hA]
      rw [e1, e2]
      by_cases hA0 : 0 ≤ A
      · have hA1 : ¬ A < ((2 ^ k : Nat) : Int) := fun h => hA ⟨hA0, h⟩
        have hq : (2 : Int) ^ k ≤ A := by rw [Int.natCast_pow] at hA1; exact Int.not_lt.1 hA1
        have hd : decide ((2 : Int) ^ k ≤ A) = true := by rw [decide_eq_true_eq]; exact hq
        clear e1 e2 he hA
        go_enter Tryd.func50, Tryd.ntmps50
        go_wp2_with fail
        refine (read_any s k _ hm).mono ?_
        rintro e w1 ⟨ao, cap, rfl, hown, hb1⟩
        go_wp2_with fail
        go_ret2
        exact ⟨rfl, hb1⟩
      · clear e1 e2 he hA
        go_enter Tryd.func50, Tryd.ntmps50
        go_wp2_with fail
        refine (read_any s k _ hm).mono ?_
        rintro e w1 ⟨ao, cap, rfl, hown, hb1⟩
        go_wp2_with fail
        go_ret2
        exact ⟨rfl, hb1⟩
  · have e1 : fErr s W A = tErr s W := by unfold fErr; rw [if_neg he]
    have e2 : fHop s W A = 0 := by unfold fHop; rw [if_neg he]
    rw [e1, e2]
    have hE : ((tErr s W : Int) != 0) = true := by rw [bne_iff_ne]; omega
    clear e1 e2 he
    go_enter Tryd.func50, Tryd.ntmps50
    go_wp2_with fail
    refine (read_any s W _ hm).mono ?_
    rintro e w1 ⟨ao, cap, rfl, hown, hb1⟩
    go_wp2_with fail
    go_ret2
    exact ⟨rfl, hb1⟩

theorem tables_find (W D L A : Int) (s : ByteArray) (w : World) (hm : s.size ≤ maxLen) :
    Calls Tryd.prog 31 #[opV 3 W D L A s] w fun e w' => e = .returned (.bool true) ∧ Below w.heap.size w w' := by
  unfold opV
  go_enter Tryd.func31, Tryd.ntmps31
  go_wp2_with fail
  refine (find_any s W A _ hm).mono ?_
  rintro e w1 ⟨rfl, hb1⟩
  obtain ⟨hc, _⟩ := bcell hb1
  have hz : w.heap.size < w1.heap.size := by have := hb1.size; simp at this; omega
  go_wp2_with fail
  refine (rfind_any s W A _ hm).mono ?_
  rintro e w2 ⟨rfl, hb2⟩
  go_wp2_with (go_at_call 25; refine (num_any _ _).mono ?_; rintro e w3 ⟨rfl, rfl⟩)
  go_ret
  refine ⟨rfl, ?_⟩
  have h1 : Below w.heap.size w w1 := ((Below.refl _ _).alloc (Nat.le_refl _) _).trans (hb1.mono (by simp))
  exact h1.trans (hb2.mono (by omega))

theorem plays_find : Plays 3 3 := by
  intro k W D L A s w h1 h2 hm _ _ _ _ hE
  obtain rfl : k = 3 := by omega
  exact plays_tab 3 W D L A s w (.inr (.inr (.inl rfl))) hE fun w _ => tables_find W D L A s w hm

theorem finds_any (ao : Option Addr) (len cap : Nat) (w : World) (hs : Script w ao len) (hE : Env w) :
    Calls Tryd.prog 5 #[.slice ao len cap] w fun e w' => e = .returned (.bool true) ∧ Below w.heap.size w w' := by
  have HS : Hid (Script w ao len) := hs
  clear hs
  go_enter Tryd.func5, Tryd.ntmps5
  go_wp2_with fail
  refine (upTo_any 3 3 ao len cap _ plays_find hE HS.out).mono ?_
  rintro e w1 ⟨rfl, hb1⟩
  go_wp2_with fail
  go_ret
  exact ⟨rfl, hb1⟩
end Go.Proofs.YtdfnmpmmkcpddaaDoor
