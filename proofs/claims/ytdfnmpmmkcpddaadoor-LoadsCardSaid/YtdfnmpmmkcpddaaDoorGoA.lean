/- The walks of the program's images: bytes, numbers, runs, the sum. -/
import Derived.Test.YtdfnmpmmkcpddaaDoorWalkJ
import Derived.Test.YtdfnmpmmkcpddaaDoorSpecT
namespace Go.Proofs.YtdfnmpmmkcpddaaDoor
open Go.RowKit

theorem byteAt_any (s : ByteArray) (i : Int) (w : World) (h0 : 0 ≤ i) :
    Calls Tryd.prog 43 #[.string s, .int .i64 i] w fun e w' => e = .returned (.int .i64 (bz s i.toNat)) ∧ w' = w := by
  obtain ⟨p, rfl⟩ := Int.eq_ofNat_of_zero_le h0
  rw [Int.toNat_natCast]
  by_cases h : p < s.size
  · have HB : Hid (bz s p = (s[p]'h).toNat) := by unfold Hid; rw [bz_in h, byt_in h]
    have hq : (p : Int) < (s.size : Int) := by omega
    have hc := (s[p]'h).toNat_lt
    go_enter Tryd.func43, Tryd.ntmps43
    go_wp2_with fail
    go_ret
    exact ⟨ret1 (int_eq (by rw [HB.out])), rfl⟩
  · have HB : Hid (bz s p = 0) := bz_out h
    have hq : (s.size : Int) ≤ (p : Int) := by omega
    go_enter Tryd.func43, Tryd.ntmps43
    go_wp2_with fail
    go_ret
    exact ⟨ret1 (int_eq (by rw [HB.out]; rfl)), rfl⟩

theorem numberAt_any (s : ByteArray) (i : Int) (w : World) (h0 : 0 ≤ i) (h : i ≤ 9223372036854775806) :
    Calls Tryd.prog 68 #[.string s, .int .i64 i] w fun e w' => e = .returned (.int .i64 (nz s i.toNat)) ∧ w' = w := by
  have h1 := bz_lt s i.toNat
  have h2 := bz_lt s (i.toNat + 1)
  go_enter Tryd.func68, Tryd.ntmps68
  go_wp2_with fail
  refine (byteAt_any s i _ h0).mono ?_
  rintro e w1 ⟨rfl, rfl⟩
  go_wp2_with fail
  refine (byteAt_any s (i + 1) _ (by omega)).mono ?_
  rintro e w1 ⟨rfl, rfl⟩
  rw [show (i + 1).toNat = i.toNat + 1 from by omega]
  go_wp2_with fail
  go_ret
  exact ⟨ret1 (int_eq (by unfold nz; omega)), rfl⟩

theorem byteAt_neg (s : ByteArray) (i : Int) (w : World) (h0 : i < 0) :
    Calls Tryd.prog 43 #[.string s, .int .i64 i] w fun e w' => e = .returned (.int .i64 0) ∧ w' = w := by
  go_enter Tryd.func43, Tryd.ntmps43
  go_wp2_with fail
  go_ret
  exact ⟨rfl, rfl⟩
theorem numberAt_neg (s : ByteArray) (i : Int) (w : World) (h0 : i < -1) (h1 : -9223372036854775808 ≤ i) :
    Calls Tryd.prog 68 #[.string s, .int .i64 i] w fun e w' => e = .returned (.int .i64 0) ∧ w' = w := by
  go_enter Tryd.func68, Tryd.ntmps68
  go_wp2_with fail
  refine (byteAt_neg s i _ (by omega)).mono ?_
  rintro e w1 ⟨rfl, rfl⟩
  go_wp2_with fail
  refine (byteAt_neg s (i + 1) _ (by omega)).mono ?_
  rintro e w1 ⟨rfl, rfl⟩
  go_wp2_with fail
  go_ret
  exact ⟨rfl, rfl⟩
theorem numberAt_top (s : ByteArray) (w : World) (h : s.size ≤ 9223372036854775807) :
    Calls Tryd.prog 68 #[.string s, .int .i64 9223372036854775807] w fun e w' => e = .returned (.int .i64 0) ∧ w' = w := by
  have HZ : Hid (bz s 9223372036854775807 = 0) := bz_out (by omega)
  have hw : wrap64 9223372036854775808 = -9223372036854775808 := by unfold wrap64; decide
  go_enter Tryd.func68, Tryd.ntmps68
  go_wp2_with fail
  refine (byteAt_any s 9223372036854775807 _ (by omega)).mono ?_
  rintro e w1 ⟨rfl, rfl⟩
  rw [show (9223372036854775807 : Int).toNat = 9223372036854775807 from rfl, HZ.out]
  go_wp2_with fail
  rw [hw]
  refine (byteAt_neg s (-9223372036854775808) _ (by omega)).mono ?_
  rintro e w1 ⟨rfl, rfl⟩
  go_wp2_with fail
  go_ret
  exact ⟨rfl, rfl⟩

theorem countRuns_any (r : ByteArray) (n : Int) (w : World) (hn0 : 0 ≤ n) (hn : n ≤ 100000) :
    Calls Tryd.prog 72 #[.string r, .int .i64 n] w fun e w' => e = .returned (.int .i64 (crF r n.toNat)) ∧ w' = w := by
  obtain ⟨n, rfl⟩ := Int.eq_ofNat_of_zero_le hn0
  rw [Int.toNat_natCast]
  go_enter Tryd.func72, Tryd.ntmps72
  go_wp2_with fail
  go_loopg [5, 6] n (fun g x y wr => ∃ i k : Nat, wr = w ∧ x = .int .i64 k ∧ y = .int .i64 i ∧ g + i = n ∧ k ≤ i ∧ Hid (k = crF r i))
  case atStart => exact ⟨0, 0, rfl, rfl, rfl, by omega, by omega, rfl⟩
  case round =>
    obtain ⟨i, k, rfl, rfl, rfl, hg, hk, HK⟩ := hrel
    by_cases hlt : i < n
    · obtain ⟨c, hc⟩ : ∃ c, bz r (i / 8) = c := ⟨_, rfl⟩
      have hcl : c < 256 := by rw [← hc]; exact bz_lt _ _
      have HC : Hid (bz r (i / 8) = c) := hc
      clear hc
      have hb : Go.bits BinOp.and IntKind.i64 ((c : Int) / 2 ^ (i % 8)) 1 = ((c / 2 ^ (i % 8) % 2 : Nat) : Int) := by
        rw [i64_and1, Int.natCast_emod, Int.natCast_ediv, Int.natCast_pow]; rfl
      obtain ⟨d, hd⟩ : ∃ d, c / 2 ^ (i % 8) % 2 = d := ⟨_, rfl⟩
      rw [hd] at hb
      have hd1 : d ≤ 1 := by omega
      have HD : Hid (c / 2 ^ (i % 8) % 2 = d) := hd
      clear hd
      go_wp2_with fail
      refine (byteAt_any r ((i / 8 : Nat) : Int) _ (by omega)).mono ?_
      rintro e w1 ⟨rfl, rfl⟩
      rw [Int.toNat_natCast, HC.out]
      go_wp2_with fail
      go_roundg (gk - 1)
      case measure => omega
      case rel => exact ⟨i + 1, k + d, rfl, int_eq (by omega), int_eq (by omega), by omega, by omega, by unfold Hid; rw [crF, HC.out, HD.out, ← HK.out]⟩
    · go_wp2_with fail
      go_ret
      have : i = n := by omega
      subst this
      exact ⟨ret1 (int_eq (by rw [HK.out])), rfl⟩

theorem sumOf_any (s : ByteArray) (w : World) (hs : s.size ≤ 70000) :
    Calls Tryd.prog 67 #[.string s] w fun e w' => e = .returned (.int .i64 (sumF s s.size)) ∧ w' = w := by
  go_enter Tryd.func67, Tryd.ntmps67
  go_wp2_with fail
  go_loopg [3, 4] s.size (fun g x y wr => ∃ i t : Nat, wr = w ∧ x = .int .i64 t ∧ y = .int .i64 i ∧ g + i = s.size ∧ t < 65521 ∧ Hid (t = sumF s i))
  case atStart => exact ⟨0, 0, rfl, rfl, rfl, by omega, by omega, rfl⟩
  case round =>
    obtain ⟨i, t, rfl, rfl, rfl, hg, ht, HT⟩ := hrel
    by_cases hlt : i < s.size
    · have hc := (s[i]'hlt).toNat_lt
      have HC : Hid (byt s i = (s[i]'hlt).toNat) := byt_in hlt
      obtain ⟨m, hm⟩ : ∃ m : Nat, m = (i + 1) * ((s[i]'hlt).toNat + 1) := ⟨_, rfl⟩
      have hmle : m ≤ 70000 * 256 := by rw [hm]; exact Nat.mul_le_mul (by omega) (by omega)
      have hmi : ((i : Int) + 1) * (((s[i]'hlt).toNat : Int) + 1) = (m : Int) := by rw [hm]; simp
      have HM : Hid (m = (i + 1) * ((s[i]'hlt).toNat + 1)) := hm
      clear hm
      go_wp2_with fail
      go_roundg (gk - 1)
      case measure => omega
      case rel => exact ⟨i + 1, (t + m) % 65521, rfl, int_eq (by omega), int_eq (by omega), by omega, by omega, by unfold Hid; rw [sumF, ← HT.out, HC.out, ← HM.out]⟩
    · go_wp2_with fail
      go_ret
      have : i = s.size := by omega
      subst this
      exact ⟨ret1 (int_eq (by rw [HT.out])), rfl⟩
end Go.Proofs.YtdfnmpmmkcpddaaDoor
