/- The walks of the program's Lookup: the image at a place, a walk through it. -/
import Derived.Test.YtdfnmpmmkcpddaaDoorGoD
import Derived.Test.YtdfnmpmmkcpddaaDoorWalkL
import Derived.Test.YtdfnmpmmkcpddaaDoorWalkM
namespace Go.Proofs.YtdfnmpmmkcpddaaDoor
open Go.RowKit

set_option maxRecDepth 100000 in
theorem imageAt_no (s : ByteArray) (k : Nat) (w : World) (hm : s.size ≤ maxLen) (hk : k ≤ s.size) (hk2 : k ≤ 9223372036854775802) (h : s.size < k + nz s (k + 4)) :
    Calls Tryd.prog 41 #[.string s, .int .i64 k] w fun r w' => r = .returned (.string ⟨#[]⟩) ∧ w' = w := by
  have hm' : s.size ≤ 9223372036854775807 := by unfold maxLen at hm; omega
  clear hm
  obtain ⟨n, hn⟩ : ∃ n, nz s (k + 4) = n := ⟨_, rfl⟩
  have hnl : n ≤ 65535 := by rw [← hn]; exact nz_le _ _
  rw [hn] at h
  have HN : Hid (nz s (k + 4) = n) := hn
  clear hn
  go_enter Tryd.func41, Tryd.ntmps41
  go_wp2_with fail
  refine (numberAt_any s (k + 4) _ (by omega) (by omega)).mono ?_
  rintro r w1 ⟨rfl, rfl⟩
  rw [show ((k : Int) + 4).toNat = k + 4 from by omega, HN.out]
  go_wp2_with fail
  go_ret
  exact ⟨rfl, rfl⟩
set_option maxRecDepth 100000 in
theorem imageAt_yes (s : ByteArray) (k : Nat) (w : World) (hm : s.size ≤ maxLen) (hk2 : k ≤ 9223372036854775802) (h : k + nz s (k + 4) ≤ s.size) :
    Calls Tryd.prog 41 #[.string s, .int .i64 k] w fun r w' => r = .returned (.string (s.extract k (k + nz s (k + 4)))) ∧ w' = w := by
  have hm' : s.size ≤ 9223372036854775807 := by unfold maxLen at hm; omega
  clear hm
  obtain ⟨n, hn⟩ : ∃ n, nz s (k + 4) = n := ⟨_, rfl⟩
  have hnl : n ≤ 65535 := by rw [← hn]; exact nz_le _ _
  rw [hn] at h ⊢
  have HN : Hid (nz s (k + 4) = n) := hn
  clear hn
  go_enter Tryd.func41, Tryd.ntmps41
  go_wp2_with fail
  refine (numberAt_any s (k + 4) _ (by omega) (by omega)).mono ?_
  rintro r w1 ⟨rfl, rfl⟩
  rw [show ((k : Int) + 4).toNat = k + 4 from by omega, HN.out]
  go_wp2_with fail
  go_ret
  exact ⟨rfl, rfl⟩
theorem extract_nil (s : ByteArray) (k : Nat) : s.extract k k = ⟨#[]⟩ := by
  refine ba_ext ?_
  simp
set_option maxRecDepth 100000 in
theorem imageAt_top (s : ByteArray) (k : Nat) (w : World) (hm : s.size ≤ maxLen) (hk : k ≤ s.size) (hk2 : 9223372036854775802 < k) :
    Calls Tryd.prog 41 #[.string s, .int .i64 k] w fun r w' => r = .returned (.string ⟨#[]⟩) ∧ w' = w := by
  have hm' : s.size ≤ 9223372036854775807 := by unfold maxLen at hm; omega
  clear hm
  have HE : Hid (s.extract k k = ⟨#[]⟩) := extract_nil s k
  by_cases h1 : k = 9223372036854775803
  · have hw : (k : Int) + 4 = 9223372036854775807 := by omega
    go_enter Tryd.func41, Tryd.ntmps41
    go_wp2_with fail
    refine (numberAt_top s _ (by omega)).mono ?_
    rintro r w1 ⟨rfl, rfl⟩
    go_wp2_with fail
    go_ret
    exact ⟨rfl, rfl⟩
  · have hw : wrap64 ((k : Int) + 4) = (k : Int) + 4 - 18446744073709551616 := by unfold wrap64; omega
    go_enter Tryd.func41, Tryd.ntmps41
    go_wp2_with fail
    rw [hw]
    refine (numberAt_neg s _ _ (by omega) (by omega)).mono ?_
    rintro r w1 ⟨rfl, rfl⟩
    go_wp2_with fail
    go_ret
    exact ⟨rfl, rfl⟩
end Go.Proofs.YtdfnmpmmkcpddaaDoor
