/- Load and Lookup: the law's steps. -/
import Derived.Test.YtdfnmpmmkcpddaaDoorGoF
import Derived.Test.YtdfnmpmmkcpddaaDoorLawB
namespace Go.Proofs.YtdfnmpmmkcpddaaDoor
open Go.RowKit

theorem plays_load : Plays 6 6 := by
  intro k W D L A s w h1 h2 hm _ _ _ _ _
  obtain rfl : k = 6 := by omega
  clear h1 h2
  obtain ⟨x, hx⟩ : ∃ x : Int, (if imgF s = true then 0 else 6) = x := ⟨_, rfl⟩
  have H1 : Hid (∀ w : World, Calls Tryd.prog 29 #[.string s] w fun r w' => r = .returned (.int .i64 x) ∧ Below w.heap.size w w') := fun w => by rw [← hx]; exact load_any s w hm
  have H2 : Hid (∀ w : World, Calls Tryd.prog 33 #[.string s] w fun r w' => r = .returned (.int .i64 x) ∧ ∃ k, w' = w.drewN k) := fun w => by rw [← hx]; exact rload_any s w hm
  clear hx
  unfold opV
  go_enter Tryd.func22, Tryd.ntmps22
  go_wp2_with fail
  refine (H1.out _).mono ?_
  rintro e w1 ⟨rfl, hb1⟩
  obtain ⟨hc, _⟩ := bcell hb1
  have hz : w.heap.size < w1.heap.size := by have := hb1.size; simp at this; omega
  go_wp2_with fail
  refine (H2.out _).mono ?_
  rintro e w2 ⟨rfl, k2, rfl⟩
  go_wp2_with (go_at_call 25; refine (num_any _ _).mono ?_; rintro e w3 ⟨rfl, rfl⟩)
  go_ret
  refine ⟨ret1 (bool_eq (by simp)), ?_⟩
  have h1 : Below w.heap.size w w1 := ((Below.refl _ _).alloc (Nat.le_refl _) _).trans (hb1.mono (by simp))
  exact below_drewN h1 _

theorem plays_lookup : Plays 7 7 := by
  intro k W D L A s w h1 h2 hm _ _ _ _ _
  obtain rfl : k = 7 := by omega
  clear h1 h2
  unfold opV
  go_enter Tryd.func22, Tryd.ntmps22
  go_wp2_with fail
  refine (look_any s L A _ hm).mono ?_
  rintro e w1 ⟨rfl, hb1⟩
  obtain ⟨hc, _⟩ := bcell hb1
  have hz : w.heap.size < w1.heap.size := by have := hb1.size; simp at this; omega
  go_wp2_with fail
  refine (rlook_any s L A _ hm).mono ?_
  rintro e w2 ⟨rfl, hb2⟩
  go_wp2_with (go_at_call 25; refine (num_any _ _).mono ?_; rintro e w3 ⟨rfl, rfl⟩)
  go_ret
  refine ⟨ret1 (bool_eq (by simp)), ?_⟩
  have h1 : Below w.heap.size w w1 := ((Below.refl _ _).alloc (Nat.le_refl _) _).trans (hb1.mono (by simp))
  exact h1.trans (hb2.mono (by omega))

theorem loads_any (ao : Option Addr) (len cap : Nat) (w : World) (hs : Script w ao len) (hE : Env w) :
    Calls Tryd.prog 8 #[.slice ao len cap] w fun e w' => e = .returned (.bool true) ∧ Below w.heap.size w w' := by
  have HS : Hid (Script w ao len) := hs
  clear hs
  go_enter Tryd.func8, Tryd.ntmps8
  go_wp2_with fail
  refine (upTo_any 6 6 ao len cap _ plays_load hE HS.out).mono ?_
  rintro e w1 ⟨rfl, hb1⟩
  go_wp2_with fail
  go_ret
  exact ⟨rfl, hb1⟩

theorem lookups_any (ao : Option Addr) (len cap : Nat) (w : World) (hs : Script w ao len) (hE : Env w) :
    Calls Tryd.prog 9 #[.slice ao len cap] w fun e w' => e = .returned (.bool true) ∧ Below w.heap.size w w' := by
  have HS : Hid (Script w ao len) := hs
  clear hs
  go_enter Tryd.func9, Tryd.ntmps9
  go_wp2_with fail
  refine (upTo_any 7 7 ao len cap _ plays_lookup hE HS.out).mono ?_
  rintro e w1 ⟨rfl, hb1⟩
  go_wp2_with fail
  go_ret
  exact ⟨rfl, hb1⟩
end Go.Proofs.YtdfnmpmmkcpddaaDoor
