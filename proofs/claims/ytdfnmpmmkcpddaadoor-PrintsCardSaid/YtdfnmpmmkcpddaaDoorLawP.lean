/- Print: the law's step. -/
import Derived.Test.YtdfnmpmmkcpddaaDoorWalkT
namespace Go.Proofs.YtdfnmpmmkcpddaaDoor
open Go.RowKit

theorem tables_print (W D L A : Int) (s : ByteArray) (w : World) (hm : s.size ≤ maxLen) (hE : Env w) :
    Calls Tryd.prog 31 #[opV 2 W D L A s] w fun e w' => e = .returned (.bool true) ∧ Below w.heap.size w w' := by
  unfold opV
  go_enter Tryd.func31, Tryd.ntmps31
  go_wp2_with fail
  refine (print_any s W _ hm (hE.alloc _)).mono ?_
  rintro e w1 ⟨rfl, hb1⟩
  obtain ⟨hc, _⟩ := bcell hb1
  have hz : w.heap.size < w1.heap.size := by have := hb1.size; simp at this; omega
  go_wp2_with fail
  refine (rprint_any s W _ hm).mono ?_
  rintro e w2 ⟨rfl, hb2⟩
  go_wp2_with (go_at_call 25; refine (num_any _ _).mono ?_; rintro e w3 ⟨rfl, rfl⟩)
  go_ret
  refine ⟨rfl, ?_⟩
  have h1 : Below w.heap.size w w1 := ((Below.refl _ _).alloc (Nat.le_refl _) _).trans (hb1.mono (by simp))
  exact h1.trans (hb2.mono (by omega))

theorem plays_print : Plays 2 2 := by
  intro k W D L A s w h1 h2 hm _ _ _ _ hE
  obtain rfl : k = 2 := by omega
  exact plays_tab 2 W D L A s w (.inr (.inl rfl)) hE fun w hE => tables_print W D L A s w hm hE

theorem prints_any (ao : Option Addr) (len cap : Nat) (w : World) (hs : Script w ao len) (hE : Env w) :
    Calls Tryd.prog 4 #[.slice ao len cap] w fun e w' => e = .returned (.bool true) ∧ Below w.heap.size w w' := by
  have HS : Hid (Script w ao len) := hs
  clear hs
  go_enter Tryd.func4, Tryd.ntmps4
  go_wp2_with fail
  refine (upTo_any 2 2 ao len cap _ plays_print hE HS.out).mono ?_
  rintro e w1 ⟨rfl, hb1⟩
  go_wp2_with fail
  go_ret
  exact ⟨rfl, hb1⟩
end Go.Proofs.YtdfnmpmmkcpddaaDoor
