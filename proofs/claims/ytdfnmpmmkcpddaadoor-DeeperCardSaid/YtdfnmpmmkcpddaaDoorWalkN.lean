/- The walks of the document's cost: height, under. -/
import Derived.Test.YtdfnmpmmkcpddaaDoorWalkI
import Derived.Test.YtdfnmpmmkcpddaaDoorSpecK
namespace Go.Proofs.YtdfnmpmmkcpddaaDoor
open Go.RowKit

set_option maxRecDepth 100000 in
set_option maxHeartbeats 1000000 in
theorem rheight_any (b : ByteArray) (l : List Rt) (ao : Option Addr) (cap base : Nat) (w : World) (hl : l.length ≤ 400) (hS : ∀ r ∈ l, r.bits.size ≤ 12) (hb : b.size ≤ 12) (hown : w.ownsRow base 98 2 (.slice ao l.length cap) l.length (rc l)) :
    Calls Tryd.prog 75 #[.slice ao l.length cap, .string b] w fun e w' => e = .returned (.int .i64 (heightF l b)) ∧ w' = w := by
  go_enter Tryd.func75, Tryd.ntmps75
  go_wp2_with fail
  go_loopg [5, 6] l.length (fun g x y wr => ∃ (i n : Nat), x = .int .i64 n ∧ y = .int .i64 i ∧ g + i = l.length ∧ wr = w ∧ Hid (n = heightF (l.take i) b))
  case atStart => exact ⟨0, 0, rfl, rfl, by omega, rfl, rfl⟩
  case round =>
    obtain ⟨i, n, rfl, rfl, hgi, rfl, HN⟩ := hrel
    by_cases hlt : i < l.length
    · obtain ⟨g, rfl, hg1, hg2, hg3, hg4⟩ := own_some hown (by omega)
      unfold maxLen at hg4
      obtain ⟨c0, c1⟩ := row_cells hown hg2 (Below.refl _ _) hlt
      have hli := hS l[i] (List.getElem_mem hlt)
      have HT : Hid (heightF (l.take (i + 1)) b = hstep b n l[i]) := by unfold Hid; rw [heightF_take l b i hlt, ← HN.out]
      cases hp : pre b l[i].bits with
      | true =>
        have HP : Hid (pre b l[i].bits = true) := hp
        clear hp
        have hsz : b.size ≤ l[i].bits.size := by
          by_cases h : b.size ≤ l[i].bits.size
          · exact h
          · have := pre_no h; rw [HP.out] at this; exact absurd this (by simp)
        by_cases hle : n < l[i].bits.size - b.size
        · go_wp2_with fail
          refine (begins_any _ _ _).mono ?_
          rintro e w1 ⟨rfl, rfl⟩
          rw [HP.out]
          go_wp2_with fail
          go_roundg (gk - 1)
          case measure => omega
          case rel => exact ⟨i + 1, l[i].bits.size - b.size, int_eq (by omega), int_eq (by omega), by omega, rfl, by unfold Hid; rw [HT.out, hstep, if_pos ⟨HP.out, hle⟩]⟩
        · have hd : decide ((n : Int) < (l[i].bits.size : Int) - (b.size : Int)) = false := by rw [decide_eq_false_iff_not]; omega
          go_wp2_with fail
          refine (begins_any _ _ _).mono ?_
          rintro e w1 ⟨rfl, rfl⟩
          rw [HP.out]
          go_wp2_with fail
          go_roundg (gk - 1)
          case measure => omega
          case rel => exact ⟨i + 1, n, rfl, int_eq (by omega), by omega, rfl, by unfold Hid; rw [HT.out, hstep, if_neg (fun h => hle h.2)]⟩
      | false =>
        have HP : Hid (pre b l[i].bits = false) := hp
        clear hp
        go_wp2_with fail
        refine (begins_any _ _ _).mono ?_
        rintro e w1 ⟨rfl, rfl⟩
        rw [HP.out]
        go_wp2_with fail
        go_roundg (gk - 1)
        case measure => omega
        case rel => exact ⟨i + 1, n, rfl, int_eq (by omega), by omega, rfl, by unfold Hid; rw [HT.out, hstep, if_neg (by rw [HP.out]; simp)]⟩
    · go_wp2_with fail
      go_ret
      have hh := HN.out
      rw [List.take_of_length_le (by omega)] at hh
      exact ⟨ret1 (int_eq (by rw [hh])), rfl⟩
end Go.Proofs.YtdfnmpmmkcpddaaDoor
