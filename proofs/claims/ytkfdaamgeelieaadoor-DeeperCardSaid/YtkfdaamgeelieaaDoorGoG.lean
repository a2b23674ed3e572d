/- The walks of the program's cost: a table's nodes. -/
import Derived.Test.YtkfdaamgeelieaaDoorWalkU
import Derived.Test.YtkfdaamgeelieaaDoorWalkS
import Derived.Test.YtkfdaamgeelieaaDoorSpecU
import Derived.Maps.AppendAt
namespace Go.Proofs.YtkfdaamgeelieaaDoor
open Go.RowKit

theorem Tryd.infoTree : (Tryd.prog.info? 73).map (fun i => (i.zero, i.size, i.bytes)) = some (some (.agg #[.string ⟨#[]⟩, .int .i64 0, .int .i64 0]), 3, 32) := by kernel_rfl

/-- The cells of a node in a world that grew. -/
theorem node_cells {w wr : World} {base e g cap : Nat} {l : List Kn} (hown : w.ownsRow base e 3 (.slice (some ⟨g, 0, none⟩) l.length cap) l.length (kc l)) (hg : g < w.heap.size) (hb : Below w.heap.size w wr) {i : Nat} (hi : i < l.length) :
    wr.cell? ⟨g, i * 3, none⟩ = some (.string l[i].b) ∧ wr.cell? ⟨g, i * 3 + 1, none⟩ = some (.int .i64 (l[i].k : Nat)) ∧ wr.cell? ⟨g, i * 3 + 2, none⟩ = some (.int .i64 l[i].n) := by
  obtain ⟨k0, k1, k2⟩ := kc_at l i l[i] (by simp)
  exact ⟨(hb.cell (p := ⟨g, i * 3, none⟩) hg).trans ((hown.cellAt (i * 3) (by omega)).trans k0), (hb.cell (p := ⟨g, i * 3 + 1, none⟩) hg).trans ((hown.cellAt (i * 3 + 1) (by omega)).trans k1),
    (hb.cell (p := ⟨g, i * 3 + 2, none⟩) hg).trans ((hown.cellAt (i * 3 + 2) (by omega)).trans k2)⟩

def kbits (l : List Kn) : List ByteArray := l.map Kn.b
theorem kbits_take (x : ByteArray) (l : List Kn) {i : Nat} (h : i < l.length) : memB x (kbits (l.take (i + 1))) = (memB x (kbits (l.take i)) || (l[i].b.toList == x.toList)) := by
  rw [List.take_succ_eq_append_getElem h]
  unfold memB kbits
  rw [List.map_append, List.any_append]
  simp only [List.map_cons, List.map_nil, List.any_cons, List.any_nil, Bool.or_false]
  congr 1
  by_cases e : l[i].b = x
  · rw [ba_eq e]; simp [e]
  · rw [ba_ne e]; simp [e]

set_option maxRecDepth 100000 in
theorem hasNode_any (b : ByteArray) (l : List Kn) (ao : Option Addr) (cap base : Nat) (w : World) (hl : l.length ≤ 4000) (hown : w.ownsRow base 73 3 (.slice ao l.length cap) l.length (kc l)) :
    Calls Tryd.prog 70 #[.slice ao l.length cap, .string b] w fun e w' => e = .returned (.bool (memB b (kbits l))) ∧ w' = w := by
  go_enter Tryd.func70, Tryd.ntmps70
  go_wp2_with fail
  go_loopg [5] l.length (fun g x wr => ∃ i : Nat, x = .int .i64 i ∧ g + i = l.length ∧ wr = w ∧ Hid (memB b (kbits (l.take i)) = false))
  case atStart => exact ⟨0, rfl, by omega, rfl, rfl⟩
  case round =>
    obtain ⟨i, rfl, hgi, rfl, HM⟩ := hrel
    by_cases hlt : i < l.length
    · obtain ⟨g, rfl, hg1, hg2, hg3, hg4⟩ := own_some hown (by omega)
      unfold maxLen at hg4
      obtain ⟨c0, c1, c2⟩ := node_cells hown hg2 (Below.refl _ _) hlt
      have hT := kbits_take b l hlt
      rw [HM.out, Bool.false_or] at hT
      by_cases he : l[i].b = b
      · have hbe := ba_eq he
        have HY : Hid (memB b (kbits l) = true) := by
          unfold Hid; rw [memB_iff]; unfold kbits; rw [List.mem_map]; exact ⟨l[i], List.getElem_mem hlt, he⟩
        clear he hT
        go_wp2_with fail
        go_ret
        rw [HY.out]
        exact ⟨rfl, rfl⟩
      · have hbe := ba_ne he
        rw [hbe] at hT
        have HT : Hid (memB b (kbits (l.take (i + 1))) = false) := hT
        clear he hT
        go_wp2_with fail
        go_roundg (gk - 1)
        case measure => omega
        case rel => exact ⟨i + 1, int_eq (by omega), by omega, rfl, HT.out⟩
    · go_wp2_with fail
      go_ret
      have hh := HM.out
      rw [List.take_of_length_le (by omega)] at hh
      exact ⟨ret1 (bool_eq (by rw [hh])), rfl⟩

set_option maxRecDepth 100000 in
set_option maxHeartbeats 1000000 in
theorem flatNode_any (b : ByteArray) (l : List Rt) (ao : Option Addr) (cap base : Nat) (w : World) (hl : l.length ≤ 400) (hS : ∀ r ∈ l, r.bits.size ≤ 12) (hb : b.size ≤ 12) (hown : w.ownsRow base 75 2 (.slice ao l.length cap) l.length (rc l)) :
    Calls Tryd.prog 71 #[.slice ao l.length cap, .string b] w fun e w' => e = .returned (.agg #[.string b, .int .i64 (heightF l b), .int .i64 (2 ^ heightF l b : Nat)]) ∧ Below w.heap.size w w' := by
  go_enter Tryd.func71, Tryd.ntmps71
  go_wp2_with fail
  go_loopg [5, 6] l.length (fun g x y wr => ∃ (i n : Nat), x = .int .i64 n ∧ y = .int .i64 i ∧ g + i = l.length ∧ wr = w.alloc (.cells #[.string ⟨#[]⟩, .int .i64 0, .int .i64 0] 73) ∧ n ≤ 12 ∧ Hid (n = heightF (l.take i) b))
  case atStart => exact ⟨0, 0, rfl, rfl, by omega, rfl, by omega, rfl⟩
  case round =>
    obtain ⟨i, n, rfl, rfl, hgi, rfl, hn12, HN⟩ := hrel
    by_cases hlt : i < l.length
    · obtain ⟨g, rfl, hg1, hg2, hg3, hg4⟩ := own_some hown (by omega)
      unfold maxLen at hg4
      obtain ⟨c0, c1⟩ := row_cells hown hg2 ((Below.refl _ _).alloc (Nat.le_refl _) (.cells #[.string ⟨#[]⟩, .int .i64 0, .int .i64 0] 73)) hlt
      have hli := hS l[i] (List.getElem_mem hlt)
      have HT : Hid (heightF (l.take (i + 1)) b = hstep b n l[i]) := by unfold Hid; rw [heightF_take l b i hlt, ← HN.out]
      by_cases hle : n < l[i].bits.size - b.size
      · cases hp : pre b l[i].bits with
        | true =>
          have HP : Hid (pre b l[i].bits = true) := hp
          clear hp
          go_wp2_with fail
          refine (beginsWith_any _ _ _).mono ?_
          rintro e w1 ⟨rfl, rfl⟩
          rw [HP.out]
          go_wp2_with fail
          go_roundg (gk - 1)
          case measure => omega
          case rel => exact ⟨i + 1, l[i].bits.size - b.size, int_eq (by omega), int_eq (by omega), by omega, rfl, by omega, by unfold Hid; rw [HT.out, hstep, if_pos ⟨HP.out, hle⟩]⟩
        | false =>
          have HP : Hid (pre b l[i].bits = false) := hp
          clear hp
          go_wp2_with fail
          refine (beginsWith_any _ _ _).mono ?_
          rintro e w1 ⟨rfl, rfl⟩
          rw [HP.out]
          go_wp2_with fail
          go_roundg (gk - 1)
          case measure => omega
          case rel => exact ⟨i + 1, n, rfl, int_eq (by omega), by omega, rfl, by omega, by unfold Hid; rw [HT.out, hstep, if_neg (by rw [HP.out]; simp)]⟩
      · have hd : decide ((n : Int) < (l[i].bits.size : Int) - (b.size : Int)) = false := by rw [decide_eq_false_iff_not]; omega
        go_wp2_with fail
        go_roundg (gk - 1)
        case measure => omega
        case rel => exact ⟨i + 1, n, rfl, int_eq (by omega), by omega, rfl, by omega, by unfold Hid; rw [HT.out, hstep, if_neg (fun h => hle h.2)]⟩
    · have hh := HN.out
      rw [List.take_of_length_le (by omega)] at hh
      have HH : Hid (n = heightF l b) := hh
      clear hh HN
      obtain ⟨hpw, hp1, hp2⟩ := wrap_pow (W := n) hn12
      go_wp2_with fail
      rw [← HH.out]
      refine bodyPost_ret (v := .agg #[.string b, .int .i64 n, .int .i64 (2 ^ n : Nat)]) (by simp [results, Tryd.results71, go_sem]) rfl ⟨rfl, ?_⟩
      exact (Below.refl _ _).alloc (Nat.le_refl _) _
end Go.Proofs.YtkfdaamgeelieaaDoor
