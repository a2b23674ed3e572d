/- The walks of Find: the hop. -/
import Derived.Test.YtdfnmpmmkcpddaaDoorWalkH
import Derived.Test.YtdfnmpmmkcpddaaDoorSpecC
namespace Go.Proofs.YtdfnmpmmkcpddaaDoor
open Go.RowKit

/-- The cells of an owned row, in a later world. -/
theorem row_cells {w wr : World} {base e g cap : Nat} {l : List Rt} (hown : w.ownsRow base e 2 (.slice (some ⟨g, 0, none⟩) l.length cap) l.length (rc l)) (hg : g < w.heap.size) (hb : Below w.heap.size w wr) {i : Nat} (hi : i < l.length) :
    wr.cell? ⟨g, i * 2, none⟩ = some (.string l[i].bits) ∧ wr.cell? ⟨g, i * 2 + 1, none⟩ = some (.int .i64 (l[i].hop : Nat)) :=
  ⟨(hb.cell (p := ⟨g, i * 2, none⟩) hg).trans ((hown.cellAt (i * 2) (by omega)).trans (rc_bits l i l[i] (by simp))), (hb.cell (p := ⟨g, i * 2 + 1, none⟩) hg).trans ((hown.cellAt (i * 2 + 1) (by omega)).trans (rc_hop l i l[i] (by simp)))⟩

set_option maxRecDepth 100000 in
theorem hopOf_any (a : ByteArray) (l : List Rt) (ao : Option Addr) (cap base : Nat) (w : World) (hl : l.length ≤ 400) (hown : w.ownsRow base 78 2 (.slice ao l.length cap) l.length (rc l)) :
    Calls Tryd.prog 47 #[.slice ao l.length cap, .string a] w fun e w' => e = .returned (.int .i64 (bestF a l).2) ∧ Below w.heap.size w w' := by
  go_enter Tryd.func47, Tryd.ntmps47
  go_wp2_with fail
  go_loopg [5, 6, 7] l.length (fun g x y z wr => ∃ (i : Nat) (m h : Nat), x = .int .i64 m ∧ y = .int .i64 h ∧ z = .int .i64 i ∧ g + i = l.length ∧ Below w.heap.size w wr ∧ Hid ((m, h) = bestF a (l.take i)))
  case atStart => exact ⟨0, 0, 0, rfl, rfl, rfl, by omega, Below.refl _ _, rfl⟩
  case round =>
    obtain ⟨i, m, h, rfl, rfl, rfl, hgi, hbel, HB⟩ := hrel
    by_cases hlt : i < l.length
    · obtain ⟨g, rfl, hg1, hg2, hg3, hg4⟩ := own_some hown (by omega)
      obtain ⟨c0, c1⟩ := row_cells hown hg2 hbel hlt
      have HT : Hid (bestF a (l.take (i + 1)) = bstep a (m, h) l[i]) := by unfold Hid; rw [bestF_take a l i hlt, ← HB.out]
      obtain ⟨b, hb⟩ : ∃ b, b = l[i].bits := ⟨_, rfl⟩
      obtain ⟨q, hq⟩ : ∃ q, q = l[i].hop := ⟨_, rfl⟩
      rw [← hb] at c0
      rw [← hq] at c1
      have HT2 : Hid (bestF a (l.take (i + 1)) = if m ≤ b.size ∧ pre b a = true then (b.size, q) else (m, h)) := by unfold Hid; rw [HT.out, bstep, ← hb, ← hq]
      clear HT hb hq
      by_cases hle : m ≤ b.size
      · cases hp : pre b a with
        | true =>
          have HP : Hid (pre b a = true) := hp
          clear hp
          go_wp2_with fail
          refine (beginsWith_any _ _ _).mono ?_
          rintro e w1 ⟨rfl, rfl⟩
          rw [HP.out]
          go_wp2_with fail
          go_roundg (gk - 1)
          case measure => omega
          case rel => exact ⟨i + 1, b.size, q, rfl, rfl, int_eq (by omega), by omega, hbel.alloc hbel.size _, by unfold Hid; rw [HT2.out, if_pos ⟨hle, HP.out⟩]⟩
        | false =>
          have HP : Hid (pre b a = false) := hp
          clear hp
          go_wp2_with fail
          refine (beginsWith_any _ _ _).mono ?_
          rintro e w1 ⟨rfl, rfl⟩
          rw [HP.out]
          go_wp2_with fail
          go_roundg (gk - 1)
          case measure => omega
          case rel => exact ⟨i + 1, m, h, rfl, rfl, int_eq (by omega), by omega, hbel.alloc hbel.size _, by unfold Hid; rw [HT2.out, if_neg (by rw [HP.out]; simp)]⟩
      · go_wp2_with fail
        go_roundg (gk - 1)
        case measure => omega
        case rel => exact ⟨i + 1, m, h, rfl, rfl, int_eq (by omega), by omega, hbel.alloc hbel.size _, by unfold Hid; rw [HT2.out, if_neg (by omega)]⟩
    · go_wp2_with fail
      go_ret
      have hh := HB.out
      rw [List.take_of_length_le (by omega)] at hh
      exact ⟨ret1 (int_eq (by rw [← hh])), hbel⟩

/-- Of the first i routes none fits; or the one at kn is the longest that does. -/
def K1 (a : ByteArray) (l : List Rt) (i : Nat) : Prop := ∀ (j : Nat) (r : Rt), l[j]? = some r → j < i → pre r.bits a = false
def K2 (a : ByteArray) (l : List Rt) (i kn : Nat) : Prop := ∃ r0, l[kn]? = some r0 ∧ pre r0.bits a = true ∧ ∀ (j : Nat) (r : Rt), l[j]? = some r → j < i → pre r.bits a = true → r.bits.size ≤ r0.bits.size
section
variable {a : ByteArray} {l : List Rt} {i kn : Nat}
theorem at_getElem? (hlt : i < l.length) {j : Nat} {r : Rt} (h : l[j]? = some r) (hj : j < i + 1) : j < i ∨ (j = i ∧ r = l[i]) := by
  by_cases e : j = i
  · subst e; rw [List.getElem?_eq_getElem hlt] at h; exact .inr ⟨rfl, (Option.some.inj h).symm⟩
  · exact .inl (by omega)
theorem K1.no (h : K1 a l i) (hlt : i < l.length) (hp : pre l[i].bits a = false) : K1 a l (i + 1) := by
  intro j r hr hj
  rcases at_getElem? hlt hr hj with h1 | ⟨_, rfl⟩
  · exact h j r hr h1
  · exact hp
theorem K1.yes (h : K1 a l i) (hlt : i < l.length) (hp : pre l[i].bits a = true) : K2 a l (i + 1) i := by
  refine ⟨l[i], by simp, hp, fun j r hr hj hpr => ?_⟩
  rcases at_getElem? hlt hr hj with h1 | ⟨_, rfl⟩
  · rw [h j r hr h1] at hpr; exact absurd hpr (by simp)
  · exact Nat.le_refl _
theorem K2.no (h : K2 a l i kn) (hlt : i < l.length) (hp : pre l[i].bits a = false) : K2 a l (i + 1) kn := by
  obtain ⟨r0, h0, h1, h2⟩ := h
  refine ⟨r0, h0, h1, fun j r hr hj hpr => ?_⟩
  rcases at_getElem? hlt hr hj with h3 | ⟨_, rfl⟩
  · exact h2 j r hr h3 hpr
  · rw [hp] at hpr; exact absurd hpr (by simp)
theorem K2.old (h : K2 a l i kn) (hlt : i < l.length) (hk : kn < l.length) (hle : ¬ l[kn].bits.size < l[i].bits.size) : K2 a l (i + 1) kn := by
  obtain ⟨r0, h0, h1, h2⟩ := h
  refine ⟨r0, h0, h1, fun j r hr hj hpr => ?_⟩
  rw [List.getElem?_eq_getElem hk] at h0
  have h0' := Option.some.inj h0
  rcases at_getElem? hlt hr hj with h3 | ⟨_, rfl⟩
  · exact h2 j r hr h3 hpr
  · rw [h0'] at hle; omega
theorem K2.new (h : K2 a l i kn) (hlt : i < l.length) (hk : kn < l.length) (hp : pre l[i].bits a = true) (hle : l[kn].bits.size < l[i].bits.size) : K2 a l (i + 1) i := by
  obtain ⟨r0, h0, h1, h2⟩ := h
  rw [List.getElem?_eq_getElem hk] at h0
  have h0' := Option.some.inj h0
  refine ⟨l[i], by simp, hp, fun j r hr hj hpr => ?_⟩
  rcases at_getElem? hlt hr hj with h3 | ⟨_, rfl⟩
  · have := h2 j r hr h3 hpr; rw [h0'] at hle; omega
  · exact Nat.le_refl _
theorem K1.res (h : K1 a l i) (hi : l.length ≤ i) : RRes a l 0 := .inl ⟨rfl, fun r hr => by
  obtain ⟨j, hj, rfl⟩ := List.getElem_of_mem hr
  exact h j _ (by simp) (by omega)⟩
theorem K2.res (h : K2 a l i kn) (hi : l.length ≤ i) (hk : kn < l.length) : RRes a l l[kn].hop := by
  obtain ⟨r0, h0, h1, h2⟩ := h
  rw [List.getElem?_eq_getElem hk] at h0
  have h0' := Option.some.inj h0
  refine .inr ⟨l[kn], List.getElem_mem hk, by rw [h0']; exact h1, rfl, fun r hr hp => ?_⟩
  obtain ⟨j, hj, rfl⟩ := List.getElem_of_mem hr
  rw [h0']; exact h2 j _ (by simp) (by omega) hp
end

set_option maxRecDepth 100000 in
set_option maxHeartbeats 1000000 in
theorem rhopA_any (a : ByteArray) (l : List Rt) (ao : Option Addr) (cap base : Nat) (w : World) (hl : l.length ≤ 400) (hown : w.ownsRow base 98 2 (.slice ao l.length cap) l.length (rc l)) :
    Calls Tryd.prog 56 #[.slice ao l.length cap, .string a] w fun e w' => ∃ h : Nat, e = .returned (.int .i64 h) ∧ RRes a l h ∧ Below w.heap.size w w' := by
  go_enter Tryd.func56, Tryd.ntmps56
  go_wp2_with fail
  go_loopg [5, 6] l.length (fun g x y wr => ∃ (i : Nat) (k : Int), x = .int .i64 k ∧ y = .int .i64 i ∧ g + i = l.length ∧ Below w.heap.size w wr ∧
    ((k = -1 ∧ Hid (K1 a l i)) ∨ ∃ kn : Nat, k = kn ∧ kn < i ∧ Hid (K2 a l i kn)))
  case atStart => exact ⟨0, -1, rfl, rfl, by omega, Below.refl _ _, .inl ⟨rfl, fun j _ _ hj => by omega⟩⟩
  case round =>
    obtain ⟨i, k, rfl, rfl, hgi, hbel, hK⟩ := hrel
    by_cases hlt : i < l.length
    · obtain ⟨g, rfl, hg1, hg2, hg3, hg4⟩ := own_some hown (by omega)
      unfold maxLen at hg4
      obtain ⟨c0, c1⟩ := row_cells hown hg2 hbel hlt
      rcases hK with ⟨rfl, HN⟩ | ⟨kn, rfl, hki, HK⟩
      · cases hp : pre l[i].bits a with
        | true =>
          have HP : Hid (pre l[i].bits a = true) := hp
          clear hp
          go_wp2_with fail
          refine (begins_any _ _ _).mono ?_
          rintro e w1 ⟨rfl, rfl⟩
          rw [HP.out]
          go_wp2_with fail
          go_quiet (fail)
          go_wp2_with fail
          go_roundg (gk - 1)
          case measure => omega
          case rel => exact ⟨i + 1, i, rfl, int_eq (by omega), by omega, below_drewN hbel _, .inr ⟨i, rfl, by omega, K1.yes HN.out hlt HP.out⟩⟩
        | false =>
          have HP : Hid (pre l[i].bits a = false) := hp
          clear hp
          go_wp2_with fail
          refine (begins_any _ _ _).mono ?_
          rintro e w1 ⟨rfl, rfl⟩
          rw [HP.out]
          go_wp2_with fail
          go_quiet (fail)
          go_wp2_with fail
          go_roundg (gk - 1)
          case measure => omega
          case rel => exact ⟨i + 1, -1, rfl, int_eq (by omega), by omega, below_drewN hbel _, .inl ⟨rfl, K1.no HN.out hlt HP.out⟩⟩
      · have hkl : kn < l.length := by omega
        obtain ⟨d0, d1⟩ := row_cells hown hg2 hbel hkl
        cases hp : pre l[i].bits a with
        | true =>
          have HP : Hid (pre l[i].bits a = true) := hp
          clear hp
          by_cases hle : l[kn].bits.size < l[i].bits.size
          · go_wp2_with fail
            refine (begins_any _ _ _).mono ?_
            rintro e w1 ⟨rfl, rfl⟩
            rw [HP.out]
            go_wp2_with fail
            go_quiet (fail)
            go_wp2_with fail
            go_roundg (gk - 1)
            case measure => omega
            case rel => exact ⟨i + 1, i, rfl, int_eq (by omega), by omega, below_drewN hbel _, .inr ⟨i, rfl, by omega, K2.new HK.out hlt hkl HP.out hle⟩⟩
          · have hd : decide ((l[kn].bits.size : Int) < (l[i].bits.size : Int)) = false := by rw [decide_eq_false_iff_not]; omega
            go_wp2_with fail
            refine (begins_any _ _ _).mono ?_
            rintro e w1 ⟨rfl, rfl⟩
            rw [HP.out]
            go_wp2_with fail
            go_quiet (fail)
            go_wp2_with fail
            go_roundg (gk - 1)
            case measure => omega
            case rel => exact ⟨i + 1, kn, rfl, int_eq (by omega), by omega, below_drewN hbel _, .inr ⟨kn, rfl, by omega, K2.old HK.out hlt hkl hle⟩⟩
        | false =>
          have HP : Hid (pre l[i].bits a = false) := hp
          clear hp
          go_wp2_with fail
          refine (begins_any _ _ _).mono ?_
          rintro e w1 ⟨rfl, rfl⟩
          rw [HP.out]
          go_wp2_with fail
          go_quiet (fail)
          go_wp2_with fail
          go_roundg (gk - 1)
          case measure => omega
          case rel => exact ⟨i + 1, kn, rfl, int_eq (by omega), by omega, below_drewN hbel _, .inr ⟨kn, rfl, by omega, K2.no HK.out hlt HP.out⟩⟩
    · rcases hK with ⟨rfl, HN⟩ | ⟨kn, rfl, hki, HK⟩
      · go_wp2_with fail
        go_ret
        exact ⟨0, rfl, K1.res HN.out (by omega), hbel⟩
      · have hkl : kn < l.length := by omega
        obtain ⟨g, rfl, hg1, hg2, hg3, hg4⟩ := own_some hown (by omega)
        unfold maxLen at hg4
        obtain ⟨d0, d1⟩ := row_cells hown hg2 hbel hkl
        go_wp2_with fail
        go_ret
        exact ⟨l[kn].hop, rfl, K2.res HK.out (by omega) hkl, hbel⟩
end Go.Proofs.YtdfnmpmmkcpddaaDoor
