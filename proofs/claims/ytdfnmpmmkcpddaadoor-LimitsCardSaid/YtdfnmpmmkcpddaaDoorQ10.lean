import Derived.Test.YtdfnmpmmkcpddaaDoorQ09
import Derived.Lib.ItoaNum
/- The walks of Find: the hop. -/
namespace Go.Proofs.YtdfnmpmmkcpddaaDoor
open Go.RowKit

/-- The cells of an owned row, in a later world. -/
theorem row_cells {w wr : World} {base e g cap : Nat} {l : List Rt} (hown : w.ownsRow base e 2 (.slice (some ⟨g, 0, none⟩) l.length cap) l.length (rc l)) (hg : g < w.heap.size) (hb : Below w.heap.size w wr) {i : Nat} (hi : i < l.length) :
    wr.cell? ⟨g, i * 2, none⟩ = some (.string l[i].bits) ∧ wr.cell? ⟨g, i * 2 + 1, none⟩ = some (.int .i64 (l[i].hop : Nat)) :=
  ⟨(hb.cell (p := ⟨g, i * 2, none⟩) hg).trans ((hown.cellAt (i * 2) (by omega)).trans (rc_bits l i l[i] (by simp))), (hb.cell (p := ⟨g, i * 2 + 1, none⟩) hg).trans ((hown.cellAt (i * 2 + 1) (by omega)).trans (rc_hop l i l[i] (by simp)))⟩

set_option maxRecDepth 100000 in
theorem hopOf_any (a : ByteArray) (l : List Rt) (ao : Option Addr) (cap base : Nat) (w : World) (hl : l.length ≤ 400) (hown : w.ownsRow base 78 2 (.slice ao l.length cap) l.length (rc l)) :
    Calls Tryd.prog 47 #[.slice ao l.length cap, .string a] w fun e w' => e = .returned (.int .i64 (bestF a l).2) ∧ Below w.heap.size w w' := by
  go_enter Tryd.func47, Tryd.ntmps47
  go_wp2_with fail
  go_loopg [5, 6, 7] l.length (fun g x y z wr => ∃ (i : Nat) (m h : Nat), x = .int .i64 m ∧ y = .int .i64 h ∧ z = .int .i64 i ∧ g + i = l.length ∧ Below w.heap.size w wr ∧ Hid ((m, h) = bestF a (l.take i)))
  case atStart => exact ⟨0, 0, 0, rfl, rfl, rfl, by omega, Below.refl _ _, rfl⟩
  case round =>
    obtain ⟨i, m, h, rfl, rfl, rfl, hgi, hbel, HB⟩ := hrel
    by_cases hlt : i < l.length
    · obtain ⟨g, rfl, hg1, hg2, hg3, hg4⟩ := own_some hown (by omega)
      obtain ⟨c0, c1⟩ := row_cells hown hg2 hbel hlt
      have HT : Hid (bestF a (l.take (i + 1)) = bstep a (m, h) l[i]) := by unfold Hid; rw [bestF_take a l i hlt, ← HB.out]
      obtain ⟨b, hb⟩ : ∃ b, b = l[i].bits := ⟨_, rfl⟩
      obtain ⟨q, hq⟩ : ∃ q, q = l[i].hop := ⟨_, rfl⟩
      rw [← hb] at c0
      rw [← hq] at c1
      have HT2 : Hid (bestF a (l.take (i + 1)) = if m ≤ b.size ∧ pre b a = true then (b.size, q) else (m, h)) := by unfold Hid; rw [HT.out, bstep, ← hb, ← hq]
      clear HT hb hq
      by_cases hle : m ≤ b.size
      · cases hp : pre b a with
        | true =>
          have HP : Hid (pre b a = true) := hp
          clear hp
          go_wp2_with fail
          refine (beginsWith_any _ _ _).mono ?_
          rintro e w1 ⟨rfl, rfl⟩
          rw [HP.out]
          go_wp2_with fail
          go_roundg (gk - 1)
          case measure => omega
          case rel => exact ⟨i + 1, b.size, q, rfl, rfl, int_eq (by omega), by omega, hbel.alloc hbel.size _, by unfold Hid; rw [HT2.out, if_pos ⟨hle, HP.out⟩]⟩
        | false =>
          have HP : Hid (pre b a = false) := hp
          clear hp
          go_wp2_with fail
          refine (beginsWith_any _ _ _).mono ?_
          rintro e w1 ⟨rfl, rfl⟩
          rw [HP.out]
          go_wp2_with fail
          go_roundg (gk - 1)
          case measure => omega
          case rel => exact ⟨i + 1, m, h, rfl, rfl, int_eq (by omega), by omega, hbel.alloc hbel.size _, by unfold Hid; rw [HT2.out, if_neg (by rw [HP.out]; simp)]⟩
      · go_wp2_with fail
        go_roundg (gk - 1)
        case measure => omega
        case rel => exact ⟨i + 1, m, h, rfl, rfl, int_eq (by omega), by omega, hbel.alloc hbel.size _, by unfold Hid; rw [HT2.out, if_neg (by omega)]⟩
    · go_wp2_with fail
      go_ret
      have hh := HB.out
      rw [List.take_of_length_le (by omega)] at hh
      exact ⟨ret1 (int_eq (by rw [← hh])), hbel⟩

/-- Of the first i routes none fits; or the one at kn is the longest that does. -/
def K1 (a : ByteArray) (l : List Rt) (i : Nat) : Prop := ∀ (j : Nat) (r : Rt), l[j]? = some r → j < i → pre r.bits a = false
def K2 (a : ByteArray) (l : List Rt) (i kn : Nat) : Prop := ∃ r0, l[kn]? = some r0 ∧ pre r0.bits a = true ∧ ∀ (j : Nat) (r : Rt), l[j]? = some r → j < i → pre r.bits a = true → r.bits.size ≤ r0.bits.size
section
variable {a : ByteArray} {l : List Rt} {i kn : Nat}
theorem at_getElem? (hlt : i < l.length) {j : Nat} {r : Rt} (h : l[j]? = some r) (hj : j < i + 1) : j < i ∨ (j = i ∧ r = l[i]) := by
  by_cases e : j = i
  · subst e; rw [List.getElem?_eq_getElem hlt] at h; exact .inr ⟨rfl, (Option.some.inj h).symm⟩
  · exact .inl (by omega)
theorem K1.no (h : K1 a l i) (hlt : i < l.length) (hp : pre l[i].bits a = false) : K1 a l (i + 1) := by
  intro j r hr hj
  rcases at_getElem? hlt hr hj with h1 | ⟨_, rfl⟩
  · exact h j r hr h1
  · exact hp
theorem K1.yes (h : K1 a l i) (hlt : i < l.length) (hp : pre l[i].bits a = true) : K2 a l (i + 1) i := by
  refine ⟨l[i], by simp, hp, fun j r hr hj hpr => ?_⟩
  rcases at_getElem? hlt hr hj with h1 | ⟨_, rfl⟩
  · rw [h j r hr h1] at hpr; exact absurd hpr (by simp)
  · exact Nat.le_refl _
theorem K2.no (h : K2 a l i kn) (hlt : i < l.length) (hp : pre l[i].bits a = false) : K2 a l (i + 1) kn := by
  obtain ⟨r0, h0, h1, h2⟩ := h
  refine ⟨r0, h0, h1, fun j r hr hj hpr => ?_⟩
  rcases at_getElem? hlt hr hj with h3 | ⟨_, rfl⟩
  · exact h2 j r hr h3 hpr
  · rw [hp] at hpr; exact absurd hpr (by simp)
theorem K2.old (h : K2 a l i kn) (hlt : i < l.length) (hk : kn < l.length) (hle : ¬ l[kn].bits.size < l[i].bits.size) : K2 a l (i + 1) kn := by
  obtain ⟨r0, h0, h1, h2⟩ := h
  refine ⟨r0, h0, h1, fun j r hr hj hpr => ?_⟩
  rw [List.getElem?_eq_getElem hk] at h0
  have h0' := Option.some.inj h0
  rcases at_getElem? hlt hr hj with h3 | ⟨_, rfl⟩
  · exact h2 j r hr h3 hpr
  · rw [h0'] at hle; omega
theorem K2.new (h : K2 a l i kn) (hlt : i < l.length) (hk : kn < l.length) (hp : pre l[i].bits a = true) (hle : l[kn].bits.size < l[i].bits.size) : K2 a l (i + 1) i := by
  obtain ⟨r0, h0, h1, h2⟩ := h
  rw [List.getElem?_eq_getElem hk] at h0
  have h0' := Option.some.inj h0
  refine ⟨l[i], by simp, hp, fun j r hr hj hpr => ?_⟩
  rcases at_getElem? hlt hr hj with h3 | ⟨_, rfl⟩
  · have := h2 j r hr h3 hpr; rw [h0'] at hle; omega
  · exact Nat.le_refl _
theorem K1.res (h : K1 a l i) (hi : l.length ≤ i) : RRes a l 0 := .inl ⟨rfl, fun r hr => by
  obtain ⟨j, hj, rfl⟩ := List.getElem_of_mem hr
  exact h j _ (by simp) (by omega)⟩
theorem K2.res (h : K2 a l i kn) (hi : l.length ≤ i) (hk : kn < l.length) : RRes a l l[kn].hop := by
  obtain ⟨r0, h0, h1, h2⟩ := h
  rw [List.getElem?_eq_getElem hk] at h0
  have h0' := Option.some.inj h0
  refine .inr ⟨l[kn], List.getElem_mem hk, by rw [h0']; exact h1, rfl, fun r hr hp => ?_⟩
  obtain ⟨j, hj, rfl⟩ := List.getElem_of_mem hr
  rw [h0']; exact h2 j _ (by simp) (by omega) hp
end

set_option maxRecDepth 100000 in
set_option maxHeartbeats 1000000 in
theorem rhopA_any (a : ByteArray) (l : List Rt) (ao : Option Addr) (cap base : Nat) (w : World) (hl : l.length ≤ 400) (hown : w.ownsRow base 98 2 (.slice ao l.length cap) l.length (rc l)) :
    Calls Tryd.prog 56 #[.slice ao l.length cap, .string a] w fun e w' => ∃ h : Nat, e = .returned (.int .i64 h) ∧ RRes a l h ∧ Below w.heap.size w w' := by
  go_enter Tryd.func56, Tryd.ntmps56
  go_wp2_with fail
  go_loopg [5, 6] l.length (fun g x y wr => ∃ (i : Nat) (k : Int), x = .int .i64 k ∧ y = .int .i64 i ∧ g + i = l.length ∧ Below w.heap.size w wr ∧
    ((k = -1 ∧ Hid (K1 a l i)) ∨ ∃ kn : Nat, k = kn ∧ kn < i ∧ Hid (K2 a l i kn)))
  case atStart => exact ⟨0, -1, rfl, rfl, by omega, Below.refl _ _, .inl ⟨rfl, fun j _ _ hj => by omega⟩⟩
  case round =>
    obtain ⟨i, k, rfl, rfl, hgi, hbel, hK⟩ := hrel
    by_cases hlt : i < l.length
    · obtain ⟨g, rfl, hg1, hg2, hg3, hg4⟩ := own_some hown (by omega)
      unfold maxLen at hg4
      obtain ⟨c0, c1⟩ := row_cells hown hg2 hbel hlt
      rcases hK with ⟨rfl, HN⟩ | ⟨kn, rfl, hki, HK⟩
      · cases hp : pre l[i].bits a with
        | true =>
          have HP : Hid (pre l[i].bits a = true) := hp
          clear hp
          go_wp2_with fail
          refine (begins_any _ _ _).mono ?_
          rintro e w1 ⟨rfl, rfl⟩
          rw [HP.out]
          go_wp2_with fail
          go_quiet (fail)
          go_wp2_with fail
          go_roundg (gk - 1)
          case measure => omega
          case rel => exact ⟨i + 1, i, rfl, int_eq (by omega), by omega, below_drewN hbel _, .inr ⟨i, rfl, by omega, K1.yes HN.out hlt HP.out⟩⟩
        | false =>
          have HP : Hid (pre l[i].bits a = false) := hp
          clear hp
          go_wp2_with fail
          refine (begins_any _ _ _).mono ?_
          rintro e w1 ⟨rfl, rfl⟩
          rw [HP.out]
          go_wp2_with fail
          go_quiet (fail)
          go_wp2_with fail
          go_roundg (gk - 1)
          case measure => omega
          case rel => exact ⟨i + 1, -1, rfl, int_eq (by omega), by omega, below_drewN hbel _, .inl ⟨rfl, K1.no HN.out hlt HP.out⟩⟩
      · have hkl : kn < l.length := by omega
        obtain ⟨d0, d1⟩ := row_cells hown hg2 hbel hkl
        cases hp : pre l[i].bits a with
        | true =>
          have HP : Hid (pre l[i].bits a = true) := hp
          clear hp
          by_cases hle : l[kn].bits.size < l[i].bits.size
          · go_wp2_with fail
            refine (begins_any _ _ _).mono ?_
            rintro e w1 ⟨rfl, rfl⟩
            rw [HP.out]
            go_wp2_with fail
            go_quiet (fail)
            go_wp2_with fail
            go_roundg (gk - 1)
            case measure => omega
            case rel => exact ⟨i + 1, i, rfl, int_eq (by omega), by omega, below_drewN hbel _, .inr ⟨i, rfl, by omega, K2.new HK.out hlt hkl HP.out hle⟩⟩
          · have hd : decide ((l[kn].bits.size : Int) < (l[i].bits.size : Int)) = false := by rw [decide_eq_false_iff_not]; omega
            go_wp2_with fail
            refine (begins_any _ _ _).mono ?_
            rintro e w1 ⟨rfl, rfl⟩
            rw [HP.out]
            go_wp2_with fail
            go_quiet (fail)
            go_wp2_with fail
            go_roundg (gk - 1)
            case measure => omega
            case rel => exact ⟨i + 1, kn, rfl, int_eq (by omega), by omega, below_drewN hbel _, .inr ⟨kn, rfl, by omega, K2.old HK.out hlt hkl hle⟩⟩
        | false =>
          have HP : Hid (pre l[i].bits a = false) := hp
          clear hp
          go_wp2_with fail
          refine (begins_any _ _ _).mono ?_
          rintro e w1 ⟨rfl, rfl⟩
          rw [HP.out]
          go_wp2_with fail
          go_quiet (fail)
          go_wp2_with fail
          go_roundg (gk - 1)
          case measure => omega
          case rel => exact ⟨i + 1, kn, rfl, int_eq (by omega), by omega, below_drewN hbel _, .inr ⟨kn, rfl, by omega, K2.no HK.out hlt HP.out⟩⟩
    · rcases hK with ⟨rfl, HN⟩ | ⟨kn, rfl, hki, HK⟩
      · go_wp2_with fail
        go_ret
        exact ⟨0, rfl, K1.res HN.out (by omega), hbel⟩
      · have hkl : kn < l.length := by omega
        obtain ⟨g, rfl, hg1, hg2, hg3, hg4⟩ := own_some hown (by omega)
        unfold maxLen at hg4
        obtain ⟨d0, d1⟩ := row_cells hown hg2 hbel hkl
        go_wp2_with fail
        go_ret
        exact ⟨l[kn].hop, rfl, K2.res HK.out (by omega) hkl, hbel⟩
end Go.Proofs.YtdfnmpmmkcpddaaDoor
/- The plain law of Print: routes in order. -/
namespace Go.Proofs.YtdfnmpmmkcpddaaDoor

theorem bl_irrefl : ∀ a : List UInt8, Op.bytesLess a a = false
  | [] => rfl
  | x :: a => by simp [Op.bytesLess, bl_irrefl a]
theorem bl_trans : ∀ a b c : List UInt8, Op.bytesLess a b = true → Op.bytesLess b c = true → Op.bytesLess a c = true
  | [], [], _, h, _ => by simp [Op.bytesLess] at h
  | [], _ :: _, [], _, h => by simp [Op.bytesLess] at h
  | [], _ :: _, _ :: _, _, _ => rfl
  | _ :: _, [], _, h, _ => by simp [Op.bytesLess] at h
  | _ :: _, _ :: _, [], _, h => by simp [Op.bytesLess] at h
  | x :: a, y :: b, z :: c, h1, h2 => by
    simp only [Op.bytesLess, Bool.or_eq_true, Bool.and_eq_true, decide_eq_true_eq, beq_iff_eq, UInt8.lt_iff_toNat_lt] at h1 h2 ⊢
    rcases h1 with h1 | ⟨rfl, h1⟩ <;> rcases h2 with h2 | ⟨rfl, h2⟩
    · exact .inl (by omega)
    · exact .inl h1
    · exact .inl h2
    · exact .inr ⟨rfl, bl_trans a b c h1 h2⟩
theorem bl_tri : ∀ a b : List UInt8, Op.bytesLess a b = false → Op.bytesLess b a = false → a = b
  | [], [], _, _ => rfl
  | [], _ :: _, h, _ => by simp [Op.bytesLess] at h
  | _ :: _, [], _, h => by simp [Op.bytesLess] at h
  | x :: a, y :: b, h1, h2 => by
    simp only [Op.bytesLess, Bool.or_eq_false_iff, Bool.and_eq_false_iff, decide_eq_false_iff_not, beq_eq_false_iff_ne, UInt8.lt_iff_toNat_lt] at h1 h2
    have hxy : x = y := UInt8.toNat_inj.1 (by omega)
    subst hxy
    rcases h1.2 with h | h
    · exact absurd rfl h
    · rcases h2.2 with h' | h'
      · exact absurd rfl h'
      · rw [bl_tri a b h h']

/-- One text of bits comes ahead of another. -/
def lt (a b : ByteArray) : Bool := Op.bytesLess a.toList b.toList
theorem lt_irrefl (a : ByteArray) : lt a a = false := bl_irrefl _
theorem lt_trans {a b c : ByteArray} (h1 : lt a b = true) (h2 : lt b c = true) : lt a c = true := bl_trans _ _ _ h1 h2
theorem lt_tri {a b : ByteArray} (h1 : lt a b = false) (h2 : lt b a = false) : a = b :=
  ba_ext (by have := bl_tri _ _ h1 h2; rwa [ByteArray.toList_eq, ByteArray.toList_eq] at this)
theorem lt_ne {a b : ByteArray} (h : lt a b = true) : a ≠ b := fun e => by subst e; rw [lt_irrefl] at h; exact absurd h (by simp)
theorem lt_asymm {a b : ByteArray} (h : lt a b = true) : lt b a = false := by
  cases h' : lt b a with
  | false => rfl
  | true => have := lt_trans h h'; rw [lt_irrefl] at this; exact absurd this (by simp)

/-- Routes in order. -/
def Ord (l : List Rt) : Prop := l.Pairwise (fun x y => lt x.bits y.bits = true)

/-- One more at its place, where it displaces one with the same bits. -/
def layR : List Rt → Rt → List Rt
  | [], x => [x]
  | r :: l, x => if lt r.bits x.bits = true then r :: layR l x else if r.bits = x.bits then x :: l else x :: r :: l

theorem layR_mem {x : Rt} : ∀ {l : List Rt}, Ord l → ∀ r : Rt, r ∈ layR l x ↔ r = x ∨ (r.bits ≠ x.bits ∧ r ∈ l)
  | [], _, r => by simp [layR]
  | y :: l, ho, r => by
    have ho' := List.pairwise_cons.1 ho
    unfold layR
    split
    · rename_i hy
      simp only [List.mem_cons, layR_mem ho'.2 r]
      constructor
      · rintro (rfl | rfl | ⟨h1, h2⟩)
        · exact .inr ⟨lt_ne hy, .inl rfl⟩
        · exact .inl rfl
        · exact .inr ⟨h1, .inr h2⟩
      · rintro (rfl | ⟨h1, rfl | h2⟩)
        · exact .inr (.inl rfl)
        · exact .inl rfl
        · exact .inr (.inr ⟨h1, h2⟩)
    · split
      · rename_i hy
        simp only [List.mem_cons]
        constructor
        · rintro (rfl | h)
          · exact .inl rfl
          · exact .inr ⟨fun e => lt_ne (ho'.1 r h) (by rw [hy, e]), .inr h⟩
        · rintro (rfl | ⟨h1, rfl | h2⟩)
          · exact .inl rfl
          · exact absurd hy h1
          · exact .inr h2
      · rename_i h1 h2
        simp only [List.mem_cons]
        have hxy : lt x.bits y.bits = true := by
          cases h3 : lt x.bits y.bits with
          | true => rfl
          | false => exact absurd (lt_tri (by simpa using h1) h3) h2
        constructor
        · rintro (rfl | rfl | h)
          · exact .inl rfl
          · exact .inr ⟨h2, .inl rfl⟩
          · exact .inr ⟨fun e => lt_ne (lt_trans hxy (ho'.1 r h)) e.symm, .inr h⟩
        · rintro (rfl | ⟨_, h⟩)
          · exact .inl rfl
          · exact .inr h
theorem layR_ord {x : Rt} : ∀ {l : List Rt}, Ord l → Ord (layR l x)
  | [], _ => by simp [layR, Ord]
  | y :: l, ho => by
    have ho' := List.pairwise_cons.1 ho
    unfold layR
    split
    · rename_i hy
      refine List.pairwise_cons.2 ⟨fun r hr => ?_, layR_ord ho'.2⟩
      rcases (layR_mem ho'.2 r).1 hr with rfl | ⟨_, h⟩
      · exact hy
      · exact ho'.1 r h
    · split
      · rename_i hy
        exact List.pairwise_cons.2 ⟨fun r hr => by rw [← hy]; exact ho'.1 r hr, ho'.2⟩
      · rename_i h1 h2
        have hxy : lt x.bits y.bits = true := by
          cases h3 : lt x.bits y.bits with
          | true => rfl
          | false => exact absurd (lt_tri (by simpa using h1) h3) h2
        refine List.pairwise_cons.2 ⟨fun r hr => ?_, ho⟩
        rcases List.mem_cons.1 hr with rfl | h
        · exact hxy
        · exact lt_trans hxy (ho'.1 r h)

/-- Each route once, in order. -/
def ordR (l : List Rt) : List Rt := l.foldl layR []
theorem ordR_snoc (l : List Rt) (r : Rt) : ordR (l ++ [r]) = layR (ordR l) r := by simp [ordR]
theorem ordR_take (l : List Rt) (i : Nat) (h : i < l.length) : ordR (l.take (i + 1)) = layR (ordR (l.take i)) l[i] := by
  rw [List.take_succ_eq_append_getElem h, ordR_snoc]
theorem ordR_ord (l : List Rt) : Ord (ordR l) := by
  refine snoc_ind (p := fun l => Ord (ordR l)) ?_ ?_ l
  · simp [ordR, Ord]
  · intro l r ih; rw [ordR_snoc]; exact layR_ord ih
theorem ordR_mem (l : List Rt) (r : Rt) : r ∈ ordR l ↔ lastOf l r.bits = some r.hop := by
  refine snoc_ind (p := fun l => r ∈ ordR l ↔ lastOf l r.bits = some r.hop) ?_ ?_ l
  · simp [ordR, lastOf]
  · intro l x ih
    rw [ordR_snoc, layR_mem (ordR_ord l), lastOf_snoc, ih]
    by_cases hx : x.bits = r.bits
    · rw [if_pos hx]
      constructor
      · rintro (rfl | ⟨h, _⟩)
        · rfl
        · exact absurd hx.symm h
      · intro h
        have := Option.some.inj h
        exact .inl (by cases r; cases x; simp_all)
    · rw [if_neg hx]
      constructor
      · rintro (rfl | ⟨_, h⟩)
        · exact absurd rfl hx
        · exact h
      · intro h; exact .inr ⟨fun e => hx e.symm, h⟩

/-- Two ordered lists of the same routes are one. -/
theorem ord_unique : ∀ {l m : List Rt}, Ord l → Ord m → (∀ r, r ∈ l ↔ r ∈ m) → l = m
  | [], [], _, _, _ => rfl
  | [], y :: m, _, _, h => by have := (h y).2 (by simp); simp at this
  | x :: l, [], _, _, h => by have := (h x).1 (by simp); simp at this
  | x :: l, y :: m, hl, hm, h => by
    have hl' := List.pairwise_cons.1 hl
    have hm' := List.pairwise_cons.1 hm
    have hxy : x = y := by
      rcases List.mem_cons.1 ((h x).1 (by simp)) with e | e
      · exact e
      · rcases List.mem_cons.1 ((h y).2 (by simp)) with e' | e'
        · exact e'.symm
        · have h1 := hm'.1 x e
          have h2 := hl'.1 y e'
          rw [lt_asymm h1] at h2; exact absurd h2 (by simp)
    subst hxy
    rw [ord_unique hl'.2 hm'.2 fun r => ?_]
    constructor
    · intro hr
      rcases List.mem_cons.1 ((h r).1 (List.mem_cons_of_mem _ hr)) with e | e
      · subst e; have := hl'.1 _ hr; rw [lt_irrefl] at this; exact absurd this (by simp)
      · exact e
    · intro hr
      rcases List.mem_cons.1 ((h r).2 (List.mem_cons_of_mem _ hr)) with e | e
      · subst e; have := hm'.1 _ hr; rw [lt_irrefl] at this; exact absurd this (by simp)
      · exact e

theorem layR_length (l : List Rt) (x : Rt) : (layR l x).length ≤ l.length + 1 := by
  induction l with
  | nil => simp [layR]
  | cons r l ih => unfold layR; split
                   · simp; omega
                   · split <;> simp
theorem ordR_length (l : List Rt) : (ordR l).length ≤ l.length := by
  refine snoc_ind (p := fun l => (ordR l).length ≤ l.length) ?_ ?_ l
  · simp [ordR]
  · intro l r ih; rw [ordR_snoc]; have := layR_length (ordR l) r; simp; omega

/-- layR, read as the program does it. -/
theorem layR_drop {l : List Rt} {x : Rt} {i : Nat} (hi : i < l.length) (h : lt l[i].bits x.bits = true) : layR (l.drop i) x = l[i] :: layR (l.drop (i + 1)) x := by
  rw [List.drop_eq_getElem_cons hi, layR, if_pos h]
theorem layR_eq {l : List Rt} {x : Rt} {i : Nat} (hi : i < l.length) (h1 : lt l[i].bits x.bits = false) (h2 : l[i].bits = x.bits) : layR (l.drop i) x = x :: l.drop (i + 1) := by
  rw [List.drop_eq_getElem_cons hi, layR, if_neg (by simp [h1]), if_pos h2]
theorem layR_ne {l : List Rt} {x : Rt} {i : Nat} (hi : i < l.length) (h1 : lt l[i].bits x.bits = false) (h2 : l[i].bits ≠ x.bits) : layR (l.drop i) x = x :: l.drop i := by
  rw [List.drop_eq_getElem_cons hi, layR, if_neg (by simp [h1]), if_neg h2]
theorem layR_end {l : List Rt} {x : Rt} {i : Nat} (hi : l.length ≤ i) : layR (l.drop i) x = x :: l.drop i := by
  rw [List.drop_of_length_le hi]; rfl
end Go.Proofs.YtdfnmpmmkcpddaaDoor
/- The plain functions of Print: numbers and lines as texts. -/
namespace Go.Proofs.YtdfnmpmmkcpddaaDoor

def decB (n : Nat) : ByteArray := ⟨(Lib.decDigits n).toArray⟩
def bitsOr (b : ByteArray) : ByteArray := if b = (⟨#[]⟩ : ByteArray) then ⟨#[42]⟩ else b
def lineB (r : Rt) : ByteArray := bitsOr r.bits ++ (⟨#[32]⟩ : ByteArray) ++ decB r.hop ++ (⟨#[10]⟩ : ByteArray)
def textB (l : List Rt) : ByteArray := l.foldl (fun t r => t ++ lineB r) (⟨#[]⟩ : ByteArray)
theorem textB_snoc (l : List Rt) (r : Rt) : textB (l ++ [r]) = textB l ++ lineB r := by simp [textB]
theorem textB_take (l : List Rt) (i : Nat) (h : i < l.length) : textB (l.take (i + 1)) = textB (l.take i) ++ lineB l[i] := by
  rw [List.take_succ_eq_append_getElem h, textB_snoc]

/-- What a table's route is: few bits, a hop. -/
def Fit (r : Rt) : Prop := r.bits.size ≤ 12 ∧ 1 ≤ r.hop ∧ r.hop ≤ 250

theorem decDigits_len {n : Nat} (h : n ≤ 250) : (Lib.decDigits n).length ≤ 3 := by
  unfold Lib.decDigits; split
  · simp
  · unfold Lib.decDigits; split
    · simp
    · unfold Lib.decDigits; split
      · simp
      · omega
theorem decB_size {n : Nat} (h : n ≤ 250) : (decB n).size ≤ 3 := by
  have := decDigits_len h
  show (Lib.decDigits n).toArray.size ≤ 3
  simpa using this
theorem bitsOr_size {b : ByteArray} (h : b.size ≤ 12) : (bitsOr b).size ≤ 12 := by
  unfold bitsOr; split
  · show 1 ≤ 12; omega
  · exact h
theorem lineB_size {r : Rt} (h : Fit r) : (lineB r).size ≤ 20 := by
  have h1 := bitsOr_size h.1
  have h2 := decB_size h.2.2
  unfold lineB
  rw [ByteArray.size_append, ByteArray.size_append, ByteArray.size_append]
  show (bitsOr r.bits).size + 1 + (decB r.hop).size + 1 ≤ 20
  omega
theorem textB_size {l : List Rt} (h : ∀ r ∈ l, Fit r) : (textB l).size ≤ 20 * l.length := by
  revert h
  refine snoc_ind (p := fun l => (∀ r ∈ l, Fit r) → (textB l).size ≤ 20 * l.length) ?_ ?_ l
  · intro _; simp [textB]; rfl
  · intro l r ih h
    have h1 := ih fun x hx => h x (by simp [hx])
    have h2 := lineB_size (h r (by simp))
    rw [textB_snoc, ByteArray.size_append]
    simp; omega

theorem lRt_fit {s : ByteArray} {W p : Nat} (hW : W ≤ 12) (h : lBad s W p = false) : Fit (lRt s W p) := by
  simp only [lBad, decide_eq_false_iff_not] at h
  refine ⟨?_, ?_, hopGo_le s 3 0 _ (by omega)⟩
  · show (bOf s W p).size ≤ 12
    unfold bOf; split
    · show 0 ≤ 12; omega
    · have := nbits_le s W p
      rw [ByteArray.size_extract]; omega
  · show 1 ≤ (hopGo s 3 0 (bEnd s W p + 1)).1
    omega
theorem parse_fit {s : ByteArray} {W : Nat} (hW : W ≤ 12) : ∀ {f p : Nat} {acc l : List Rt} {q : Nat}, (∀ r ∈ acc, Fit r) → parse s W f p acc = (some l, q) → ∀ r ∈ l, Fit r
  | 0, p, acc, l, q, ha, h => by simp [parse] at h; rw [← h.1]; exact ha
  | f + 1, p, acc, l, q, ha, h => by
    unfold parse at h
    split at h
    · simp at h; rw [← h.1]; exact ha
    · split at h
      · simp at h
      · rename_i hb
        refine parse_fit hW ?_ h
        intro r hr
        rcases List.mem_append.1 hr with h1 | h1
        · exact ha r h1
        · rw [List.mem_singleton] at h1; subst h1; exact lRt_fit hW (by simpa using hb)
theorem tRts_fit (s : ByteArray) (W : Int) : ∀ r ∈ tRts s W, Fit r := by
  by_cases h1 : 400 < s.size
  · rw [(t_long h1).1]; simp
  by_cases h2 : W < 1 ∨ 12 < W
  · rw [(t_arg (by omega) h2).1]; simp
  obtain ⟨k, rfl⟩ := Int.eq_ofNat_of_zero_le (show 0 ≤ W by omega)
  cases ht : table s k with
  | mk o q =>
    cases o with
    | none => rw [(t_bad (by omega) (by omega) (by omega) ht).1]; simp
    | some l =>
      by_cases hl : 24 < l.length
      · rw [(t_many (by omega) (by omega) (by omega) ht hl).1]; simp
      · rw [(t_ok (by omega) (by omega) (by omega) ht hl).1]
        exact parse_fit (by omega) (by simp) ht

theorem lastOf_mem {l : List Rt} {b : ByteArray} {h : Nat} : lastOf l b = some h → (⟨b, h⟩ : Rt) ∈ l := by
  refine snoc_ind (p := fun l => lastOf l b = some h → (⟨b, h⟩ : Rt) ∈ l) ?_ ?_ l
  · intro e; simp [lastOf] at e
  · intro l r ih e
    rw [lastOf_snoc] at e
    split at e
    · rename_i hb
      have := Option.some.inj e
      subst hb this
      simp
    · simp [ih e]
theorem ordR_fit {l : List Rt} (h : ∀ r ∈ l, Fit r) : ∀ r ∈ ordR l, Fit r := fun r hr => h r (lastOf_mem ((ordR_mem l r).1 hr))
theorem dedup_fit {l : List Rt} (h : ∀ r ∈ l, Fit r) : ∀ r ∈ dedup l, Fit r := fun r hr => h r (lastOf_mem ((dedup_mem l r).1 hr))

/-- A digit's byte. -/
def dgt (d : Nat) : UInt8 := UInt8.ofNat (48 + d)
theorem dgt_toNat {d : Nat} (h : d ≤ 9) : ((dgt d).toNat : Int) = 48 + (d : Int) := by
  have : (dgt d).toNat = 48 + d := by
    show (UInt8.ofNat (48 + d)).toNat = 48 + d
    rw [UInt8.toNat_ofNat']; omega
  omega
theorem dec_step {q : Nat} {t : List UInt8} (hq : 0 < q) : (if q / 10 = 0 then dgt (q % 10) :: t else Lib.decDigits (q / 10) ++ (dgt (q % 10) :: t)) = Lib.decDigits q ++ t := by
  conv => rhs; unfold Lib.decDigits
  by_cases h : q < 10
  · rw [dif_pos h, if_pos (by omega)]
    rw [show q % 10 = q from by omega]; rfl
  · rw [dif_neg h, if_neg (by omega)]
    simp [dgt]
end Go.Proofs.YtdfnmpmmkcpddaaDoor
