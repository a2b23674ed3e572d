/- The walks of the program's cost: all nodes with one more depth. -/
import Derived.Test.YtkfdaamgeelieaaDoorGoH
import Derived.Test.YtkfdaamgeelieaaDoorWalkJ
namespace Go.Proofs.YtkfdaamgeelieaaDoor
open Go.RowKit

theorem nodeK_len (R : List Rt) (k : Nat) (ns : List ByteArray) : (ns.map (nodeK R k)).length = ns.length := by simp
theorem nodeK_at (R : List Rt) (k : Nat) (ns : List ByteArray) {i : Nat} (h : i < ns.length) : (ns.map (nodeK R k))[i]'(by simp; exact h) = nodeK R k ns[i] := by simp
theorem nodeK_bd {R : List Rt} {k : Nat} {ns : List ByteArray} (hS : ∀ r ∈ R, r.bits.size ≤ 12) (hn : nodesF R = ns) (hk : 1 ≤ k) : ∀ x ∈ ns.map (nodeK R k), x.b.size ≤ 12 ∧ 0 ≤ x.n ∧ x.n ≤ 4096 := by
  intro x hx
  obtain ⟨b, hb, rfl⟩ := List.mem_map.1 hx
  rw [← hn] at hb
  have := cost_bd hS k b hk (nodes_height hb)
  exact ⟨nodes_size hS hb, by show 0 ≤ costZ R k b; omega, this.2⟩
/-- One more stride. -/
theorem least_one {R : List Rt} {b : ByteArray} {k : Nat} {f : ByteArray → Int} (hk : 1 ≤ k) : leastF R b k f 1 = sumS R b f 1 := by
  rw [leastF_succ, if_neg (by omega), if_pos (.inl (by show (-1 : Int) < 0; omega))]
theorem least_more {R : List Rt} {b : ByteArray} {k t : Nat} {f : ByteArray → Int} (hk : 1 ≤ k) (ht : 2 ≤ t) (h2 : 2 ≤ leastF R b k f (t - 1)) : leastF R b k f t = if sumS R b f t < leastF R b k f (t - 1) then sumS R b f t else leastF R b k f (t - 1) := by
  obtain ⟨s, rfl⟩ : ∃ s, t = s + 1 := ⟨t - 1, by omega⟩
  rw [show s + 1 - 1 = s from rfl] at *
  rw [leastF_succ, if_neg (by omega)]
  by_cases h : sumS R b f (s + 1) < leastF R b k f s
  · rw [if_pos (.inr h), if_pos h]
  · rw [if_neg (by omega), if_neg h]
theorem sum_low {R : List Rt} {b : ByteArray} {k t : Nat} (hS : ∀ r ∈ R, r.bits.size ≤ 12) (hk : 1 ≤ k) (ht : 1 ≤ t) : 2 ≤ sumS R b (costZ R k) t := by
  have h := (sum_bd (f := costZ R k) (l := underF R b t) (z := ((2 ^ t : Nat) : Int)) fun c hc => cost_bd hS k c hk (under_height hc)).1
  have hp2 : 2 ^ 1 ≤ (2 ^ t : Nat) := Nat.pow_le_pow_right (by omega) ht
  unfold sumS
  omega
theorem belowK_bd {b : ByteArray} {m : Nat} : ∀ {l : List Kn} {z : Int}, (∀ x ∈ l, 0 ≤ x.n ∧ x.n ≤ 4096) → z ≤ belowK b m l z ∧ belowK b m l z ≤ z + 4096 * l.length
  | [], z, _ => by simp [belowK]
  | x :: l, z, h => by
    have h1 := h x (by simp)
    have h2 := fun z => belowK_bd (b := b) (m := m) (l := l) (z := z) fun y hy => h y (by simp [hy])
    rw [belowK]
    simp only [List.length_cons]
    split
    · split
      · have := h2 (z + x.n); omega
      · have := h2 z; omega
    · omega

set_option maxRecDepth 100000 in
set_option maxHeartbeats 1000000 in
theorem deeperCost_any (R : List Rt) (ns : List ByteArray) (k ix : Nat) (ao : Option Addr) (cap base : Nat) (w : World) (hR : Ord R) (hS : ∀ r ∈ R, r.bits.size ≤ 12) (hn : nodesF R = ns) (hk : 1 ≤ k) (hl : ns.length ≤ 400) (ha : ix < ns.length)
    (hown : w.ownsRow base 73 3 (.slice ao ns.length cap) ns.length (kc (ns.map (nodeK R k)))) :
    Calls Tryd.prog 72 #[.slice ao ns.length cap, .int .i64 ix] w fun e w' => e = .returned (.int .i64 (costZ R (k + 1) ns[ix])) ∧ w' = w := by
  obtain ⟨l, hle⟩ : ∃ l, ns.map (nodeK R k) = l := ⟨_, rfl⟩
  have hll : ns.length = l.length := by rw [← hle]; simp
  have hB := nodeK_bd hS hn hk
  have hat : l[ix]'(by omega) = nodeK R k ns[ix] := by subst hle; simp
  obtain ⟨b, hb⟩ : ∃ b, ns[ix] = b := ⟨_, rfl⟩
  have hSS : Hid (∀ t, 1 ≤ t → ((2 ^ t : Nat) : Int) + belowK b (b.size + t) (l.drop (ix + 1)) 0 = sumS R b (costZ R k) t) := by
    unfold Hid; intro t ht; rw [← hb, ← hle]; exact stride_sum hR hn ha ht
  have hbn : b ∈ nodesF R := by rw [hn, ← hb]; exact List.getElem_mem ha
  have hh1 := nodes_height hbn
  have hh2 := heightF_le (b := b) hS
  obtain ⟨h, hh⟩ : ∃ h, heightF R b = h := ⟨_, rfl⟩
  rw [hh] at hh1 hh2
  rw [hb] at hat ⊢
  rw [hle, hll] at hown
  rw [hle] at hB
  rw [hll]
  rw [hll] at hl
  have ha' : ix < l.length := by omega
  have HC : Hid (costZ R (k + 1) b = leastF R b k (costZ R k) h) := by unfold Hid; rw [costZ, hh]
  have HL : Hid (∀ t, 1 ≤ t → 2 ≤ sumS R b (costZ R k) t) := fun t ht => sum_low hS hk ht
  obtain ⟨g, rfl, hg1, hg2, hg3, hg4⟩ := own_some hown (by omega)
  unfold maxLen at hg4
  obtain ⟨a0, a1, a2⟩ := node_cells hown hg2 (Below.refl _ _) ha'
  have ek : l[ix].k = h := by rw [hat, ← hh]; rfl
  have HB : Hid (l[ix].b = b) := by unfold Hid; rw [hat]; rfl
  rw [ek] at a1
  have HD : Hid (∀ m, 0 ≤ belowK b m (l.drop (ix + 1)) 0 ∧ belowK b m (l.drop (ix + 1)) 0 ≤ 1638400) := by
    unfold Hid; intro m
    have := belowK_bd (b := b) (m := m) (l := l.drop (ix + 1)) (z := 0) fun x hx => (hB x (List.mem_of_mem_drop hx)).2
    rw [List.length_drop] at this
    omega
  have HBD : Hid (∀ x ∈ l, x.b.size ≤ 12 ∧ 0 ≤ x.n ∧ x.n ≤ 4096) := hB
  have HOWN : Hid (w.ownsRow base 73 3 (.slice (some ⟨g, 0, none⟩) l.length cap) l.length (kc l)) := hown
  clear hle hll hat hb hn hh hbn ek hR a0 a2 ha hB hown hS
  go_enter Tryd.func72, Tryd.ntmps72
  go_wp2_with fail
  go_loopg [5, 6] h (fun g' x y wr => ∃ (t : Nat) (lz : Int), x = .int .i64 lz ∧ y = .int .i64 t ∧ g' + t = h + 1 ∧ 1 ≤ t ∧ 0 ≤ lz ∧ lz ≤ 10000000 ∧ wr = w ∧ Hid (t = 1 ∨ (2 ≤ t ∧ 2 ≤ lz ∧ lz = leastF R b k (costZ R k) (t - 1))))
  case atStart => exact ⟨1, 0, rfl, rfl, by omega, by omega, by omega, by omega, rfl, .inl rfl⟩
  case round =>
    obtain ⟨t, lz, rfl, rfl, hgt, ht1, hlz0, hlz1, rfl, HI⟩ := hrel
    by_cases hlt : t ≤ h
    · obtain ⟨z, hz⟩ : ∃ z, belowK b (b.size + t) (l.drop (ix + 1)) 0 = z := ⟨_, rfl⟩
      have hzb := HD.out (b.size + t)
      have hss := hSS.out t ht1
      have hlo := HL.out t ht1
      rw [hz] at hzb hss
      obtain ⟨P, hP⟩ : ∃ P : Nat, P = 2 ^ t := ⟨_, rfl⟩
      obtain ⟨hpw, hP1, hP2⟩ := pow_st ht1 (show t ≤ 12 by omega)
      rw [← hP] at hpw hP1 hP2 hss
      have HZ : Hid (belowK b (b.size + t) (l.drop (ix + 1)) 0 = z) := hz
      have HSS : Hid ((P : Int) + z = sumS R b (costZ R k) t) := hss
      rw [← hss] at hlo
      have HLO : Hid (2 ≤ (P : Int) + z) := hlo
      obtain ⟨hz1, hz2⟩ := hzb
      clear hz hss hP hlo
      by_cases h1 : t = 1
      · have hte : ((t : Int) == 1) = true := by rw [beq_iff_eq]; omega
        have HR : Hid (t + 1 = 1 ∨ (2 ≤ t + 1 ∧ 2 ≤ (P : Int) + z ∧ (P : Int) + z = leastF R b k (costZ R k) (t + 1 - 1))) := by
          refine .inr ⟨by omega, HLO.out, ?_⟩
          rw [HSS.out, h1, least_one hk]
        clear h1 HI
        go_wp2_with fail
        refine (costBelow_any l ix t _ cap base _ (by omega) ha' (by omega) HBD.out HOWN.out).mono ?_
        rintro e w1 ⟨rfl, rfl⟩
        rw [HB.out, HZ.out]
        go_wp2_with fail
        go_roundg (gk - 1)
        case measure => omega
        case rel => exact ⟨t + 1, (P : Int) + z, rfl, int_eq (by omega), by omega, by omega, by omega, by omega, rfl, HR.out⟩
      · have hte : ((t : Int) == 1) = false := by rw [beq_eq_false_iff_ne]; omega
        have hI : 2 ≤ t ∧ 2 ≤ lz ∧ lz = leastF R b k (costZ R k) (t - 1) := by
          rcases HI.out with h | h
          · exact absurd h h1
          · exact h
        have hM := least_more hk hI.1 (by rw [← hI.2.2]; exact hI.2.1)
        rw [← hI.2.2, ← HSS.out] at hM
        have hlz2 := hI.2.1
        clear hI HI
        by_cases hlt2 : (P : Int) + z < lz
        · rw [if_pos hlt2] at hM
          have HM : Hid (leastF R b k (costZ R k) t = (P : Int) + z) := hM
          clear hM h1
          go_wp2_with fail
          refine (costBelow_any l ix t _ cap base _ (by omega) ha' (by omega) HBD.out HOWN.out).mono ?_
          rintro e w1 ⟨rfl, rfl⟩
          rw [HB.out, HZ.out]
          go_wp2_with fail
          go_roundg (gk - 1)
          case measure => omega
          case rel => exact ⟨t + 1, (P : Int) + z, rfl, int_eq (by omega), by omega, by omega, by omega, by omega, rfl, .inr ⟨by omega, HLO.out, HM.out.symm⟩⟩
        · rw [if_neg hlt2] at hM
          have HM : Hid (leastF R b k (costZ R k) t = lz) := hM
          have hd : decide ((P : Int) + z < lz) = false := by rw [decide_eq_false_iff_not]; exact hlt2
          clear hM h1
          go_wp2_with fail
          refine (costBelow_any l ix t _ cap base _ (by omega) ha' (by omega) HBD.out HOWN.out).mono ?_
          rintro e w1 ⟨rfl, rfl⟩
          rw [HB.out, HZ.out]
          go_wp2_with fail
          go_roundg (gk - 1)
          case measure => omega
          case rel => exact ⟨t + 1, lz, rfl, int_eq (by omega), by omega, by omega, by omega, by omega, rfl, .inr ⟨by omega, hlz2, HM.out.symm⟩⟩
    · go_wp2_with fail
      go_ret
      refine ⟨ret1 (int_eq ?_), rfl⟩
      rcases HI.out with h1 | ⟨_, _, h1⟩
      · omega
      · rw [HC.out, h1, show t - 1 = h from by omega]
end Go.Proofs.YtkfdaamgeelieaaDoor
