/- The walks of the program's cost: a node's cost with one more depth. -/
import Derived.Test.YtdfnmpmmkcpddaaDoorGoG
namespace Go.Proofs.YtdfnmpmmkcpddaaDoor
open Go.RowKit

def belowK (b : ByteArray) (m : Nat) : List Tn → Int → Int
  | [], z => z
  | x :: l, z => if pre b x.b = true then belowK b m l (if x.b.size = m then z + x.c else z) else z
theorem belowK_step {b : ByteArray} {m : Nat} {l : List Tn} {i : Nat} (h : i < l.length) (z : Int) : belowK b m (l.drop i) z = if pre b l[i].b = true then belowK b m (l.drop (i + 1)) (if l[i].b.size = m then z + l[i].c else z) else z := by
  rw [List.drop_eq_getElem_cons h, belowK]
theorem belowK_end {b : ByteArray} {m : Nat} {l : List Tn} {i : Nat} (h : l.length ≤ i) (z : Int) : belowK b m (l.drop i) z = z := by
  rw [List.drop_of_length_le h]; rfl
/-- A table's nodes with their costs. -/
def nodeK (R : List Rt) (k : Nat) (b : ByteArray) : Tn := ⟨b, heightF R b, chF R k b, costZ R k b⟩
theorem belowK_F {R : List Rt} {k : Nat} {b : ByteArray} {m : Nat} : ∀ (l : List ByteArray) (z : Int), belowK b m (l.map (nodeK R k)) z = belowF b m (costZ R k) l z
  | [], _ => rfl
  | c :: l, z => by
    rw [List.map_cons, belowK, belowF, belowK_F l]
    rfl
theorem fold_shift (f : ByteArray → Int) : ∀ (l : List ByteArray) (z : Int), l.foldl (fun n c => n + f c) z = z + l.foldl (fun n c => n + f c) 0
  | [], z => by simp
  | c :: l, z => by
    simp only [List.foldl_cons]
    rw [fold_shift f l (z + f c), fold_shift f l (0 + f c)]; omega

set_option maxRecDepth 100000 in
set_option maxHeartbeats 1000000 in
theorem costBelow_any (l : List Tn) (ix s : Nat) (ao : Option Addr) (cap base : Nat) (w : World) (hl : l.length ≤ 4000) (ha : ix < l.length) (hs : s ≤ 12) (hB : ∀ x ∈ l, x.b.size ≤ 12 ∧ 0 ≤ x.c ∧ x.c ≤ 4096) (hown : w.ownsRow base 76 4 (.slice ao l.length cap) l.length (tnc l)) :
    Calls Tryd.prog 100 #[.slice ao l.length cap, .int .i64 ix, .int .i64 s] w fun e w' => e = .returned (.int .i64 (belowK l[ix].b (l[ix].b.size + s) (l.drop (ix + 1)) 0)) ∧ w' = w := by
  obtain ⟨g, rfl, hg1, hg2, hg3, hg4⟩ := own_some hown (by omega)
  unfold maxLen at hg4
  obtain ⟨a0, a1, a2, a3⟩ := node_cells hown hg2 (Below.refl _ _) ha
  obtain ⟨b, hb⟩ : ∃ b, l[ix].b = b := ⟨_, rfl⟩
  have hbs := (hB l[ix] (List.getElem_mem ha)).1
  rw [hb] at a0 hbs ⊢
  obtain ⟨m, hm⟩ : ∃ m, b.size + s = m := ⟨_, rfl⟩
  have hmi : (b.size : Int) + (s : Int) = (m : Int) := by omega
  rw [hm]
  clear hb a1 a2 a3 hm
  go_enter Tryd.func100, Tryd.ntmps100
  go_wp2_with fail
  go_loopg [7, 9] (l.length - (ix + 1)) (fun g' x y wr => ∃ (i : Nat) (z : Int), x = .int .i64 z ∧ y = .int .i64 i ∧ g' + i = l.length ∧ wr = w ∧ 0 ≤ z ∧ z ≤ 4096 * (i : Int) ∧ Hid (belowK b m (l.drop (ix + 1)) 0 = belowK b m (l.drop i) z))
  case atStart => exact ⟨ix + 1, 0, rfl, int_eq (by omega), by omega, rfl, by omega, by omega, rfl⟩
  case round =>
    obtain ⟨i, z, rfl, rfl, hgi, rfl, hz0, hz1, HZ⟩ := hrel
    by_cases hlt : i < l.length
    · obtain ⟨c0, c1, c2, c3⟩ := node_cells hown hg2 (Below.refl _ _) hlt
      have hli := hB l[i] (List.getElem_mem hlt)
      obtain ⟨hl1, hl2, hl3⟩ := hli
      have HS : Hid (belowK b m (l.drop (ix + 1)) 0 = if pre b l[i].b = true then belowK b m (l.drop (i + 1)) (if l[i].b.size = m then z + l[i].c else z) else z) := by
        unfold Hid; rw [HZ.out, belowK_step hlt]
      clear HZ
      cases hp : pre b l[i].b with
      | true =>
        have HP : Hid (pre b l[i].b = true) := hp
        rw [hp, if_pos rfl] at HS
        clear hp
        by_cases he : l[i].b.size = m
        · have heb : ((l[i].b.size : Int) == (m : Int)) = true := by rw [beq_iff_eq]; omega
          have HS' : Hid (belowK b m (l.drop (ix + 1)) 0 = belowK b m (l.drop (i + 1)) (z + l[i].c)) := by unfold Hid; rw [HS.out, if_pos he]
          clear HS he
          go_wp2_with fail
          refine (beginsWith_any _ _ _).mono ?_
          rintro e w1 ⟨rfl, rfl⟩
          rw [HP.out]
          go_wp2_with fail
          go_roundg (gk - 1)
          case measure => omega
          case rel => exact ⟨i + 1, z + l[i].c, rfl, int_eq (by omega), by omega, rfl, by omega, by omega, HS'.out⟩
        · have heb : ((l[i].b.size : Int) == (m : Int)) = false := by rw [beq_eq_false_iff_ne]; omega
          have HS' : Hid (belowK b m (l.drop (ix + 1)) 0 = belowK b m (l.drop (i + 1)) z) := by unfold Hid; rw [HS.out, if_neg he]
          clear HS he
          go_wp2_with fail
          refine (beginsWith_any _ _ _).mono ?_
          rintro e w1 ⟨rfl, rfl⟩
          rw [HP.out]
          go_wp2_with fail
          go_roundg (gk - 1)
          case measure => omega
          case rel => exact ⟨i + 1, z, rfl, int_eq (by omega), by omega, rfl, by omega, by omega, HS'.out⟩
      | false =>
        have HP : Hid (pre b l[i].b = false) := hp
        rw [hp, if_neg (by simp)] at HS
        clear hp
        go_wp2_with fail
        refine (beginsWith_any _ _ _).mono ?_
        rintro e w1 ⟨rfl, rfl⟩
        rw [HP.out]
        go_wp2_with fail
        go_ret
        exact ⟨ret1 (int_eq HS.out.symm), rfl⟩
    · go_wp2_with fail
      go_ret
      exact ⟨ret1 (int_eq (by rw [HZ.out, belowK_end (by omega)])), rfl⟩

/-- What a stride costs. -/
theorem stride_sum {R : List Rt} {ns : List ByteArray} {k ix t : Nat} (hR : Ord R) (hn : nodesF R = ns) (ha : ix < ns.length) (ht : 1 ≤ t) :
    ((2 ^ t : Nat) : Int) + belowK ns[ix] (ns[ix].size + t) ((ns.map (nodeK R k)).drop (ix + 1)) 0 = sumS R ns[ix] (costZ R k) t := by
  rw [← List.map_drop, belowK_F, below_under (l1 := ns.take ix) hR hn (by rw [List.getElem_cons_drop, List.take_append_drop]) ht, sumS, ← fold_shift]
end Go.Proofs.YtdfnmpmmkcpddaaDoor
