/- The walks of the program's cost: all nodes with one more depth. -/
import Derived.Test.YtdfnmpmmkcpddaaDoorGoH
import Derived.Test.YtdfnmpmmkcpddaaDoorWalkJ
namespace Go.Proofs.YtdfnmpmmkcpddaaDoor
open Go.RowKit

theorem nodeK_len (R : List Rt) (k : Nat) (ns : List ByteArray) : (ns.map (nodeK R k)).length = ns.length := by simp
theorem nodeK_at (R : List Rt) (k : Nat) (ns : List ByteArray) {i : Nat} (h : i < ns.length) : (ns.map (nodeK R k))[i]'(by simp; exact h) = nodeK R k ns[i] := by simp
theorem nodeK_bd {R : List Rt} {k : Nat} {ns : List ByteArray} (hS : ∀ r ∈ R, r.bits.size ≤ 12) (hn : nodesF R = ns) (hk : 1 ≤ k) : ∀ x ∈ ns.map (nodeK R k), x.b.size ≤ 12 ∧ 0 ≤ x.c ∧ x.c ≤ 4096 := by
  intro x hx
  obtain ⟨b, hb, rfl⟩ := List.mem_map.1 hx
  rw [← hn] at hb
  have := cost_bd hS k b hk (nodes_height hb)
  exact ⟨nodes_size hS hb, by show 0 ≤ costZ R k b; omega, this.2⟩
theorem belowK_bd {b : ByteArray} {m : Nat} : ∀ {l : List Tn} {z : Int}, (∀ x ∈ l, 0 ≤ x.c ∧ x.c ≤ 4096) → z ≤ belowK b m l z ∧ belowK b m l z ≤ z + 4096 * l.length
  | [], z, _ => by simp [belowK]
  | x :: l, z, h => by
    have h1 := h x (by simp)
    have h2 := fun z => belowK_bd (b := b) (m := m) (l := l) (z := z) fun y hy => h y (by simp [hy])
    rw [belowK]
    simp only [List.length_cons]
    split
    · split
      · have := h2 (z + x.c); omega
      · have := h2 z; omega
    · omega

/-- A node in a block of its own. -/
def Tb (w : World) (B : Nat) (b : ByteArray) (h st : Nat) (c : Int) : Prop := w.heap[B]? = some (.cells #[.string b, .int .i64 h, .int .i64 st, .int .i64 c] 76 (0, 0))
section
variable {w : World} {B h st : Nat} {b : ByteArray} {c : Int}
theorem Tb.cells (k : Tb w B b h st c) : w.cell? ⟨B, 0, none⟩ = some (.string b) ∧ w.cell? ⟨B, 1, none⟩ = some (.int .i64 h) ∧ w.cell? ⟨B, 2, none⟩ = some (.int .i64 st) ∧ w.cell? ⟨B, 3, none⟩ = some (.int .i64 c) := by
  refine ⟨?_, ?_, ?_, ?_⟩ <;> (rw [cell_of_row w B _ _ _ _ k]; rfl)
theorem Tb.free (k : Tb w B b h st c) (j : Nat) : w.frozen? ⟨B, j, none⟩ = false := frozen_of_row w B j _ _ k
theorem Tb.set0 (k : Tb w B b h st c) (x : ByteArray) : Tb (w.setCell ⟨B, 0, none⟩ (.string x)) B x h st c := heap_setCell_same w B 0 _ _ _ k
theorem Tb.set1 (k : Tb w B b h st c) (x : Nat) : Tb (w.setCell ⟨B, 1, none⟩ (.int .i64 x)) B b x st c := heap_setCell_same w B 1 _ _ _ k
theorem Tb.other (k : Tb w B b h st c) {A j : Nat} (hA : B ≠ A) (u : Value) : Tb (w.setCell ⟨A, j, none⟩ u) B b h st c := (heap_setCell_other w ⟨A, j, none⟩ B u hA).trans k
theorem Tb.new (w : World) (b : ByteArray) (h st : Nat) (c : Int) : Tb (w.alloc (.cells #[.string b, .int .i64 h, .int .i64 st, .int .i64 c] 76)) w.heap.size b h st c := heap_alloc_new w _
theorem Tb.setS (k : Tb w B b h st c) (x : Nat) : Tb (w.setCell ⟨B, 2, none⟩ (.int .i64 x)) B b h x c := heap_setCell_same w B 2 _ _ _ k
theorem Tb.setC (k : Tb w B b h st c) (x : Int) : Tb (w.setCell ⟨B, 3, none⟩ (.int .i64 x)) B b h st x := heap_setCell_same w B 3 _ _ _ k
theorem Tb.lt (k : Tb w B b h st c) : B < w.heap.size := (Array.getElem?_eq_some_iff.1 k).1
theorem Tb.below {w' : World} (k : Tb w B b h st c) (hb : Below w.heap.size w w') : Tb w' B b h st c := (hb.block B k.lt).trans k
end

set_option maxRecDepth 100000 in
set_option maxHeartbeats 1000000 in
theorem deepenNode_any (R : List Rt) (ns : List ByteArray) (k ix : Nat) (ao : Option Addr) (cap base : Nat) (w : World) (hR : Ord R) (hS : ∀ r ∈ R, r.bits.size ≤ 12) (hn : nodesF R = ns) (hk : 1 ≤ k) (hl : ns.length ≤ 400) (ha : ix < ns.length)
    (hown : w.ownsRow base 76 4 (.slice ao ns.length cap) ns.length (tnc (ns.map (nodeK R k)))) :
    Calls Tryd.prog 97 #[.slice ao ns.length cap, .int .i64 ix] w fun e w' => e = .returned (.agg #[.string ns[ix], .int .i64 (heightF R ns[ix]), .int .i64 (chF R (k + 1) ns[ix]), .int .i64 (costZ R (k + 1) ns[ix])]) ∧ Below w.heap.size w w' := by
  obtain ⟨l, hle⟩ : ∃ l, ns.map (nodeK R k) = l := ⟨_, rfl⟩
  have hll : ns.length = l.length := by rw [← hle]; simp
  have hB := nodeK_bd hS hn hk
  have hat : l[ix]'(by omega) = nodeK R k ns[ix] := by subst hle; simp
  obtain ⟨b, hb⟩ : ∃ b, ns[ix] = b := ⟨_, rfl⟩
  have hSS : Hid (∀ t, 1 ≤ t → ((2 ^ t : Nat) : Int) + belowK b (b.size + t) (l.drop (ix + 1)) 0 = sumS R b (costZ R k) t) := by
    unfold Hid; intro t ht; rw [← hb, ← hle]; exact stride_sum hR hn ha ht
  have hbn : b ∈ nodesF R := by rw [hn, ← hb]; exact List.getElem_mem ha
  have hh1 := nodes_height hbn
  have hh2 := heightF_le (b := b) hS
  obtain ⟨h, hh⟩ : ∃ h, heightF R b = h := ⟨_, rfl⟩
  rw [hh] at hh1 hh2
  rw [hb] at hat ⊢
  rw [hle, hll] at hown
  rw [hle] at hB
  rw [hll]
  rw [hll] at hl
  have ha' : ix < l.length := by omega
  have HC : Hid (costZ R (k + 1) b = sumS R b (costZ R k) (argF R b (costZ R k) h) ∧ chF R (k + 1) b = argF R b (costZ R k) h) := by
    have h1 := (chF_cost hS (k := k) (b := b) (by omega)).2
    rw [chF_succ R b hk, hh] at h1
    exact ⟨h1, by rw [chF_succ R b hk, hh]⟩
  obtain ⟨g, rfl, hg1, hg2, hg3, hg4⟩ := own_some hown (by omega)
  unfold maxLen at hg4
  have ek : l[ix].h = h := by rw [hat, ← hh]; rfl
  have HB : Hid (l[ix].b = b) := by unfold Hid; rw [hat]; rfl
  obtain ⟨s0, hs0⟩ : ∃ s0, l[ix].s = s0 := ⟨_, rfl⟩
  obtain ⟨z0, hz0⟩ : ∃ z0, l[ix].c = z0 := ⟨_, rfl⟩
  have hs0b : s0 ≤ 12 := by rw [← hs0, hat]; have := (chF_bd R k (b := b) (by omega)).2; show chF R k b ≤ 12; omega
  have hz0b := (hB l[ix] (List.getElem_mem ha')).2
  rw [hz0] at hz0b
  have HA : Hid (∀ wr : World, Below w.heap.size w wr → wr.cell? ⟨g, ix * 4, none⟩ = some (.string b) ∧ wr.cell? ⟨g, ix * 4 + 1, none⟩ = some (.int .i64 (h : Nat)) ∧ wr.cell? ⟨g, ix * 4 + 2, none⟩ = some (.int .i64 (s0 : Nat)) ∧ wr.cell? ⟨g, ix * 4 + 3, none⟩ = some (.int .i64 z0)) := fun wr hb => by
    have := node_cells hown hg2 hb ha'
    rw [HB.out, ek, hs0, hz0] at this
    exact this
  have HD : Hid (∀ m, 0 ≤ belowK b m (l.drop (ix + 1)) 0 ∧ belowK b m (l.drop (ix + 1)) 0 ≤ 1638400) := by
    unfold Hid; intro m
    have := belowK_bd (b := b) (m := m) (l := l.drop (ix + 1)) (z := 0) fun x hx => (hB x (List.mem_of_mem_drop hx)).2
    rw [List.length_drop] at this
    omega
  have HBD : Hid (∀ x ∈ l, x.b.size ≤ 12 ∧ 0 ≤ x.c ∧ x.c ≤ 4096) := hB
  have HOWN : Hid (w.ownsRow base 76 4 (.slice (some ⟨g, 0, none⟩) l.length cap) l.length (tnc l)) := hown
  clear hle hll hat hb hn hbn ek hR ha hB hown hS hs0 hz0
  go_enter Tryd.func97, Tryd.ntmps97
  obtain ⟨d0, d1, d2, d3⟩ := HA.out w (Below.refl _ _)
  go_wp2_with fail
  obtain ⟨B, hBe⟩ : ∃ B, w.heap.size + 1 = B := ⟨_, rfl⟩
  rw [hBe]
  go_loopg [6] h (fun g' y wr => ∃ (t st : Nat) (z : Int), y = .int .i64 t ∧ g' + t = h + 1 ∧ 1 ≤ t ∧ st ≤ 12 ∧ 0 ≤ z ∧ z ≤ 10000000 ∧ Tb wr B b h st z ∧ Tb wr w.heap.size ⟨#[]⟩ 0 0 0 ∧ Below w.heap.size w wr ∧ wr.heap.size = w.heap.size + 2 ∧ Hid (t = 1 ∨ (2 ≤ t ∧ st = argF R b (costZ R k) (t - 1) ∧ z = sumS R b (costZ R k) st)))
  case atStart =>
    refine ⟨1, s0, z0, rfl, by omega, by omega, hs0b, by omega, by omega, ?_, ?_, ((Below.refl _ _).alloc (Nat.le_refl _) _).alloc (by simp) _, by simp, .inl rfl⟩
    · rw [← hBe, show w.heap.size + 1 = (w.alloc (.cells #[.string ⟨#[]⟩, .int .i64 0, .int .i64 0, .int .i64 0] 76)).heap.size from by simp]
      exact Tb.new _ b h s0 z0
    · exact (Tb.new w ⟨#[]⟩ 0 0 0).below ((Below.refl _ _).alloc (Nat.le_refl _) _)
  case round =>
    obtain ⟨t, st, z, rfl, hgt, ht1, hst, hz1, hz2, hT, hA, hbel, hsz, HI⟩ := hrel
    obtain ⟨d0, d1, d2, d3⟩ := HA.out wr hbel
    obtain ⟨c0, c1, c2, c3⟩ := hT.cells
    have f2 := hT.free 2
    have f3 := hT.free 3
    by_cases hlt : t ≤ h
    · obtain ⟨y, hy⟩ : ∃ y, belowK b (b.size + t) (l.drop (ix + 1)) 0 = y := ⟨_, rfl⟩
      have hyb := HD.out (b.size + t)
      have hss := hSS.out t ht1
      rw [hy] at hyb hss
      obtain ⟨P, hP⟩ : ∃ P : Nat, P = 2 ^ t := ⟨_, rfl⟩
      obtain ⟨hpw, hP1, hP2⟩ := pow_st ht1 (show t ≤ 12 by omega)
      rw [← hP] at hpw hP1 hP2 hss
      have HCB : Hid (Calls Tryd.prog 100 #[.slice (some ⟨g, 0, none⟩) l.length cap, .int .i64 ix, .int .i64 t] wr fun e w' => e = .returned (.int .i64 y) ∧ w' = wr) := by
        have := costBelow_any l ix t (some ⟨g, 0, none⟩) cap base wr (by omega) ha' (by omega) HBD.out (own_below HOWN.out hbel)
        rw [HB.out, hy] at this
        exact this
      have HSS : Hid ((P : Int) + y = sumS R b (costZ R k) t) := hss
      obtain ⟨hy1, hy2⟩ := hyb
      have hbel2 : Below w.heap.size w ((wr.setCell ⟨B, 2, none⟩ (.int .i64 t)).setCell ⟨B, 3, none⟩ (.int .i64 ((P : Int) + y))) := (hbel.setCell (by show w.heap.size ≤ B; omega) _).setCell (by show w.heap.size ≤ B; omega) _
      have hT2 := (hT.setS t).setC ((P : Int) + y)
      have hfr := (hT.setS t).free 3
      have hA2 : Tb ((wr.setCell ⟨B, 2, none⟩ (.int .i64 t)).setCell ⟨B, 3, none⟩ (.int .i64 ((P : Int) + y))) w.heap.size ⟨#[]⟩ 0 0 0 := (hA.other (by omega) _).other (by omega) _
      clear hy hss hP HA
      by_cases h1 : t = 1
      · have hte : ((t : Int) == 1) = true := by rw [beq_iff_eq]; omega
        have HR : Hid (t + 1 = 1 ∨ (2 ≤ t + 1 ∧ t = argF R b (costZ R k) (t + 1 - 1) ∧ (P : Int) + y = sumS R b (costZ R k) t)) := by
          refine .inr ⟨by omega, ?_, HSS.out⟩
          rw [h1]; rfl
        clear h1 HI
        go_wp2_with fail
        refine HCB.out.mono ?_
        rintro e w1 ⟨rfl, rfl⟩
        go_wp2_with fail
        go_roundg (gk - 1)
        case measure => omega
        case rel => exact ⟨t + 1, t, (P : Int) + y, int_eq (by omega), by omega, by omega, by omega, by omega, by omega, hT2, hA2, hbel2, by simpa using hsz, HR.out⟩
      · have hte : ((t : Int) == 1) = false := by rw [beq_eq_false_iff_ne]; omega
        have hI : 2 ≤ t ∧ st = argF R b (costZ R k) (t - 1) ∧ z = sumS R b (costZ R k) st := by
          rcases HI.out with h | h
          · exact absurd h h1
          · exact h
        obtain ⟨i1, i2, i3⟩ := hI
        have hM := argF_more (R := R) (b := b) (f := costZ R k) i1
        rw [← i2, ← i3, ← HSS.out] at hM
        have HZ : Hid (z = sumS R b (costZ R k) st) := i3
        clear HI i2 i3
        by_cases hlt2 : (P : Int) + y < z
        · rw [if_pos hlt2] at hM
          have HM : Hid (argF R b (costZ R k) t = t) := hM
          clear hM h1
          go_wp2_with fail
          refine HCB.out.mono ?_
          rintro e w1 ⟨rfl, rfl⟩
          go_wp2_with fail
          go_roundg (gk - 1)
          case measure => omega
          case rel => exact ⟨t + 1, t, (P : Int) + y, int_eq (by omega), by omega, by omega, by omega, by omega, by omega, hT2, hA2, hbel2, by simpa using hsz, .inr ⟨by omega, HM.out.symm, HSS.out⟩⟩
        · rw [if_neg hlt2] at hM
          have HM : Hid (argF R b (costZ R k) t = st) := hM
          have hd : decide ((P : Int) + y < z) = false := by rw [decide_eq_false_iff_not]; exact hlt2
          clear hM h1 hT2 hA2 hbel2 hfr
          go_wp2_with fail
          refine HCB.out.mono ?_
          rintro e w1 ⟨rfl, rfl⟩
          go_wp2_with fail
          go_roundg (gk - 1)
          case measure => omega
          case rel => exact ⟨t + 1, st, z, int_eq (by omega), by omega, by omega, by omega, by omega, by omega, hT, hA, hbel, hsz, .inr ⟨by omega, HM.out.symm, HZ.out⟩⟩
    · have hI : st = argF R b (costZ R k) h ∧ z = sumS R b (costZ R k) st := by
        rcases HI.out with h1 | ⟨_, h1, h2⟩
        · omega
        · rw [show t - 1 = h from by omega] at h1; exact ⟨h1, h2⟩
      have HE : Hid (costZ R (k + 1) b = z ∧ chF R (k + 1) b = st) := by
        obtain ⟨e1, e2⟩ := HC.out
        exact ⟨by rw [e1, hI.2, hI.1], by rw [e2, hI.1]⟩
      clear hI HI HA
      have r1 := hA.set0 b
      have r2 := r1.set1 h
      have r3 := r2.setS st
      have r4 := r3.setC z
      obtain ⟨k0, _, _, _⟩ := hA.cells
      obtain ⟨_, k1, _, _⟩ := r1.cells
      obtain ⟨_, _, k2, _⟩ := r2.cells
      obtain ⟨_, _, _, k3⟩ := r3.cells
      obtain ⟨m0, m1, m2, m3⟩ := r4.cells
      have q0 := hA.free 0
      have q1 := r1.free 1
      have q2 := r2.free 2
      have q3 := r3.free 3
      have hbelF : Below w.heap.size w ((((wr.setCell ⟨w.heap.size, 0, none⟩ (.string b)).setCell ⟨w.heap.size, 1, none⟩ (.int .i64 h)).setCell ⟨w.heap.size, 2, none⟩ (.int .i64 st)).setCell ⟨w.heap.size, 3, none⟩ (.int .i64 z)) := (((hbel.setCell (by show w.heap.size ≤ w.heap.size; omega) _).setCell (by show w.heap.size ≤ w.heap.size; omega) _).setCell (by show w.heap.size ≤ w.heap.size; omega) _).setCell (by show w.heap.size ≤ w.heap.size; omega) _
      have HF : Hid (heightF R b = h) := hh
      clear hh
      go_wp2_with fail
      obtain ⟨e1, e2⟩ := HE.out
      rw [e1, e2, HF.out]
      refine bodyPost_ret (v := .agg #[.string b, .int .i64 h, .int .i64 st, .int .i64 z]) (by simp [results, Tryd.results97, go_sem, m0, m1, m2, m3]) rfl ⟨rfl, ?_⟩
      exact hbelF
end Go.Proofs.YtdfnmpmmkcpddaaDoor
