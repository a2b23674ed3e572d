import Derived.Test.YtdfnmpmmkcpddaaDoorQ02
import Derived.Test.YtdfnmpmmkcpddaaDoorQ09
import Derived.Test.YtdfnmpmmkcpddaaDoorQ15
import Derived.Deep.RegionLaw
/- The walks of the document's images. -/
namespace Go.Proofs.YtdfnmpmmkcpddaaDoor
open Go.RowKit

theorem two_any (s : ByteArray) (p : Int) (w : World) (h0 : 0 ≤ p) (h : p + 1 < s.size) (hs : p ≤ 200000) :
    Calls Tryd.prog 57 #[.string s, .int .i64 p] w fun e w' => e = .returned (.int .i64 (b2 s p.toNat)) ∧ ∃ n, w' = w.drewN n := by
  obtain ⟨p, rfl⟩ := Int.eq_ofNat_of_zero_le h0
  rw [Int.toNat_natCast]
  have e1 := byt_in (s := s) (k := p) (by omega)
  have e2 := byt_in (s := s) (k := p + 1) (by omega)
  have h3 := (s[p]'(by omega)).toNat_lt
  have h4 := (s[p + 1]'(by omega)).toNat_lt
  have HB : Hid (b2 s p = 256 * (s[p]'(by omega)).toNat + (s[p + 1]'(by omega)).toNat) := by unfold Hid b2; rw [e1, e2]
  clear e1 e2
  have hp : p < s.size := by omega
  have hp1 : p + 1 < s.size := by omega
  have hq : (p : Int) < (s.size : Int) := by omega
  have hq0 : (0 : Int) ≤ (p : Int) + 1 := by omega
  go_enter Tryd.func57, Tryd.ntmps57
  go_wp2_with fail
  go_quiet (fail)
  go_wp2_with fail
  go_ret
  exact ⟨ret1 (int_eq (by rw [HB.out]; omega)), _, rfl⟩

theorem sum_any (s : ByteArray) (n : Nat) (w : World) (h : n ≤ s.size) (hs : s.size ≤ 70000) :
    Calls Tryd.prog 77 #[.string s, .int .i64 n] w fun e w' => e = .returned (.int .i64 (sumF s n)) ∧ w' = w := by
  go_enter Tryd.func77, Tryd.ntmps77
  go_wp2_with fail
  go_loopg [5, 6] n (fun g x y wr => ∃ i t : Nat, wr = w ∧ x = .int .i64 t ∧ y = .int .i64 i ∧ g + i = n ∧ t < 65521 ∧ Hid (t = sumF s i))
  case atStart => exact ⟨0, 0, rfl, rfl, rfl, by omega, by omega, rfl⟩
  case round =>
    obtain ⟨i, t, rfl, rfl, rfl, hg, ht, HT⟩ := hrel
    by_cases hlt : i < n
    · have hi : i < s.size := by omega
      have hc := (s[i]'hi).toNat_lt
      have HC : Hid (byt s i = (s[i]'hi).toNat) := byt_in hi
      obtain ⟨m, hm⟩ : ∃ m : Nat, m = (i + 1) * ((s[i]'hi).toNat + 1) := ⟨_, rfl⟩
      have hmle : m ≤ 70000 * 256 := by rw [hm]; exact Nat.mul_le_mul (by omega) (by omega)
      have hmi : ((i : Int) + 1) * (((s[i]'hi).toNat : Int) + 1) = (m : Int) := by rw [hm]; simp
      have HM : Hid (m = (i + 1) * ((s[i]'hi).toNat + 1)) := hm
      clear hm
      go_wp2_with fail
      go_roundg (gk - 1)
      case measure => omega
      case rel => exact ⟨i + 1, (t + m) % 65521, rfl, int_eq (by omega), int_eq (by omega), by omega, by omega, by unfold Hid; rw [sumF, ← HT.out, HC.out, ← HM.out]⟩
    · go_wp2_with fail
      go_ret
      have : i = n := by omega
      subst this
      exact ⟨ret1 (int_eq (by rw [HT.out])), rfl⟩

theorem set_any (s : ByteArray) (p j : Int) (w : World) (h0 : 0 ≤ p) (hj0 : 0 ≤ j) (h : p + 1 + j / 8 < s.size) (hs : s.size ≤ 70000) (hj : j ≤ 4096) :
    Calls Tryd.prog 80 #[.string s, .int .i64 p, .int .i64 j] w fun e w' => e = .returned (.bool (setF s p.toNat j.toNat)) ∧ w' = w := by
  obtain ⟨p, rfl⟩ := Int.eq_ofNat_of_zero_le h0
  obtain ⟨j, rfl⟩ := Int.eq_ofNat_of_zero_le hj0
  rw [Int.toNat_natCast, Int.toNat_natCast]
  have hi : p + 1 + j / 8 < s.size := by omega
  have HC : Hid (byt s (p + 1 + j / 8) = (s[p + 1 + j / 8]'hi).toNat) := byt_in hi
  have hc := (s[p + 1 + j / 8]'hi).toNat_lt
  go_enter Tryd.func80, Tryd.ntmps80
  have hb : Go.bits BinOp.and IntKind.i64 (((s[p + 1 + j / 8]'hi).toNat : Int) / 2 ^ (j % 8)) 1 = (((s[p + 1 + j / 8]'hi).toNat / 2 ^ (j % 8) % 2 : Nat) : Int) := by
    rw [i64_and1, Int.natCast_emod, Int.natCast_ediv, Int.natCast_pow]; rfl
  have HB : Hid (Go.bits BinOp.and IntKind.i64 (((s[p + 1 + j / 8]'hi).toNat : Int) / 2 ^ (j % 8)) 1 = (((s[p + 1 + j / 8]'hi).toNat / 2 ^ (j % 8) % 2 : Nat) : Int)) := hb
  clear hb
  go_wp2_with fail
  go_ret
  refine ⟨ret1 (bool_eq ?_), rfl⟩
  show (Go.bits BinOp.and IntKind.i64 (((s[p + 1 + j / 8]'hi).toNat : Int) / 2 ^ (j % 8)) 1 == 1) = _
  rw [HB.out, setF, HC.out, Bool.eq_iff_iff, beq_iff_eq, decide_eq_true_eq]
  omega

theorem ones_any (s : ByteArray) (p n : Int) (w : World) (h0 : 0 ≤ p) (hn0 : 0 ≤ n) (h : p + 1 + (n + 7) / 8 ≤ s.size) (hs : s.size ≤ 70000) (hn : n ≤ 4096) :
    Calls Tryd.prog 82 #[.string s, .int .i64 p, .int .i64 n] w fun e w' => e = .returned (.int .i64 (onesF s p.toNat n.toNat)) ∧ w' = w := by
  obtain ⟨p, rfl⟩ := Int.eq_ofNat_of_zero_le h0
  obtain ⟨n, rfl⟩ := Int.eq_ofNat_of_zero_le hn0
  rw [Int.toNat_natCast, Int.toNat_natCast]
  go_enter Tryd.func82, Tryd.ntmps82
  go_wp2_with fail
  go_loopg [7, 8] n (fun g x y wr => ∃ i k : Nat, wr = w ∧ x = .int .i64 k ∧ y = .int .i64 i ∧ g + i = n ∧ k ≤ i ∧ Hid (k = onesF s p i))
  case atStart => exact ⟨0, 0, rfl, rfl, rfl, by omega, by omega, rfl⟩
  case round =>
    obtain ⟨i, k, rfl, rfl, rfl, hg, hk, HK⟩ := hrel
    by_cases hlt : i < n
    · cases hs1 : setF s p i with
      | true =>
        have HS : Hid (setF s p i = true) := hs1
        clear hs1
        go_wp2_with fail
        refine (set_any s p i _ (by omega) (by omega) (by omega) hs (by omega)).mono ?_
        rintro e w1 ⟨rfl, rfl⟩
        rw [Int.toNat_natCast, Int.toNat_natCast, HS.out]
        go_wp2_with fail
        go_roundg (gk - 1)
        case measure => omega
        case rel => exact ⟨i + 1, k + 1, rfl, int_eq (by omega), int_eq (by omega), by omega, by omega, by unfold Hid; rw [onesF, if_pos HS.out, ← HK.out]⟩
      | false =>
        have HS : Hid (setF s p i = false) := hs1
        clear hs1
        go_wp2_with fail
        refine (set_any s p i _ (by omega) (by omega) (by omega) hs (by omega)).mono ?_
        rintro e w1 ⟨rfl, rfl⟩
        rw [Int.toNat_natCast, Int.toNat_natCast, HS.out]
        go_wp2_with fail
        go_roundg (gk - 1)
        case measure => omega
        case rel => exact ⟨i + 1, k, rfl, rfl, int_eq (by omega), by omega, by omega, by unfold Hid; rw [onesF, if_neg (by rw [HS.out]; simp), ← HK.out]⟩
    · go_wp2_with fail
      go_ret
      have : i = n := by omega
      subst this
      exact ⟨ret1 (int_eq (by rw [HK.out])), rfl⟩

/-- 2^s, of a stride from 1 to 12. -/
theorem pow_st {t : Nat} (h1 : 1 ≤ t) (h : t ≤ 12) : wrap64 (2 ^ t) = ((2 ^ t : Nat) : Int) ∧ 2 ^ t ≤ 4096 ∧ 2 ≤ 2 ^ t := by
  obtain ⟨p1, p2, _⟩ := wrap_pow h
  refine ⟨p1, p2, ?_⟩
  have : 2 ^ 1 ≤ 2 ^ t := Nat.pow_le_pow_right (by omega) h1
  omega

/-- What 'lies' answers. -/
def LiesR (s : ByteArray) (p e b : Nat) (x y : Int) (ok : Bool) : Prop := ok = nodeF s p e b ∧ (ok = true → x = entF s p ∧ y = onesF s p (2 ^ byt s p))

def LiesE (s : ByteArray) (p e b : Nat) (r : Ending) : Prop := ∃ (x y : Int) (ok : Bool), r = .returned (.tuple #[.int .i64 x, .int .i64 y, .bool ok]) ∧ LiesR s p e b x y ok
theorem lies_no {s : ByteArray} {p e b : Nat} {r : Ending} (h : nodeF s p e b = false) (hr : r = .returned (.tuple #[.int .i64 0, .int .i64 0, .bool false])) : LiesE s p e b r := ⟨0, 0, false, hr, h.symm, by simp⟩

set_option maxHeartbeats 1000000 in
theorem lies_any (s : ByteArray) (p e b : Int) (w : World) (h0 : 0 ≤ p) (hp : p ≤ 200000) (he0 : 0 ≤ e) (he : e ≤ s.size) (hs : s.size ≤ 70000) (hb0 : 0 ≤ b) (hb : b ≤ 12) :
    Calls Tryd.prog 79 #[.string s, .int .i64 p, .int .i64 e, .int .i64 b] w fun r w' => LiesE s p.toNat e.toNat b.toNat r ∧ w' = w := by
  obtain ⟨p, rfl⟩ := Int.eq_ofNat_of_zero_le h0
  obtain ⟨e, rfl⟩ := Int.eq_ofNat_of_zero_le he0
  obtain ⟨b, rfl⟩ := Int.eq_ofNat_of_zero_le hb0
  rw [Int.toNat_natCast, Int.toNat_natCast, Int.toNat_natCast]
  by_cases h1 : p < e
  · have hpi : p < s.size := by omega
    obtain ⟨t, ht⟩ : ∃ t, (s[p]'hpi).toNat = t := ⟨_, rfl⟩
    have HT : Hid (byt s p = t) := by unfold Hid; rw [byt_in hpi, ht]
    have htl : t < 256 := by rw [← ht]; exact (s[p]'hpi).toNat_lt
    by_cases h2 : 1 ≤ t ∧ t ≤ b
    · obtain ⟨h21, h22⟩ := h2
      obtain ⟨P, hP⟩ : ∃ P : Nat, P = 2 ^ t := ⟨_, rfl⟩
      obtain ⟨hpw, hP1, hP2⟩ := pow_st h21 (show t ≤ 12 by omega)
      rw [← hP] at hpw hP1 hP2
      have HP : Hid (2 ^ byt s p = P) := by unfold Hid; rw [HT.out, hP]
      have HE : Hid (entF s p = p + 1 + (P + 7) / 8) := by unfold Hid entF; rw [HP.out]
      have HN : Hid (nodeF s p e b = (decide (p + 1 + (P + 7) / 8 ≤ e) && setF s p 0 && spareF s p (8 - P) P && decide (p + 1 + (P + 7) / 8 + 2 * onesF s p P ≤ e))) := by
        unfold Hid nodeF; rw [HE.out, HP.out, HT.out]; simp [h1, h21, h22]
      clear hP
      by_cases h3 : p + 1 + (P + 7) / 8 ≤ e
      · cases h4 : setF s p 0 with
        | true =>
          have H4 : Hid (setF s p 0 = true) := h4
          clear h4
          go_enter Tryd.func79, Tryd.ntmps79
          go_wp2_with fail
          refine (set_any s p 0 _ (by omega) (by omega) (by omega) hs (by omega)).mono ?_
          rintro r w1 ⟨rfl, rfl⟩
          rw [Int.toNat_natCast, show (0 : Int).toNat = 0 from rfl, H4.out]
          go_wp2_with fail
          go_loopg [15] (8 - P) (fun g x wr => ∃ j : Nat, wr = w1 ∧ x = .int .i64 j ∧ P ≤ j ∧ (j ≤ 8 ∨ j = P) ∧ g = 8 - j ∧ Hid (spareF s p (8 - P) P = spareF s p (8 - j) j))
          case atStart => exact ⟨P, rfl, rfl, by omega, .inr rfl, by omega, rfl⟩
          case round =>
            obtain ⟨j, rfl, rfl, hj1, hj2, rfl, HJ⟩ := hrel
            by_cases hlt : j < 8
            · cases h5 : setF s p j with
              | true =>
                have H5 : Hid (setF s p j = true) := h5
                clear h5
                go_wp2_with fail
                refine (set_any s p j _ (by omega) (by omega) (by omega) hs (by omega)).mono ?_
                rintro r w2 ⟨rfl, rfl⟩
                rw [Int.toNat_natCast, Int.toNat_natCast, H5.out]
                go_wp2_with fail
                go_ret3
                refine ⟨lies_no ?_ rfl, rfl⟩
                rw [HN.out, HJ.out, show 8 - j = (8 - (j + 1)) + 1 from by omega, spareF, if_pos H5.out]; simp
              | false =>
                have H5 : Hid (setF s p j = false) := h5
                clear h5
                go_wp2_with fail
                refine (set_any s p j _ (by omega) (by omega) (by omega) hs (by omega)).mono ?_
                rintro r w2 ⟨rfl, rfl⟩
                rw [Int.toNat_natCast, Int.toNat_natCast, H5.out]
                go_wp2_with fail
                go_roundg (8 - (j + 1))
                case measure => omega
                case rel =>
                  refine ⟨j + 1, rfl, int_eq (by omega), by omega, by omega, rfl, ?_⟩
                  unfold Hid
                  rw [HJ.out, show 8 - j = (8 - (j + 1)) + 1 from by omega, spareF, if_neg (by rw [H5.out]; simp)]
            · have H6 : Hid (spareF s p (8 - P) P = true) := by unfold Hid; rw [HJ.out, show 8 - j = 0 from by omega]; rfl
              have hon := onesF_le s p P
              go_wp2_with fail
              refine (ones_any s p P _ (by omega) (by omega) (by omega) hs (by omega)).mono ?_
              rintro r w2 ⟨rfl, rfl⟩
              rw [Int.toNat_natCast, Int.toNat_natCast]
              go_wp2_with fail
              go_ret3
              refine ⟨⟨_, _, _, rfl, ?_, ?_⟩, rfl⟩
              · rw [HN.out, H4.out, H6.out, Bool.eq_iff_iff]; simp; omega
              · intro _
                refine ⟨?_, ?_⟩
                · rw [HE.out]; omega
                · rw [HP.out]
        | false =>
          have H4 : Hid (setF s p 0 = false) := h4
          clear h4
          go_enter Tryd.func79, Tryd.ntmps79
          go_wp2_with fail
          refine (set_any s p 0 _ (by omega) (by omega) (by omega) hs (by omega)).mono ?_
          rintro r w1 ⟨rfl, rfl⟩
          rw [Int.toNat_natCast, show (0 : Int).toNat = 0 from rfl, H4.out]
          go_wp2_with fail
          go_ret3
          exact ⟨lies_no (by rw [HN.out, H4.out]; simp) rfl, rfl⟩
      · go_enter Tryd.func79, Tryd.ntmps79
        go_wp2_with fail
        go_ret3
        exact ⟨lies_no (by rw [HN.out]; simp [h3]) rfl, rfl⟩
    · have hF : Hid (nodeF s p e b = false) := by unfold Hid nodeF; rw [HT.out]; simp [h2]
      by_cases h21 : 1 ≤ t
      · have h22 : ¬ t ≤ b := fun h => h2 ⟨h21, h⟩
        clear h2
        go_enter Tryd.func79, Tryd.ntmps79
        go_wp2_with fail
        go_ret3
        exact ⟨lies_no hF.out rfl, rfl⟩
      · clear h2
        go_enter Tryd.func79, Tryd.ntmps79
        go_wp2_with fail
        go_ret3
        exact ⟨lies_no hF.out rfl, rfl⟩
  · have hF : Hid (nodeF s p e b = false) := by unfold Hid nodeF; simp [h1]
    go_enter Tryd.func79, Tryd.ntmps79
    go_wp2_with fail
    go_ret3
    exact ⟨lies_no hF.out rfl, rfl⟩
end Go.Proofs.YtdfnmpmmkcpddaaDoor
/- The walks of the program's cost: all nodes with one more depth. -/
namespace Go.Proofs.YtdfnmpmmkcpddaaDoor
open Go.RowKit

theorem nodeK_len (R : List Rt) (k : Nat) (ns : List ByteArray) : (ns.map (nodeK R k)).length = ns.length := by simp
theorem nodeK_at (R : List Rt) (k : Nat) (ns : List ByteArray) {i : Nat} (h : i < ns.length) : (ns.map (nodeK R k))[i]'(by simp; exact h) = nodeK R k ns[i] := by simp
theorem nodeK_bd {R : List Rt} {k : Nat} {ns : List ByteArray} (hS : ∀ r ∈ R, r.bits.size ≤ 12) (hn : nodesF R = ns) (hk : 1 ≤ k) : ∀ x ∈ ns.map (nodeK R k), x.b.size ≤ 12 ∧ 0 ≤ x.c ∧ x.c ≤ 4096 := by
  intro x hx
  obtain ⟨b, hb, rfl⟩ := List.mem_map.1 hx
  rw [← hn] at hb
  have := cost_bd hS k b hk (nodes_height hb)
  exact ⟨nodes_size hS hb, by show 0 ≤ costZ R k b; omega, this.2⟩
theorem belowK_bd {b : ByteArray} {m : Nat} : ∀ {l : List Tn} {z : Int}, (∀ x ∈ l, 0 ≤ x.c ∧ x.c ≤ 4096) → z ≤ belowK b m l z ∧ belowK b m l z ≤ z + 4096 * l.length
  | [], z, _ => by simp [belowK]
  | x :: l, z, h => by
    have h1 := h x (by simp)
    have h2 := fun z => belowK_bd (b := b) (m := m) (l := l) (z := z) fun y hy => h y (by simp [hy])
    rw [belowK]
    simp only [List.length_cons]
    split
    · split
      · have := h2 (z + x.c); omega
      · have := h2 z; omega
    · omega

/-- A node in a block of its own. -/
def Tb (w : World) (B : Nat) (b : ByteArray) (h st : Nat) (c : Int) : Prop := w.heap[B]? = some (.cells #[.string b, .int .i64 h, .int .i64 st, .int .i64 c] 76 (0, 0))
section
variable {w : World} {B h st : Nat} {b : ByteArray} {c : Int}
theorem Tb.cells (k : Tb w B b h st c) : w.cell? ⟨B, 0, none⟩ = some (.string b) ∧ w.cell? ⟨B, 1, none⟩ = some (.int .i64 h) ∧ w.cell? ⟨B, 2, none⟩ = some (.int .i64 st) ∧ w.cell? ⟨B, 3, none⟩ = some (.int .i64 c) := by
  refine ⟨?_, ?_, ?_, ?_⟩ <;> (rw [cell_of_row w B _ _ _ _ k]; rfl)
theorem Tb.free (k : Tb w B b h st c) (j : Nat) : w.frozen? ⟨B, j, none⟩ = false := frozen_of_row w B j _ _ k
theorem Tb.set0 (k : Tb w B b h st c) (x : ByteArray) : Tb (w.setCell ⟨B, 0, none⟩ (.string x)) B x h st c := heap_setCell_same w B 0 _ _ _ k
theorem Tb.set1 (k : Tb w B b h st c) (x : Nat) : Tb (w.setCell ⟨B, 1, none⟩ (.int .i64 x)) B b x st c := heap_setCell_same w B 1 _ _ _ k
theorem Tb.other (k : Tb w B b h st c) {A j : Nat} (hA : B ≠ A) (u : Value) : Tb (w.setCell ⟨A, j, none⟩ u) B b h st c := (heap_setCell_other w ⟨A, j, none⟩ B u hA).trans k
theorem Tb.new (w : World) (b : ByteArray) (h st : Nat) (c : Int) : Tb (w.alloc (.cells #[.string b, .int .i64 h, .int .i64 st, .int .i64 c] 76)) w.heap.size b h st c := heap_alloc_new w _
theorem Tb.setS (k : Tb w B b h st c) (x : Nat) : Tb (w.setCell ⟨B, 2, none⟩ (.int .i64 x)) B b h x c := heap_setCell_same w B 2 _ _ _ k
theorem Tb.setC (k : Tb w B b h st c) (x : Int) : Tb (w.setCell ⟨B, 3, none⟩ (.int .i64 x)) B b h st x := heap_setCell_same w B 3 _ _ _ k
theorem Tb.lt (k : Tb w B b h st c) : B < w.heap.size := (Array.getElem?_eq_some_iff.1 k).1
theorem Tb.below {w' : World} (k : Tb w B b h st c) (hb : Below w.heap.size w w') : Tb w' B b h st c := (hb.block B k.lt).trans k
end

set_option maxRecDepth 100000 in
set_option maxHeartbeats 1000000 in
theorem deepenNode_any (R : List Rt) (ns : List ByteArray) (k ix : Nat) (ao : Option Addr) (cap base : Nat) (w : World) (hR : Ord R) (hS : ∀ r ∈ R, r.bits.size ≤ 12) (hn : nodesF R = ns) (hk : 1 ≤ k) (hl : ns.length ≤ 400) (ha : ix < ns.length)
    (hown : w.ownsRow base 76 4 (.slice ao ns.length cap) ns.length (tnc (ns.map (nodeK R k)))) :
    Calls Tryd.prog 97 #[.slice ao ns.length cap, .int .i64 ix] w fun e w' => e = .returned (.agg #[.string ns[ix], .int .i64 (heightF R ns[ix]), .int .i64 (chF R (k + 1) ns[ix]), .int .i64 (costZ R (k + 1) ns[ix])]) ∧ Below w.heap.size w w' := by
  obtain ⟨l, hle⟩ : ∃ l, ns.map (nodeK R k) = l := ⟨_, rfl⟩
  have hll : ns.length = l.length := by rw [← hle]; simp
  have hB := nodeK_bd hS hn hk
  have hat : l[ix]'(by omega) = nodeK R k ns[ix] := by subst hle; simp
  obtain ⟨b, hb⟩ : ∃ b, ns[ix] = b := ⟨_, rfl⟩
  have hSS : Hid (∀ t, 1 ≤ t → ((2 ^ t : Nat) : Int) + belowK b (b.size + t) (l.drop (ix + 1)) 0 = sumS R b (costZ R k) t) := by
    unfold Hid; intro t ht; rw [← hb, ← hle]; exact stride_sum hR hn ha ht
  have hbn : b ∈ nodesF R := by rw [hn, ← hb]; exact List.getElem_mem ha
  have hh1 := nodes_height hbn
  have hh2 := heightF_le (b := b) hS
  obtain ⟨h, hh⟩ : ∃ h, heightF R b = h := ⟨_, rfl⟩
  rw [hh] at hh1 hh2
  rw [hb] at hat ⊢
  rw [hle, hll] at hown
  rw [hle] at hB
  rw [hll]
  rw [hll] at hl
  have ha' : ix < l.length := by omega
  have HC : Hid (costZ R (k + 1) b = sumS R b (costZ R k) (argF R b (costZ R k) h) ∧ chF R (k + 1) b = argF R b (costZ R k) h) := by
    have h1 := (chF_cost hS (k := k) (b := b) (by omega)).2
    rw [chF_succ R b hk, hh] at h1
    exact ⟨h1, by rw [chF_succ R b hk, hh]⟩
  obtain ⟨g, rfl, hg1, hg2, hg3, hg4⟩ := own_some hown (by omega)
  unfold maxLen at hg4
  have ek : l[ix].h = h := by rw [hat, ← hh]; rfl
  have HB : Hid (l[ix].b = b) := by unfold Hid; rw [hat]; rfl
  obtain ⟨s0, hs0⟩ : ∃ s0, l[ix].s = s0 := ⟨_, rfl⟩
  obtain ⟨z0, hz0⟩ : ∃ z0, l[ix].c = z0 := ⟨_, rfl⟩
  have hs0b : s0 ≤ 12 := by rw [← hs0, hat]; have := (chF_bd R k (b := b) (by omega)).2; show chF R k b ≤ 12; omega
  have hz0b := (hB l[ix] (List.getElem_mem ha')).2
  rw [hz0] at hz0b
  have HA : Hid (∀ wr : World, Below w.heap.size w wr → wr.cell? ⟨g, ix * 4, none⟩ = some (.string b) ∧ wr.cell? ⟨g, ix * 4 + 1, none⟩ = some (.int .i64 (h : Nat)) ∧ wr.cell? ⟨g, ix * 4 + 2, none⟩ = some (.int .i64 (s0 : Nat)) ∧ wr.cell? ⟨g, ix * 4 + 3, none⟩ = some (.int .i64 z0)) := fun wr hb => by
    have := node_cells hown hg2 hb ha'
    rw [HB.out, ek, hs0, hz0] at this
    exact this
  have HD : Hid (∀ m, 0 ≤ belowK b m (l.drop (ix + 1)) 0 ∧ belowK b m (l.drop (ix + 1)) 0 ≤ 1638400) := by
    unfold Hid; intro m
    have := belowK_bd (b := b) (m := m) (l := l.drop (ix + 1)) (z := 0) fun x hx => (hB x (List.mem_of_mem_drop hx)).2
    rw [List.length_drop] at this
    omega
  have HBD : Hid (∀ x ∈ l, x.b.size ≤ 12 ∧ 0 ≤ x.c ∧ x.c ≤ 4096) := hB
  have HOWN : Hid (w.ownsRow base 76 4 (.slice (some ⟨g, 0, none⟩) l.length cap) l.length (tnc l)) := hown
  clear hle hll hat hb hn hbn ek hR ha hB hown hS hs0 hz0
  go_enter Tryd.func97, Tryd.ntmps97
  obtain ⟨d0, d1, d2, d3⟩ := HA.out w (Below.refl _ _)
  go_wp2_with fail
  obtain ⟨B, hBe⟩ : ∃ B, w.heap.size + 1 = B := ⟨_, rfl⟩
  rw [hBe]
  go_loopg [6] h (fun g' y wr => ∃ (t st : Nat) (z : Int), y = .int .i64 t ∧ g' + t = h + 1 ∧ 1 ≤ t ∧ st ≤ 12 ∧ 0 ≤ z ∧ z ≤ 10000000 ∧ Tb wr B b h st z ∧ Tb wr w.heap.size ⟨#[]⟩ 0 0 0 ∧ Below w.heap.size w wr ∧ wr.heap.size = w.heap.size + 2 ∧ Hid (t = 1 ∨ (2 ≤ t ∧ st = argF R b (costZ R k) (t - 1) ∧ z = sumS R b (costZ R k) st)))
  case atStart =>
    refine ⟨1, s0, z0, rfl, by omega, by omega, hs0b, by omega, by omega, ?_, ?_, ((Below.refl _ _).alloc (Nat.le_refl _) _).alloc (by simp) _, by simp, .inl rfl⟩
    · rw [← hBe, show w.heap.size + 1 = (w.alloc (.cells #[.string ⟨#[]⟩, .int .i64 0, .int .i64 0, .int .i64 0] 76)).heap.size from by simp]
      exact Tb.new _ b h s0 z0
    · exact (Tb.new w ⟨#[]⟩ 0 0 0).below ((Below.refl _ _).alloc (Nat.le_refl _) _)
  case round =>
    obtain ⟨t, st, z, rfl, hgt, ht1, hst, hz1, hz2, hT, hA, hbel, hsz, HI⟩ := hrel
    obtain ⟨d0, d1, d2, d3⟩ := HA.out wr hbel
    obtain ⟨c0, c1, c2, c3⟩ := hT.cells
    have f2 := hT.free 2
    have f3 := hT.free 3
    by_cases hlt : t ≤ h
    · obtain ⟨y, hy⟩ : ∃ y, belowK b (b.size + t) (l.drop (ix + 1)) 0 = y := ⟨_, rfl⟩
      have hyb := HD.out (b.size + t)
      have hss := hSS.out t ht1
      rw [hy] at hyb hss
      obtain ⟨P, hP⟩ : ∃ P : Nat, P = 2 ^ t := ⟨_, rfl⟩
      obtain ⟨hpw, hP1, hP2⟩ := pow_st ht1 (show t ≤ 12 by omega)
      rw [← hP] at hpw hP1 hP2 hss
      have HCB : Hid (Calls Tryd.prog 100 #[.slice (some ⟨g, 0, none⟩) l.length cap, .int .i64 ix, .int .i64 t] wr fun e w' => e = .returned (.int .i64 y) ∧ w' = wr) := by
        have := costBelow_any l ix t (some ⟨g, 0, none⟩) cap base wr (by omega) ha' (by omega) HBD.out (own_below HOWN.out hbel)
        rw [HB.out, hy] at this
        exact this
      have HSS : Hid ((P : Int) + y = sumS R b (costZ R k) t) := hss
      obtain ⟨hy1, hy2⟩ := hyb
      have hbel2 : Below w.heap.size w ((wr.setCell ⟨B, 2, none⟩ (.int .i64 t)).setCell ⟨B, 3, none⟩ (.int .i64 ((P : Int) + y))) := (hbel.setCell (by show w.heap.size ≤ B; omega) _).setCell (by show w.heap.size ≤ B; omega) _
      have hT2 := (hT.setS t).setC ((P : Int) + y)
      have hfr := (hT.setS t).free 3
      have hA2 : Tb ((wr.setCell ⟨B, 2, none⟩ (.int .i64 t)).setCell ⟨B, 3, none⟩ (.int .i64 ((P : Int) + y))) w.heap.size ⟨#[]⟩ 0 0 0 := (hA.other (by omega) _).other (by omega) _
      clear hy hss hP HA
      by_cases h1 : t = 1
      · have hte : ((t : Int) == 1) = true := by rw [beq_iff_eq]; omega
        have HR : Hid (t + 1 = 1 ∨ (2 ≤ t + 1 ∧ t = argF R b (costZ R k) (t + 1 - 1) ∧ (P : Int) + y = sumS R b (costZ R k) t)) := by
          refine .inr ⟨by omega, ?_, HSS.out⟩
          rw [h1]; rfl
        clear h1 HI
        go_wp2_with fail
        refine HCB.out.mono ?_
        rintro e w1 ⟨rfl, rfl⟩
        go_wp2_with fail
        go_roundg (gk - 1)
        case measure => omega
        case rel => exact ⟨t + 1, t, (P : Int) + y, int_eq (by omega), by omega, by omega, by omega, by omega, by omega, hT2, hA2, hbel2, by simpa using hsz, HR.out⟩
      · have hte : ((t : Int) == 1) = false := by rw [beq_eq_false_iff_ne]; omega
        have hI : 2 ≤ t ∧ st = argF R b (costZ R k) (t - 1) ∧ z = sumS R b (costZ R k) st := by
          rcases HI.out with h | h
          · exact absurd h h1
          · exact h
        obtain ⟨i1, i2, i3⟩ := hI
        have hM := argF_more (R := R) (b := b) (f := costZ R k) i1
        rw [← i2, ← i3, ← HSS.out] at hM
        have HZ : Hid (z = sumS R b (costZ R k) st) := i3
        clear HI i2 i3
        by_cases hlt2 : (P : Int) + y < z
        · rw [if_pos hlt2] at hM
          have HM : Hid (argF R b (costZ R k) t = t) := hM
          clear hM h1
          go_wp2_with fail
          refine HCB.out.mono ?_
          rintro e w1 ⟨rfl, rfl⟩
          go_wp2_with fail
          go_roundg (gk - 1)
          case measure => omega
          case rel => exact ⟨t + 1, t, (P : Int) + y, int_eq (by omega), by omega, by omega, by omega, by omega, by omega, hT2, hA2, hbel2, by simpa using hsz, .inr ⟨by omega, HM.out.symm, HSS.out⟩⟩
        · rw [if_neg hlt2] at hM
          have HM : Hid (argF R b (costZ R k) t = st) := hM
          have hd : decide ((P : Int) + y < z) = false := by rw [decide_eq_false_iff_not]; exact hlt2
          clear hM h1 hT2 hA2 hbel2 hfr
          go_wp2_with fail
          refine HCB.out.mono ?_
          rintro e w1 ⟨rfl, rfl⟩
          go_wp2_with fail
          go_roundg (gk - 1)
          case measure => omega
          case rel => exact ⟨t + 1, st, z, int_eq (by omega), by omega, by omega, by omega, by omega, by omega, hT, hA, hbel, hsz, .inr ⟨by omega, HM.out.symm, HZ.out⟩⟩
    · have hI : st = argF R b (costZ R k) h ∧ z = sumS R b (costZ R k) st := by
        rcases HI.out with h1 | ⟨_, h1, h2⟩
        · omega
        · rw [show t - 1 = h from by omega] at h1; exact ⟨h1, h2⟩
      have HE : Hid (costZ R (k + 1) b = z ∧ chF R (k + 1) b = st) := by
        obtain ⟨e1, e2⟩ := HC.out
        exact ⟨by rw [e1, hI.2, hI.1], by rw [e2, hI.1]⟩
      clear hI HI HA
      have r1 := hA.set0 b
      have r2 := r1.set1 h
      have r3 := r2.setS st
      have r4 := r3.setC z
      obtain ⟨k0, _, _, _⟩ := hA.cells
      obtain ⟨_, k1, _, _⟩ := r1.cells
      obtain ⟨_, _, k2, _⟩ := r2.cells
      obtain ⟨_, _, _, k3⟩ := r3.cells
      obtain ⟨m0, m1, m2, m3⟩ := r4.cells
      have q0 := hA.free 0
      have q1 := r1.free 1
      have q2 := r2.free 2
      have q3 := r3.free 3
      have hbelF : Below w.heap.size w ((((wr.setCell ⟨w.heap.size, 0, none⟩ (.string b)).setCell ⟨w.heap.size, 1, none⟩ (.int .i64 h)).setCell ⟨w.heap.size, 2, none⟩ (.int .i64 st)).setCell ⟨w.heap.size, 3, none⟩ (.int .i64 z)) := (((hbel.setCell (by show w.heap.size ≤ w.heap.size; omega) _).setCell (by show w.heap.size ≤ w.heap.size; omega) _).setCell (by show w.heap.size ≤ w.heap.size; omega) _).setCell (by show w.heap.size ≤ w.heap.size; omega) _
      have HF : Hid (heightF R b = h) := hh
      clear hh
      go_wp2_with fail
      obtain ⟨e1, e2⟩ := HE.out
      rw [e1, e2, HF.out]
      refine bodyPost_ret (v := .agg #[.string b, .int .i64 h, .int .i64 st, .int .i64 z]) (by simp [results, Tryd.results97, go_sem, m0, m1, m2, m3]) rfl ⟨rfl, ?_⟩
      exact hbelF
end Go.Proofs.YtdfnmpmmkcpddaaDoor
/- The walks of the program's cost: deepenNodes, flatNodes. -/
namespace Go.Proofs.YtdfnmpmmkcpddaaDoor
open Go.RowKit

theorem step_append_own {P : Program} {ops : Array Oper} {o : Oper} {a : Act} {w : World} {K : Act → World → Prop} {Q : Exit → Act → World → Prop} {E : Prop}
    (hg : o.guard = none) (s x : Operand) (t : TypeId) (hop : o.op = Op.call { callee := Callee.builtin Builtin.append, args := #[s, x], argTypes := #[t, t] })
    (base : Nat) (e : TypeId) (i : TypeInfo) (z : Value) (size bytes : Nat) (h1 : P.underlying t = some (.slice e)) (h2 : P.info? e = some i) (h3 : i.zero = some z) (h4 : i.size = size) (h5 : i.bytes = bytes) (h6 : z.cells.size = size) (h7 : 0 < size)
    (v : Value) (n : Nat) (xs : List Value) (hs : a.eval s = v) (hown : w.ownsRow base e size v n xs)
    (ad : Addr) (m c : Nat) (news : List Value) (hx : a.eval x = .slice (some ad) m c) (hn : news.length = m * size) (hc : ∀ j u, news[j]? = some u → w.cell? (ad.add j) = some u) (h1c : ∀ u ∈ news, u.oneCell' = true)
    (b1 : n + m ≤ maxLen) (b2 : (n + m) * bytes ≤ 140737488355328) (b3 : base ≤ w.heap.size)
    (hK : ∀ v' w', w'.ownsRow base e size v' (n + m) (xs ++ news) → w.grownBy w' v.ownBlock → K (a.put o.dst v') w') :
    if Region.wanted o (yielded ops a.tmps) = true then Oper.wp P o a w K Q else E := by
  rw [if_pos (by simp [Region.wanted, hg])]
  exact wp_append_own w s x t hop base e i z size bytes h1 h2 h3 h4 h5 h6 h7 v n xs hs hown ad m c news hx hn hc h1c b1 b2 b3 fun v' w' h8 h9 _ => hK v' w' h8 h9

set_option maxRecDepth 100000 in
set_option maxHeartbeats 1000000 in
theorem deepenNodes_any (R : List Rt) (ns : List ByteArray) (k : Nat) (ao : Option Addr) (cap base : Nat) (w : World) (hR : Ord R) (hS : ∀ r ∈ R, r.bits.size ≤ 12) (hn : nodesF R = ns) (hk : 1 ≤ k) (hl : ns.length ≤ 400)
    (hown : w.ownsRow base 76 4 (.slice ao ns.length cap) ns.length (tnc (ns.map (nodeK R k)))) :
    Calls Tryd.prog 84 #[.slice ao ns.length cap] w fun e w' => ∃ ao' cap', e = .returned (.slice ao' ns.length cap') ∧ w'.ownsRow w.heap.size 76 4 (.slice ao' ns.length cap') ns.length (tnc (ns.map (nodeK R (k + 1)))) ∧ Below w.heap.size w w' := by
  obtain ⟨i0, hi, hz0, hz1, hz2⟩ := info_parts Tryd.infoTree
  have HC : Hid (∀ (ix : Nat) (wr : World) (ha : ix < ns.length), Below w.heap.size w wr → Calls Tryd.prog 97 #[.slice ao ns.length cap, .int .i64 ix] wr fun e w' => e = .returned (.agg #[.string ns[ix], .int .i64 (heightF R ns[ix]), .int .i64 (chF R (k + 1) ns[ix]), .int .i64 (costZ R (k + 1) ns[ix])]) ∧ Below wr.heap.size wr w') :=
    fun ix wr ha hb => deepenNode_any R ns k ix ao cap base wr hR hS hn hk hl ha (own_below hown hb)
  clear hR hS hn hk
  go_enter Tryd.func84, Tryd.ntmps84
  go_wp2_with fail
  go_loopg [3, 4] ns.length (fun g x y wr => ∃ (i : Nat) (o : List Tn), y = .int .i64 i ∧ g + i = ns.length ∧ o.length = i ∧ wr.ownsRow w.heap.size 76 4 x o.length (tnc o) ∧ Below w.heap.size w wr ∧ Hid (o = (ns.take i).map (nodeK R (k + 1))))
  case atStart => exact ⟨0, [], rfl, by omega, rfl, World.ownsRow_nil _ _ _ _, Below.refl _ _, rfl⟩
  case round =>
    obtain ⟨i, o, rfl, hgi, hol, hown2, hbel, HO⟩ := hrel
    obtain ⟨ao2, cap2, rfl⟩ := own_shape hown2
    by_cases hlt : i < ns.length
    · have hwz := hbel.size
      obtain ⟨b, hb⟩ : ∃ b, ns[i] = b := ⟨_, rfl⟩
      obtain ⟨h, hh⟩ : ∃ h, heightF R b = h := ⟨_, rfl⟩
      obtain ⟨st, hst⟩ : ∃ st, chF R (k + 1) b = st := ⟨_, rfl⟩
      obtain ⟨c, hc⟩ : ∃ c, costZ R (k + 1) b = c := ⟨_, rfl⟩
      have HCi : Hid (Calls Tryd.prog 97 #[.slice ao ns.length cap, .int .i64 i] wr fun e w' => e = .returned (.agg #[.string b, .int .i64 h, .int .i64 st, .int .i64 c]) ∧ Below wr.heap.size wr w') := by
        unfold Hid; have := HC.out i wr hlt hbel; rw [hb, hh, hst, hc] at this; exact this
      have HO2 : Hid (o ++ [⟨b, h, st, c⟩] = (ns.take (i + 1)).map (nodeK R (k + 1))) := by
        unfold Hid; rw [List.take_succ_eq_append_getElem hlt, List.map_append, ← HO.out, hb]; simp only [List.map_cons, List.map_nil, nodeK, hh, hst, hc]
      clear hb hh hst hc HC HO
      go_wp2_with fail
      refine HCi.out.mono ?_
      rintro e w3 ⟨rfl, hb3⟩
      rw [hol] at hown2
      have hown4 := own_below hown2 hb3
      have hz3 := hb3.size
      have hbel3 : Below w.heap.size w w3 := hbel.trans (hb3.mono hwz)
      go_wp2_with (at_builtin; refine wpList_append_own _ rfl (.tmp 15) (.tmp 17) 74 rfl w.heap.size 76 i0 _ 4 40 Tryd.underlying74 hi hz0 hz1 hz2 rfl (by decide) _ _ _ rfl ((hown4.alloc _).alloc _) ⟨w3.heap.size + 1, 0, none⟩ 1 1 [.string b, .int .i64 h, .int .i64 st, .int .i64 c] rfl rfl ?c1 ?c2 ?c3 ?c4 ?c5 ?_)
      case c1 =>
        intro j u hj
        match j, hj with
        | 0, hj => simp at hj; subst hj; simp [Addr.add]
        | 1, hj => simp at hj; subst hj; simp [Addr.add]
        | 2, hj => simp at hj; subst hj; simp [Addr.add]
        | 3, hj => simp at hj; subst hj; simp [Addr.add]
      case c2 => intro u hu; simp at hu; rcases hu with rfl | rfl | rfl | rfl <;> rfl
      case c3 => unfold maxLen; omega
      case c4 => omega
      case c5 => simp; omega
      intro v' w4 hown5 hgrow _
      have hb5 : Below w.heap.size w w4 := ((hbel3.alloc hbel3.size _).alloc (by simp; omega) _).grown hgrow (by simp; omega) (fun k hk => by have := hown4.lt k hk; omega)
      go_wp2_with fail
      go_roundg (gk - 1)
      case measure => omega
      case rel => exact ⟨i + 1, o ++ [⟨b, h, st, c⟩], int_eq (by omega), by omega, by simp; omega, by rw [List.length_append, tnc_snoc, hol]; exact hown5, hb5, HO2⟩
    · go_wp2_with fail
      go_ret
      have hh := HO.out
      have hin : i = ns.length := by omega
      rw [List.take_of_length_le (by omega)] at hh
      rw [← hh]
      rw [← hin, ← hol]
      exact ⟨_, _, rfl, hown2, hbel⟩
end Go.Proofs.YtdfnmpmmkcpddaaDoor
