/- The walks of the program's cost: a table's nodes. -/
import Derived.Test.YtdfnmpmmkcpddaaDoorWalkU
import Derived.Test.YtdfnmpmmkcpddaaDoorWalkS
import Derived.Test.YtdfnmpmmkcpddaaDoorSpecU
import Derived.Test.YtdfnmpmmkcpddaaDoorSpecF
import Derived.Maps.AppendAt
namespace Go.Proofs.YtdfnmpmmkcpddaaDoor
open Go.RowKit

theorem Tryd.infoTree : (Tryd.prog.info? 76).map (fun i => (i.zero, i.size, i.bytes)) = some (some (.agg #[.string ⟨#[]⟩, .int .i64 0, .int .i64 0, .int .i64 0]), 4, 40) := by kernel_rfl

/-- A node with its stride and cost for one depth. -/
structure Tn where
  b : ByteArray
  h : Nat
  s : Nat
  c : Int
def tnc1 (x : Tn) : List Value := [.string x.b, .int .i64 (x.h : Nat), .int .i64 (x.s : Nat), .int .i64 x.c]
def tnc (l : List Tn) : List Value := l.flatMap tnc1
theorem tnc_snoc (l : List Tn) (x : Tn) : tnc (l ++ [x]) = tnc l ++ [.string x.b, .int .i64 (x.h : Nat), .int .i64 (x.s : Nat), .int .i64 x.c] := by simp [tnc, tnc1]
theorem tnc_cons (x : Tn) (l : List Tn) : tnc (x :: l) = .string x.b :: .int .i64 (x.h : Nat) :: .int .i64 (x.s : Nat) :: .int .i64 x.c :: tnc l := by simp [tnc, tnc1]
theorem tnc_at : ∀ (l : List Tn) (i : Nat) (x : Tn), l[i]? = some x → (tnc l)[i * 4]? = some (.string x.b) ∧ (tnc l)[i * 4 + 1]? = some (.int .i64 (x.h : Nat)) ∧ (tnc l)[i * 4 + 2]? = some (.int .i64 (x.s : Nat)) ∧ (tnc l)[i * 4 + 3]? = some (.int .i64 x.c)
  | y :: l, 0, x, h => by simp at h; subst h; rw [tnc_cons]; exact ⟨rfl, rfl, rfl, rfl⟩
  | y :: l, i + 1, x, h => by
    have := tnc_at l i x (by simpa using h)
    rw [tnc_cons, show (i + 1) * 4 = i * 4 + 1 + 1 + 1 + 1 from by omega, show i * 4 + 1 + 1 + 1 + 1 + 1 = (i * 4 + 1) + 1 + 1 + 1 + 1 from by omega, show i * 4 + 1 + 1 + 1 + 1 + 2 = (i * 4 + 2) + 1 + 1 + 1 + 1 from by omega, show i * 4 + 1 + 1 + 1 + 1 + 3 = (i * 4 + 3) + 1 + 1 + 1 + 1 from by omega]
    simpa using this
  | [], i, x, h => by simp at h

/-- The cells of a node in a world that grew. -/
theorem node_cells {w wr : World} {base e g cap : Nat} {l : List Tn} (hown : w.ownsRow base e 4 (.slice (some ⟨g, 0, none⟩) l.length cap) l.length (tnc l)) (hg : g < w.heap.size) (hb : Below w.heap.size w wr) {i : Nat} (hi : i < l.length) :
    wr.cell? ⟨g, i * 4, none⟩ = some (.string l[i].b) ∧ wr.cell? ⟨g, i * 4 + 1, none⟩ = some (.int .i64 (l[i].h : Nat)) ∧ wr.cell? ⟨g, i * 4 + 2, none⟩ = some (.int .i64 (l[i].s : Nat)) ∧ wr.cell? ⟨g, i * 4 + 3, none⟩ = some (.int .i64 l[i].c) := by
  obtain ⟨k0, k1, k2, k3⟩ := tnc_at l i l[i] (by simp)
  exact ⟨(hb.cell (p := ⟨g, i * 4, none⟩) hg).trans ((hown.cellAt (i * 4) (by omega)).trans k0), (hb.cell (p := ⟨g, i * 4 + 1, none⟩) hg).trans ((hown.cellAt (i * 4 + 1) (by omega)).trans k1),
    (hb.cell (p := ⟨g, i * 4 + 2, none⟩) hg).trans ((hown.cellAt (i * 4 + 2) (by omega)).trans k2), (hb.cell (p := ⟨g, i * 4 + 3, none⟩) hg).trans ((hown.cellAt (i * 4 + 3) (by omega)).trans k3)⟩

/-- The place of a node. -/
def fxF (b : ByteArray) : List ByteArray → Nat → Int
  | [], _ => -1
  | c :: l, i => if c = b then i else fxF b l (i + 1)
theorem fx_no {b : ByteArray} : ∀ {l : List ByteArray} {i : Nat}, b ∉ l → fxF b l i = -1
  | [], _, _ => rfl
  | c :: l, i, h => by
    rw [fxF, if_neg (fun e => h (by simp [e]))]
    exact fx_no fun e => h (by simp [e])
theorem fx_yes {b : ByteArray} : ∀ {l : List ByteArray} {i : Nat}, b ∈ l → ∃ j : Nat, fxF b l i = ((i + j : Nat) : Int) ∧ l[j]? = some b
  | [], _, h => by simp at h
  | c :: l, i, h => by
    by_cases e : c = b
    · exact ⟨0, by rw [fxF, if_pos e]; rfl, by simp [e]⟩
    · rcases List.mem_cons.1 h with h | h
      · exact absurd h.symm e
      · obtain ⟨j, h1, h2⟩ := fx_yes (i := i + 1) h
        exact ⟨j + 1, by rw [fxF, if_neg e, h1]; congr 1; omega, by simpa using h2⟩
def kbits (l : List Tn) : List ByteArray := l.map Tn.b
theorem fx_step {b : ByteArray} {l : List Tn} {i : Nat} (h : i < l.length) : fxF b ((kbits l).drop i) i = if l[i].b = b then (i : Int) else fxF b ((kbits l).drop (i + 1)) (i + 1) := by
  unfold kbits
  rw [List.drop_eq_getElem_cons (by simpa using h), fxF]
  simp
theorem fx_end {b : ByteArray} {l : List Tn} {i : Nat} (h : l.length ≤ i) : fxF b ((kbits l).drop i) i = -1 := by
  unfold kbits
  rw [List.drop_of_length_le (by simpa using h)]; rfl

set_option maxRecDepth 100000 in
theorem findNode_any (b : ByteArray) (l : List Tn) (ao : Option Addr) (cap base : Nat) (w : World) (hl : l.length ≤ 4000) (hown : w.ownsRow base 76 4 (.slice ao l.length cap) l.length (tnc l)) :
    Calls Tryd.prog 89 #[.slice ao l.length cap, .string b] w fun e w' => e = .returned (.int .i64 (fxF b (kbits l) 0)) ∧ w' = w := by
  go_enter Tryd.func89, Tryd.ntmps89
  go_wp2_with fail
  go_loopg [5] l.length (fun g x wr => ∃ i : Nat, x = .int .i64 i ∧ g + i = l.length ∧ wr = w ∧ Hid (fxF b (kbits l) 0 = fxF b ((kbits l).drop i) i))
  case atStart => exact ⟨0, rfl, by omega, rfl, rfl⟩
  case round =>
    obtain ⟨i, rfl, hgi, rfl, HM⟩ := hrel
    by_cases hlt : i < l.length
    · obtain ⟨g, rfl, hg1, hg2, hg3, hg4⟩ := own_some hown (by omega)
      unfold maxLen at hg4
      obtain ⟨c0, c1, c2, c3⟩ := node_cells hown hg2 (Below.refl _ _) hlt
      have hT := fx_step (b := b) hlt
      rw [← HM.out] at hT
      by_cases he : l[i].b = b
      · have hbe := ba_eq he
        rw [if_pos he] at hT
        have HY : Hid (fxF b (kbits l) 0 = (i : Int)) := hT
        clear he hT HM
        go_wp2_with fail
        go_ret
        rw [HY.out]
        exact ⟨rfl, rfl⟩
      · have hbe := ba_ne he
        rw [if_neg he] at hT
        have HT : Hid (fxF b (kbits l) 0 = fxF b ((kbits l).drop (i + 1)) (i + 1)) := hT
        clear he hT HM
        go_wp2_with fail
        go_roundg (gk - 1)
        case measure => omega
        case rel => exact ⟨i + 1, int_eq (by omega), by omega, rfl, HT.out⟩
    · go_wp2_with fail
      go_ret
      exact ⟨ret1 (int_eq (by rw [HM.out, fx_end (by omega)])), rfl⟩

set_option maxRecDepth 100000 in
set_option maxHeartbeats 1000000 in
theorem flatNode_any (b : ByteArray) (l : List Rt) (ao : Option Addr) (cap base : Nat) (w : World) (hl : l.length ≤ 400) (hS : ∀ r ∈ l, r.bits.size ≤ 12) (hb : b.size ≤ 12) (hown : w.ownsRow base 78 2 (.slice ao l.length cap) l.length (rc l)) :
    Calls Tryd.prog 96 #[.slice ao l.length cap, .string b] w fun e w' => e = .returned (.agg #[.string b, .int .i64 (heightF l b), .int .i64 (heightF l b), .int .i64 (2 ^ heightF l b : Nat)]) ∧ Below w.heap.size w w' := by
  go_enter Tryd.func96, Tryd.ntmps96
  go_wp2_with fail
  go_loopg [5, 6] l.length (fun g x y wr => ∃ (i n : Nat), x = .int .i64 n ∧ y = .int .i64 i ∧ g + i = l.length ∧ wr = w.alloc (.cells #[.string ⟨#[]⟩, .int .i64 0, .int .i64 0, .int .i64 0] 76) ∧ n ≤ 12 ∧ Hid (n = heightF (l.take i) b))
  case atStart => exact ⟨0, 0, rfl, rfl, by omega, rfl, by omega, rfl⟩
  case round =>
    obtain ⟨i, n, rfl, rfl, hgi, rfl, hn12, HN⟩ := hrel
    by_cases hlt : i < l.length
    · obtain ⟨g, rfl, hg1, hg2, hg3, hg4⟩ := own_some hown (by omega)
      unfold maxLen at hg4
      obtain ⟨c0, c1⟩ := row_cells hown hg2 ((Below.refl _ _).alloc (Nat.le_refl _) (.cells #[.string ⟨#[]⟩, .int .i64 0, .int .i64 0, .int .i64 0] 76)) hlt
      have hli := hS l[i] (List.getElem_mem hlt)
      have HT : Hid (heightF (l.take (i + 1)) b = hstep b n l[i]) := by unfold Hid; rw [heightF_take l b i hlt, ← HN.out]
      by_cases hle : n < l[i].bits.size - b.size
      · cases hp : pre b l[i].bits with
        | true =>
          have HP : Hid (pre b l[i].bits = true) := hp
          clear hp
          go_wp2_with fail
          refine (beginsWith_any _ _ _).mono ?_
          rintro e w1 ⟨rfl, rfl⟩
          rw [HP.out]
          go_wp2_with fail
          go_roundg (gk - 1)
          case measure => omega
          case rel => exact ⟨i + 1, l[i].bits.size - b.size, int_eq (by omega), int_eq (by omega), by omega, rfl, by omega, by unfold Hid; rw [HT.out, hstep, if_pos ⟨HP.out, hle⟩]⟩
        | false =>
          have HP : Hid (pre b l[i].bits = false) := hp
          clear hp
          go_wp2_with fail
          refine (beginsWith_any _ _ _).mono ?_
          rintro e w1 ⟨rfl, rfl⟩
          rw [HP.out]
          go_wp2_with fail
          go_roundg (gk - 1)
          case measure => omega
          case rel => exact ⟨i + 1, n, rfl, int_eq (by omega), by omega, rfl, by omega, by unfold Hid; rw [HT.out, hstep, if_neg (by rw [HP.out]; simp)]⟩
      · have hd : decide ((n : Int) < (l[i].bits.size : Int) - (b.size : Int)) = false := by rw [decide_eq_false_iff_not]; omega
        go_wp2_with fail
        go_roundg (gk - 1)
        case measure => omega
        case rel => exact ⟨i + 1, n, rfl, int_eq (by omega), by omega, rfl, by omega, by unfold Hid; rw [HT.out, hstep, if_neg (fun h => hle h.2)]⟩
    · have hh := HN.out
      rw [List.take_of_length_le (by omega)] at hh
      have HH : Hid (n = heightF l b) := hh
      clear hh HN
      obtain ⟨hpw, hp1, hp2⟩ := wrap_pow (W := n) hn12
      go_wp2_with fail
      rw [← HH.out]
      refine bodyPost_ret (v := .agg #[.string b, .int .i64 n, .int .i64 n, .int .i64 (2 ^ n : Nat)]) (by simp [results, Tryd.results96, go_sem]) rfl ⟨rfl, ?_⟩
      exact (Below.refl _ _).alloc (Nat.le_refl _) _
end Go.Proofs.YtdfnmpmmkcpddaaDoor
