/- The walks of Print: package fib's call. -/
import Derived.Test.YtdfnmpmmkcpddaaDoorWalkR
import Derived.Test.YtdfnmpmmkcpddaaDoorLawF
namespace Go.Proofs.YtdfnmpmmkcpddaaDoor
open Go.RowKit

set_option maxRecDepth 100000 in
theorem orderRoutes_any (l : List Rt) (ao : Option Addr) (cap base : Nat) (w : World) (hl : l.length ≤ 400) (hown : w.ownsRow base 78 2 (.slice ao l.length cap) l.length (rc l)) :
    Calls Tryd.prog 38 #[.slice ao l.length cap] w fun e w' => ∃ ao' cap', e = .returned (.slice ao' (ordR l).length cap') ∧
      w'.ownsRow w.heap.size 78 2 (.slice ao' (ordR l).length cap') (ordR l).length (rc (ordR l)) ∧ Below w.heap.size w w' := by
  go_enter Tryd.func38, Tryd.ntmps38
  go_wp2_with fail
  go_loopg [3, 4] l.length (fun g v y wr => ∃ (i : Nat) (M : List Rt) (ao2 : Option Addr) (cap2 : Nat), v = .slice ao2 M.length cap2 ∧ y = .int .i64 i ∧ g + i = l.length ∧ M.length ≤ i ∧
    wr.ownsRow w.heap.size 78 2 (.slice ao2 M.length cap2) M.length (rc M) ∧ Below w.heap.size w wr ∧ Hid (M = ordR (l.take i)))
  case atStart => exact ⟨0, [], none, 0, rfl, rfl, by omega, by simp, World.ownsRow_nil _ _ _ _, Below.refl _ _, rfl⟩
  case round =>
    obtain ⟨i, M, ao2, cap2, rfl, rfl, hgi, hMl, hownM, hbel, HM⟩ := hrel
    by_cases hlt : i < l.length
    · obtain ⟨g, rfl, hg1, hg2, hg3, hg4⟩ := own_some hown (by omega)
      unfold maxLen at hg4
      obtain ⟨c0, c1⟩ := row_cells hown hg2 hbel hlt
      have hlen := layR_length M l[i]
      have HO : Hid (layR M l[i] = ordR (l.take (i + 1))) := by unfold Hid; rw [ordR_take l i hlt, HM.out]
      go_wp2_with fail
      refine (layRoute_any M l[i] ao2 cap2 _ _ (by omega) hownM).mono ?_
      rintro e w1 ⟨ao3, cap3, rfl, hown3, hb1⟩
      go_wp2_with fail
      go_roundg (gk - 1)
      case measure => omega
      case rel => exact ⟨i + 1, layR M l[i], ao3, cap3, rfl, int_eq (by omega), by omega, by omega, own_base hown3 hbel.size, hbel.trans (hb1.mono hbel.size), HO.out⟩
    · go_wp2_with fail
      go_ret
      have hh := HM.out
      rw [List.take_of_length_le (by omega)] at hh
      rw [← hh]
      exact ⟨ao2, cap2, rfl, hownM, hbel⟩

/-- P4's answer. -/
def pText (s : ByteArray) (W : Int) : ByteArray := textB (ordR (tRts s W))

theorem tRts_err {s : ByteArray} {W : Int} (h : tErr s W ≠ 0) : tRts s W = [] := by
  by_cases h1 : 400 < s.size
  · exact (t_long h1).1
  by_cases h2 : W < 1 ∨ 12 < W
  · exact (t_arg (by omega) h2).1
  obtain ⟨k, rfl⟩ := Int.eq_ofNat_of_zero_le (show 0 ≤ W by omega)
  cases ht : table s k with
  | mk o q =>
    cases o with
    | none => exact (t_bad (by omega) (by omega) (by omega) ht).1
    | some l =>
      by_cases hl : 24 < l.length
      · exact (t_many (by omega) (by omega) (by omega) ht hl).1
      · exact absurd (t_ok (by omega) (by omega) (by omega) ht hl).2.1 h
theorem pText_err {s : ByteArray} {W : Int} (h : tErr s W ≠ 0) : pText s W = ⟨#[]⟩ := by unfold pText; rw [tRts_err h]; rfl

theorem print_any (s : ByteArray) (W : Int) (w : World) (hm : s.size ≤ maxLen) (hE : Env w) :
    Calls Tryd.prog 24 #[.string s, .int .i64 W] w fun e w' => e = .returned (.tuple #[.string (pText s W), .int .i64 (tErr s W)]) ∧ Below w.heap.size w w' := by
  by_cases he : tErr s W = 0
  · obtain ⟨hs, hW1, hW2, hlen⟩ := t_zero he
    have hEr : ((tErr s W : Int) != 0) = false := by rw [bne_eq_false_iff_eq]; omega
    have hol := ordR_length (tRts s W)
    have HF : Hid (∀ r ∈ ordR (tRts s W), Fit r) := ordR_fit (tRts_fit s W)
    have HZ : Hid (tErr s W = 0) := he
    clear he
    go_enter Tryd.func24, Tryd.ntmps24
    go_wp2_with fail
    refine (readTable_any s W _ hm).mono ?_
    rintro e w1 ⟨ao, cap, rfl, hown, hb1⟩
    go_wp2_with fail
    refine (orderRoutes_any (tRts s W) ao cap _ _ (by omega) hown).mono ?_
    rintro e w2 ⟨ao2, cap2, rfl, hown2, hb2⟩
    go_wp2_with fail
    have hz1 := hb1.size
    have hz2 := hb2.size
    refine (printRoutes_any (ordR (tRts s W)) ao2 cap2 _ _ (by omega) HF.out ((hE.later hb1).later hb2) hown2).mono ?_
    rintro e w3 ⟨rfl, hb3⟩
    go_wp2_with fail
    go_ret2
    rw [HZ.out]
    exact ⟨rfl, (hb1.trans (hb2.mono (by omega))).trans (hb3.mono (by omega))⟩
  · rw [pText_err he]
    have hEr : ((tErr s W : Int) != 0) = true := by rw [bne_iff_ne]; omega
    clear he
    go_enter Tryd.func24, Tryd.ntmps24
    go_wp2_with fail
    refine (readTable_any s W _ hm).mono ?_
    rintro e w1 ⟨ao, cap, rfl, hown, hb1⟩
    go_wp2_with fail
    go_ret2
    exact ⟨rfl, hb1⟩
end Go.Proofs.YtdfnmpmmkcpddaaDoor
