/- The walks of package fib's reader: a table. -/
import Derived.Test.YtdfnmpmmkcpddaaDoorWalkB
namespace Go.Proofs.YtdfnmpmmkcpddaaDoor
open Go.RowKit

theorem Tryd.infoRoute : (Tryd.prog.info? 78).map (fun i => (i.zero, i.size, i.bytes)) = some (some (.agg #[.string ⟨#[]⟩, .int .i64 0]), 2, 24) := by kernel_rfl

theorem readTable_long (s : ByteArray) (W : Int) (w : World) (hm : s.size ≤ maxLen) (h : 400 < s.size) :
    Calls Tryd.prog 37 #[.string s, .int .i64 W] w fun e w' => e = .returned (.tuple #[.slice none 0 0, .int .i64 1, .int .i64 0]) ∧ w' = w := by
  unfold maxLen at hm
  go_enter Tryd.func37, Tryd.ntmps37
  go_wp2_with fail
  go_ret3
  exact ⟨rfl, rfl⟩
theorem readTable_arg (s : ByteArray) (W : Int) (w : World) (hs : s.size ≤ 400) (h : W < 1 ∨ 12 < W) :
    Calls Tryd.prog 37 #[.string s, .int .i64 W] w fun e w' => e = .returned (.tuple #[.slice none 0 0, .int .i64 2, .int .i64 0]) ∧ w' = w := by
  rcases h with h | h
  · go_enter Tryd.func37, Tryd.ntmps37
    go_wp2_with fail
    go_ret3
    exact ⟨rfl, rfl⟩
  · go_enter Tryd.func37, Tryd.ntmps37
    go_wp2_with fail
    go_ret3
    exact ⟨rfl, rfl⟩

set_option maxRecDepth 100000 in
theorem readTable_walk (s : ByteArray) (W : Nat) (w : World) (hs : s.size ≤ 400) (hW1 : 1 ≤ W) (hW : W ≤ 12) :
    Calls Tryd.prog 37 #[.string s, .int .i64 W] w fun e w' => ∃ ao cap, e = .returned (.tuple #[.slice ao (tRts s W).length cap, .int .i64 (tErr s W), .int .i64 (tAt s W)]) ∧
      w'.ownsRow w.heap.size 78 2 (.slice ao (tRts s W).length cap) (tRts s W).length (rc (tRts s W)) ∧ Below w.heap.size w w' := by
  obtain ⟨i0, hi, hz0, hz1, hz2⟩ := info_parts Tryd.infoRoute
  go_enter Tryd.func37, Tryd.ntmps37
  go_wp2_with fail
  go_loopw [7, 8] (fun v a wr => ∃ (p : Nat) (acc : List Rt) (ao : Option Addr) (cap f : Nat), a = .int .i64 p ∧ v = .slice ao acc.length cap ∧ p ≤ s.size ∧ acc.length ≤ p ∧
      wr.ownsRow w.heap.size 78 2 (.slice ao acc.length cap) acc.length (rc acc) ∧ Below w.heap.size w wr ∧ Hid (s.size < f + p ∧ parse s W f p acc = table s W)) (fun _ a _ => s.size - (intOf a).toNat)
  case atStart => exact ⟨0, [], none, 0, s.size + 1, rfl, rfl, by omega, by simp, World.ownsRow_nil _ _ _ _, Below.refl _ _, by unfold Hid; exact ⟨by omega, rfl⟩⟩
  case round =>
    obtain ⟨p, acc, ao, cap, f, rfl, rfl, hp, hacc, hown, hbel, HP⟩ := hrel
    by_cases hlt : p < s.size
    · cases hbad : lBad s W p with
      | true =>
        have HB : Hid (lBad s W p = true) := hbad
        clear hbad
        go_wp2_with fail
        refine (readLine_no s W p _ hs hp hW HB).mono ?_
        rintro e w1 ⟨rfl, hb1⟩
        go_wp2_with fail
        go_ret3
        have hpb := (parse_bad HP.out.1 hlt HB).symm.trans HP.out.2
        obtain ⟨e1, e2, e3⟩ := t_bad hs hW1 hW hpb.symm
        rw [e1, e2, e3]
        exact ⟨none, 0, ret3 rfl rfl rfl, World.ownsRow_nil _ _ _ _, (hbel.trans (hb1.mono hbel.size)).alloc (by have := hbel.size; have := hb1.size; omega) _⟩
      | false =>
        have HB : Hid (lBad s W p = false) := hbad
        clear hbad
        go_wp2_with fail
        refine (readLine_yes s W p _ hs hp hW HB).mono ?_
        rintro e w1 ⟨rfl, hb1⟩
        have hz1' := hbel.size
        have hz2' := hb1.size
        have hat := lAt_lt s W p HB
        go_wp2_with (at_builtin; refine wpList_append_own _ rfl (.tmp 36) (.tmp 38) 46 rfl w.heap.size 78 i0 _ 2 24 Tryd.underlying46 hi hz0 hz1 hz2 rfl (by decide) _ _ _ rfl (((own_below hown hb1).alloc _).alloc _) ⟨w1.heap.size + 1, 0, none⟩ 1 1 [.string (lRt s W p).bits, .int .i64 (lRt s W p).hop] rfl rfl ?c1 ?c2 ?c3 ?c4 ?c5 ?_)
        case c1 =>
          intro j u hj
          match j, hj with
          | 0, hj => simp at hj; subst hj; simp [Addr.add]
          | 1, hj => simp at hj; subst hj; simp [Addr.add]
        case c2 => intro u hu; simp at hu; rcases hu with rfl | rfl <;> rfl
        case c3 => unfold maxLen; omega
        case c4 => omega
        case c5 => simp; omega
        intro v' w2 hown2 hgrow _
        obtain ⟨ao2, cap2, rfl⟩ := own_shape hown2
        have hstep := parse_step HP.out.1 hlt HB (acc := acc)
        go_wp2_with fail
        go_roundw
        case rel =>
          obtain ⟨f', hf', hpar⟩ := hstep
          refine ⟨lAt s W p + 1, acc ++ [lRt s W p], ao2, cap2, f', int_eq (by omega), by rw [List.length_append]; rfl, by omega, by rw [List.length_append]; simp only [List.length_cons, List.length_nil]; omega, ?_, ?_, ?_⟩
          · rw [List.length_append, rc_snoc]; exact hown2
          · refine (((hbel.trans (hb1.mono hz1')).alloc (by omega) _).alloc (by simp; omega) _).grown hgrow (by simp; omega) ?_
            intro k hk
            exact (hown.lt k hk).1
          · exact ⟨hf', hpar.symm.trans HP.out.2⟩
        case measure => simp [intOf]; omega
    · have hd := (parse_done HP.out.1 (by omega)).symm.trans HP.out.2
      have HD : Hid (table s W = (some acc, 0)) := hd.symm
      clear hd
      by_cases hmany : 24 < acc.length
      · go_wp2_with fail
        go_ret3
        obtain ⟨e1, e2, e3⟩ := t_many hs hW1 hW HD hmany
        rw [e1, e2, e3]
        exact ⟨none, 0, ret3 rfl rfl rfl, World.ownsRow_nil _ _ _ _, hbel⟩
      · go_wp2_with fail
        go_ret3
        obtain ⟨e1, e2, e3⟩ := t_ok hs hW1 hW HD hmany
        rw [e1, e2, e3]
        exact ⟨ao, cap, ret3 rfl rfl rfl, hown, hbel⟩

theorem readTable_any (s : ByteArray) (W : Int) (w : World) (hm : s.size ≤ maxLen) :
    Calls Tryd.prog 37 #[.string s, .int .i64 W] w fun e w' => ∃ ao cap, e = .returned (.tuple #[.slice ao (tRts s W).length cap, .int .i64 (tErr s W), .int .i64 (tAt s W)]) ∧
      w'.ownsRow w.heap.size 78 2 (.slice ao (tRts s W).length cap) (tRts s W).length (rc (tRts s W)) ∧ Below w.heap.size w w' := by
  by_cases h1 : 400 < s.size
  · obtain ⟨e1, e2, e3⟩ := t_long (W := W) h1
    rw [e1, e2, e3]
    refine (readTable_long s W w hm h1).mono ?_
    rintro e w1 ⟨rfl, rfl⟩
    exact ⟨none, 0, rfl, World.ownsRow_nil _ _ _ _, Below.refl _ _⟩
  by_cases h2 : W < 1 ∨ 12 < W
  · obtain ⟨e1, e2, e3⟩ := t_arg (s := s) (by omega) h2
    rw [e1, e2, e3]
    refine (readTable_arg s W w (by omega) h2).mono ?_
    rintro e w1 ⟨rfl, rfl⟩
    exact ⟨none, 0, rfl, World.ownsRow_nil _ _ _ _, Below.refl _ _⟩
  obtain ⟨k, rfl⟩ := Int.eq_ofNat_of_zero_le (show 0 ≤ W by omega)
  exact readTable_walk s k w (by omega) (by omega) (by omega)
end Go.Proofs.YtdfnmpmmkcpddaaDoor
