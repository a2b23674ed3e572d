/- The walks of Print: the routes in order. -/
import Derived.Test.YtdfnmpmmkcpddaaDoorWalkP
namespace Go.Proofs.YtdfnmpmmkcpddaaDoor
open Go.RowKit

theorem cell_new2 (w : World) (a b : Value) (t : TypeId) (k : Nat) (hk : k = w.heap.size) : (w.alloc (.cells #[a, b] t)).cell? ⟨k, 0, none⟩ = some a ∧ (w.alloc (.cells #[a, b] t)).cell? ⟨k, 1, none⟩ = some b := by
  subst hk; simp
theorem own_drewN {w : World} {base : Nat} {e : TypeId} {size : Nat} {v : Value} {n : Nat} {xs : List Value} (h : w.ownsRow base e size v n xs) {k : Nat} : (w.drewN k).ownsRow base e size v n xs := h
theorem below_w {w w0 wr : World} {o : Obj} (h0 : w0 = w.alloc o) (h : Below (w.heap.size + 1) w0 wr) : Below w.heap.size w wr := by
  subst h0
  exact ((Below.refl _ _).alloc (Nat.le_refl _) o).trans (h.mono (by omega))

set_option maxRecDepth 100000 in
set_option maxHeartbeats 2000000 in
theorem layRoute_any (l : List Rt) (x : Rt) (ao : Option Addr) (cap base : Nat) (w : World) (hl : l.length ≤ 400) (hown : w.ownsRow base 78 2 (.slice ao l.length cap) l.length (rc l)) :
    Calls Tryd.prog 61 #[.slice ao l.length cap, .agg #[.string x.bits, .int .i64 x.hop]] w fun e w' => ∃ ao' cap', e = .returned (.slice ao' (layR l x).length cap') ∧
      w'.ownsRow w.heap.size 78 2 (.slice ao' (layR l x).length cap') (layR l x).length (rc (layR l x)) ∧ Below w.heap.size w w' := by
  obtain ⟨i0, hi, hz0, hz1, hz2⟩ := info_parts Tryd.infoRoute
  go_enter Tryd.func61, Tryd.ntmps61
  go_wp2_with fail
  obtain ⟨w0, hw0⟩ : ∃ w0, w0 = w.alloc (.cells #[.string x.bits, .int .i64 x.hop] 78) := ⟨_, rfl⟩
  have HW0 : Hid (w0 = w.alloc (.cells #[.string x.bits, .int .i64 x.hop] 78)) := hw0
  have hz00 : w0.heap.size = w.heap.size + 1 := by rw [hw0]; simp
  have b0 : w0.cell? ⟨w.heap.size, 0, none⟩ = some (.string x.bits) := by rw [hw0]; simp
  have b1 : w0.cell? ⟨w.heap.size, 1, none⟩ = some (.int .i64 x.hop) := by rw [hw0]; simp
  go_loopg [5, 6] l.length (fun g v y wr => ∃ (i : Nat) (ao2 : Option Addr) (cap2 : Nat), v = .slice ao2 i cap2 ∧ y = .int .i64 i ∧ i ≤ l.length ∧ g + i = l.length ∧
    wr.ownsRow (w.heap.size + 1) 78 2 (.slice ao2 i cap2) i (rc (l.take i)) ∧ Below (w.heap.size + 1) w0 wr ∧ Hid (layR l x = l.take i ++ layR (l.drop i) x))
  case atStart =>
    refine ⟨0, none, 0, rfl, rfl, by omega, by omega, World.ownsRow_nil _ _ _ _, ?_, rfl⟩
    rw [hw0]; exact Below.refl _ _
  case round =>
    clear hw0
    obtain ⟨i, ao2, cap2, rfl, rfl, hil, hgi, hownT, hbel, HL⟩ := hrel
    have hsz := hbel.size
    have d0 : wr.cell? ⟨w.heap.size, 0, none⟩ = some (.string x.bits) := (hbel.cell (p := ⟨w.heap.size, 0, none⟩) (by simp)).trans b0
    have d1 : wr.cell? ⟨w.heap.size, 1, none⟩ = some (.int .i64 x.hop) := (hbel.cell (p := ⟨w.heap.size, 1, none⟩) (by simp)).trans b1
    by_cases hlt : i < l.length
    · obtain ⟨g, rfl, hg1, hg2, hg3, hg4⟩ := own_some hown (by omega)
      unfold maxLen at hg4
      have hw0 := HW0.out
      obtain ⟨c0, c1⟩ := row_cells hown hg2 (below_w hw0 hbel) hlt
      clear hw0
      cases hc : lt l[i].bits x.bits with
      | true =>
        have HC : Hid (lt l[i].bits x.bits = true) := hc
        have hcb : Op.bytesLess l[i].bits.toList x.bits.toList = true := hc
        clear hc
        go_wp2_with fail
        go_quiet (fail)
        go_wp2_with (at_builtin; refine wpList_append_own _ rfl (.tmp 21) (.tmp 26) 46 rfl (w.heap.size + 1) 78 i0 _ 2 24 Tryd.underlying46 hi hz0 hz1 hz2 rfl (by decide) _ _ _ rfl ((own_drewN hownT).alloc _) ⟨wr.heap.size, 0, none⟩ 1 1 [.string l[i].bits, .int .i64 l[i].hop] rfl rfl ?a1 ?a2 ?a3 ?a4 ?a5 ?_)
        case a1 =>
          intro j u hj
          match j, hj with
          | 0, hj => simp at hj; subst hj; exact (cell_new2 _ _ _ _ _ rfl).1
          | 1, hj => simp at hj; subst hj; exact (cell_new2 _ _ _ _ _ rfl).2
        case a2 => intro u hu; simp at hu; rcases hu with rfl | rfl <;> rfl
        case a3 => unfold maxLen; omega
        case a4 => omega
        case a5 => simp; omega
        intro v' w2 hown2 hgrow _
        obtain ⟨ao4, cap4, rfl⟩ := own_shape hown2
        have hb2 : Below (w.heap.size + 1) w0 w2 := ((below_drewN hbel _).alloc (by simp; omega) _).grown hgrow (by simp; omega) (fun k hk => (hownT.lt k hk).1)
        clear hgrow
        go_wp2_with fail
        go_roundg (gk - 1)
        case measure => omega
        case rel =>
          refine ⟨i + 1, ao4, cap4, rfl, int_eq (by omega), by omega, by omega, ?_, hb2, ?_⟩
          · rw [List.take_succ_eq_append_getElem hlt, rc_snoc]; exact hown2
          · unfold Hid; rw [HL.out, layR_drop hlt HC.out, List.take_succ_eq_append_getElem hlt, List.append_assoc]; rfl
      | false =>
        have HC : Hid (lt l[i].bits x.bits = false) := hc
        have hcb : Op.bytesLess l[i].bits.toList x.bits.toList = false := hc
        clear hc
        by_cases he : l[i].bits = x.bits
        · have hel : Hid (layR l x = (l.take i ++ [x]) ++ l.drop (i + 1)) := by unfold Hid; rw [HL.out, layR_eq hlt HC.out he]; simp
          have heb := ba_eq he
          have HE : Hid (l[i].bits = x.bits) := he
          clear he
          go_wp2_with fail
          go_quiet (fail)
          go_wp2_with (at_builtin; refine wpList_append_own _ rfl (.tmp 30) (.tmp 32) 46 rfl (w.heap.size + 1) 78 i0 _ 2 24 Tryd.underlying46 hi hz0 hz1 hz2 rfl (by decide) _ _ _ rfl ((own_drewN hownT).alloc _) ⟨wr.heap.size, 0, none⟩ 1 1 [.string x.bits, .int .i64 x.hop] rfl rfl ?b1 ?b2 ?b3 ?b4 ?b5 ?_)
          case b1 =>
            intro j u hj
            match j, hj with
            | 0, hj => simp at hj; subst hj; exact (cell_new2 _ _ _ _ _ rfl).1
            | 1, hj => simp at hj; subst hj; exact (cell_new2 _ _ _ _ _ rfl).2
          case b2 => intro u hu; simp at hu; rcases hu with rfl | rfl <;> rfl
          case b3 => unfold maxLen; omega
          case b4 => omega
          case b5 => simp; omega
          intro v' w2 hown2 hgrow _
          obtain ⟨ao4, cap4, rfl⟩ := own_shape hown2
          have hb2 : Below (w.heap.size + 1) w0 w2 := ((below_drewN hbel _).alloc (by simp; omega) _).grown hgrow (by simp; omega) (fun k hk => (hownT.lt k hk).1)
          have f0 : w2.cell? ⟨w.heap.size, 0, none⟩ = some (.string x.bits) := (hb2.cell (p := ⟨w.heap.size, 0, none⟩) (by simp)).trans b0
          have hw0 := HW0.out
          obtain ⟨e0, e1⟩ := row_cells hown hg2 (below_w hw0 hb2) hlt
          clear hgrow hw0
          go_wp2_with fail
          go_quiet (fail)
          go_wp2_with fail
          go_loopg [5, 6] (l.length - (i + 1)) (fun g v y wr => ∃ (j : Nat) (M : List Rt) (ao3 : Option Addr) (cap3 : Nat), v = .slice ao3 M.length cap3 ∧ y = .int .i64 j ∧ j ≤ l.length ∧ g + j = l.length ∧ M.length ≤ j + 1 ∧
            wr.ownsRow (w.heap.size + 1) 78 2 (.slice ao3 M.length cap3) M.length (rc M) ∧ Below (w.heap.size + 1) w0 wr ∧ Hid (M ++ l.drop j = layR l x))
          case atStart => exact ⟨i + 1, l.take i ++ [x], ao4, cap4, by rw [List.length_append, List.length_take, Nat.min_eq_left hil]; rfl, int_eq (by omega), by omega, by omega, by rw [List.length_append, List.length_take, Nat.min_eq_left hil]; simp, by rw [List.length_append, List.length_take, Nat.min_eq_left hil, rc_snoc]; exact own_drewN hown2, below_drewN hb2 _, hel.out.symm⟩
          case round =>
            obtain ⟨j, M, ao3, cap3, rfl, rfl, hjl, hgj, hMl, hownM, hbelM, HM⟩ := hrel
            by_cases hjt : j < l.length
            · have hszM := hbelM.size
              have hw0 := HW0.out
              obtain ⟨c0, c1⟩ := row_cells hown hg2 (below_w hw0 hbelM) hjt
              clear hw0
              go_wp2_with (at_builtin; refine wpList_append_own _ rfl (.tmp 54) (.tmp 59) 46 rfl (w.heap.size + 1) 78 i0 _ 2 24 Tryd.underlying46 hi hz0 hz1 hz2 rfl (by decide) _ _ _ rfl (hownM.alloc _) ⟨wr.heap.size, 0, none⟩ 1 1 [.string l[j].bits, .int .i64 l[j].hop] rfl rfl ?be1 ?be2 ?be3 ?be4 ?be5 ?_)
              case be1 =>
                intro j u hj
                match j, hj with
                | 0, hj => simp at hj; subst hj; exact (cell_new2 _ _ _ _ _ rfl).1
                | 1, hj => simp at hj; subst hj; exact (cell_new2 _ _ _ _ _ rfl).2
              case be2 => intro u hu; simp at hu; rcases hu with rfl | rfl <;> rfl
              case be3 => unfold maxLen; omega
              case be4 => omega
              case be5 => simp; omega
              intro v' w2 hown2 hgrow _
              obtain ⟨ao4, cap4, rfl⟩ := own_shape hown2
              have HD : Hid (l.drop j = l[j] :: l.drop (j + 1)) := List.drop_eq_getElem_cons hjt
              have hb2 : Below (w.heap.size + 1) w0 w2 := (hbelM.alloc (by omega) _).grown hgrow (by simp; omega) (fun k hk => (hownM.lt k hk).1)
              clear hgrow
              go_wp2_with fail
              go_roundg (gk - 1)
              case measure => omega
              case rel =>
                refine ⟨j + 1, M ++ [l[j]], ao4, cap4, by rw [List.length_append]; rfl, int_eq (by omega), by omega, by omega, by rw [List.length_append]; simp only [List.length_cons, List.length_nil]; omega, ?_, hb2, ?_⟩
                · rw [List.length_append, rc_snoc]; exact hown2
                · unfold Hid; rw [← HM.out, HD.out]; simp
            · go_wp2_with fail
              go_ret
              have hh := HM.out
              rw [List.drop_of_length_le (by omega), List.append_nil] at hh
              rw [← hh]
              exact ⟨ao3, cap3, rfl, own_base hownM (by omega), below_w HW0.out hbelM⟩
        · have hel : Hid (layR l x = (l.take i ++ [x]) ++ l.drop i) := by unfold Hid; rw [HL.out, layR_ne hlt HC.out he]; simp
          have heb := ba_ne he
          clear he
          go_wp2_with fail
          go_quiet (fail)
          go_wp2_with (at_builtin; refine wpList_append_own _ rfl (.tmp 30) (.tmp 32) 46 rfl (w.heap.size + 1) 78 i0 _ 2 24 Tryd.underlying46 hi hz0 hz1 hz2 rfl (by decide) _ _ _ rfl ((own_drewN hownT).alloc _) ⟨wr.heap.size, 0, none⟩ 1 1 [.string x.bits, .int .i64 x.hop] rfl rfl ?c1 ?c2 ?c3 ?c4 ?c5 ?_)
          case c1 =>
            intro j u hj
            match j, hj with
            | 0, hj => simp at hj; subst hj; exact (cell_new2 _ _ _ _ _ rfl).1
            | 1, hj => simp at hj; subst hj; exact (cell_new2 _ _ _ _ _ rfl).2
          case c2 => intro u hu; simp at hu; rcases hu with rfl | rfl <;> rfl
          case c3 => unfold maxLen; omega
          case c4 => omega
          case c5 => simp; omega
          intro v' w2 hown2 hgrow _
          obtain ⟨ao4, cap4, rfl⟩ := own_shape hown2
          have hb2 : Below (w.heap.size + 1) w0 w2 := ((below_drewN hbel _).alloc (by simp; omega) _).grown hgrow (by simp; omega) (fun k hk => (hownT.lt k hk).1)
          have f0 : w2.cell? ⟨w.heap.size, 0, none⟩ = some (.string x.bits) := (hb2.cell (p := ⟨w.heap.size, 0, none⟩) (by simp)).trans b0
          have hw0 := HW0.out
          obtain ⟨e0, e1⟩ := row_cells hown hg2 (below_w hw0 hb2) hlt
          clear hgrow hw0
          go_wp2_with fail
          go_quiet (fail)
          go_wp2_with fail
          go_loopg [5, 6] (l.length - i) (fun g v y wr => ∃ (j : Nat) (M : List Rt) (ao3 : Option Addr) (cap3 : Nat), v = .slice ao3 M.length cap3 ∧ y = .int .i64 j ∧ j ≤ l.length ∧ g + j = l.length ∧ M.length ≤ j + 1 ∧
            wr.ownsRow (w.heap.size + 1) 78 2 (.slice ao3 M.length cap3) M.length (rc M) ∧ Below (w.heap.size + 1) w0 wr ∧ Hid (M ++ l.drop j = layR l x))
          case atStart => exact ⟨i, l.take i ++ [x], ao4, cap4, by rw [List.length_append, List.length_take, Nat.min_eq_left hil]; rfl, rfl, by omega, by omega, by rw [List.length_append, List.length_take, Nat.min_eq_left hil]; simp, by rw [List.length_append, List.length_take, Nat.min_eq_left hil, rc_snoc]; exact own_drewN hown2, below_drewN hb2 _, hel.out.symm⟩
          case round =>
            obtain ⟨j, M, ao3, cap3, rfl, rfl, hjl, hgj, hMl, hownM, hbelM, HM⟩ := hrel
            by_cases hjt : j < l.length
            · have hszM := hbelM.size
              have hw0 := HW0.out
              obtain ⟨c0, c1⟩ := row_cells hown hg2 (below_w hw0 hbelM) hjt
              clear hw0
              go_wp2_with (at_builtin; refine wpList_append_own _ rfl (.tmp 54) (.tmp 59) 46 rfl (w.heap.size + 1) 78 i0 _ 2 24 Tryd.underlying46 hi hz0 hz1 hz2 rfl (by decide) _ _ _ rfl (hownM.alloc _) ⟨wr.heap.size, 0, none⟩ 1 1 [.string l[j].bits, .int .i64 l[j].hop] rfl rfl ?ce1 ?ce2 ?ce3 ?ce4 ?ce5 ?_)
              case ce1 =>
                intro j u hj
                match j, hj with
                | 0, hj => simp at hj; subst hj; exact (cell_new2 _ _ _ _ _ rfl).1
                | 1, hj => simp at hj; subst hj; exact (cell_new2 _ _ _ _ _ rfl).2
              case ce2 => intro u hu; simp at hu; rcases hu with rfl | rfl <;> rfl
              case ce3 => unfold maxLen; omega
              case ce4 => omega
              case ce5 => simp; omega
              intro v' w2 hown2 hgrow _
              obtain ⟨ao4, cap4, rfl⟩ := own_shape hown2
              have HD : Hid (l.drop j = l[j] :: l.drop (j + 1)) := List.drop_eq_getElem_cons hjt
              have hb2 : Below (w.heap.size + 1) w0 w2 := (hbelM.alloc (by omega) _).grown hgrow (by simp; omega) (fun k hk => (hownM.lt k hk).1)
              clear hgrow
              go_wp2_with fail
              go_roundg (gk - 1)
              case measure => omega
              case rel =>
                refine ⟨j + 1, M ++ [l[j]], ao4, cap4, by rw [List.length_append]; rfl, int_eq (by omega), by omega, by omega, by rw [List.length_append]; simp only [List.length_cons, List.length_nil]; omega, ?_, hb2, ?_⟩
                · rw [List.length_append, rc_snoc]; exact hown2
                · unfold Hid; rw [← HM.out, HD.out]; simp
            · go_wp2_with fail
              go_ret
              have hh := HM.out
              rw [List.drop_of_length_le (by omega), List.append_nil] at hh
              rw [← hh]
              exact ⟨ao3, cap3, rfl, own_base hownM (by omega), below_w HW0.out hbelM⟩
    · have hel : Hid (layR l x = (l.take i ++ [x]) ++ l.drop i) := by unfold Hid; rw [HL.out, layR_end (by omega)]; simp
      have hdl : decide ((i : Int) < (l.length : Int)) = false := by rw [decide_eq_false_iff_not]; omega
      go_wp2_with fail
      go_quiet (fail)
      go_wp2_with (at_builtin; refine wpList_append_own _ rfl (.tmp 30) (.tmp 32) 46 rfl (w.heap.size + 1) 78 i0 _ 2 24 Tryd.underlying46 hi hz0 hz1 hz2 rfl (by decide) _ _ _ rfl ((own_drewN hownT).alloc _) ⟨wr.heap.size, 0, none⟩ 1 1 [.string x.bits, .int .i64 x.hop] rfl rfl ?d1 ?d2 ?d3 ?d4 ?d5 ?_)
      case d1 =>
        intro j u hj
        match j, hj with
        | 0, hj => simp at hj; subst hj; exact (cell_new2 _ _ _ _ _ rfl).1
        | 1, hj => simp at hj; subst hj; exact (cell_new2 _ _ _ _ _ rfl).2
      case d2 => intro u hu; simp at hu; rcases hu with rfl | rfl <;> rfl
      case d3 => unfold maxLen; omega
      case d4 => omega
      case d5 => simp; omega
      intro v' w2 hown2 hgrow _
      obtain ⟨ao4, cap4, rfl⟩ := own_shape hown2
      have hb2 : Below (w.heap.size + 1) w0 w2 := ((below_drewN hbel _).alloc (by simp; omega) _).grown hgrow (by simp; omega) (fun k hk => (hownT.lt k hk).1)
      clear hgrow
      go_wp2_with fail
      go_quiet (fail)
      go_wp2_with fail
      go_loopg [5, 6] (l.length - i) (fun g v y wr => ∃ (j : Nat) (M : List Rt) (ao3 : Option Addr) (cap3 : Nat), v = .slice ao3 M.length cap3 ∧ y = .int .i64 j ∧ j ≤ l.length ∧ g + j = l.length ∧ M.length ≤ j + 1 ∧
        wr.ownsRow (w.heap.size + 1) 78 2 (.slice ao3 M.length cap3) M.length (rc M) ∧ Below (w.heap.size + 1) w0 wr ∧ Hid (M ++ l.drop j = layR l x))
      case atStart => exact ⟨i, l.take i ++ [x], ao4, cap4, by rw [List.length_append, List.length_take, Nat.min_eq_left hil]; rfl, rfl, by omega, by omega, by rw [List.length_append, List.length_take, Nat.min_eq_left hil]; simp, by rw [List.length_append, List.length_take, Nat.min_eq_left hil, rc_snoc]; exact own_drewN hown2, below_drewN hb2 _, hel.out.symm⟩
      case round =>
        obtain ⟨j, M, ao3, cap3, rfl, rfl, hjl, hgj, hMl, hownM, hbelM, HM⟩ := hrel
        by_cases hjt : j < l.length
        · obtain ⟨g, rfl, hg1, hg2, hg3, hg4⟩ := own_some hown (by omega)
          unfold maxLen at hg4
          have hszM := hbelM.size
          have hw0 := HW0.out
          obtain ⟨c0, c1⟩ := row_cells hown hg2 (below_w hw0 hbelM) hjt
          clear hw0
          go_wp2_with (at_builtin; refine wpList_append_own _ rfl (.tmp 54) (.tmp 59) 46 rfl (w.heap.size + 1) 78 i0 _ 2 24 Tryd.underlying46 hi hz0 hz1 hz2 rfl (by decide) _ _ _ rfl (hownM.alloc _) ⟨wr.heap.size, 0, none⟩ 1 1 [.string l[j].bits, .int .i64 l[j].hop] rfl rfl ?de1 ?de2 ?de3 ?de4 ?de5 ?_)
          case de1 =>
            intro j u hj
            match j, hj with
            | 0, hj => simp at hj; subst hj; exact (cell_new2 _ _ _ _ _ rfl).1
            | 1, hj => simp at hj; subst hj; exact (cell_new2 _ _ _ _ _ rfl).2
          case de2 => intro u hu; simp at hu; rcases hu with rfl | rfl <;> rfl
          case de3 => unfold maxLen; omega
          case de4 => omega
          case de5 => simp; omega
          intro v' w2 hown2 hgrow _
          obtain ⟨ao4, cap4, rfl⟩ := own_shape hown2
          have HD : Hid (l.drop j = l[j] :: l.drop (j + 1)) := List.drop_eq_getElem_cons hjt
          have hb2 : Below (w.heap.size + 1) w0 w2 := (hbelM.alloc (by omega) _).grown hgrow (by simp; omega) (fun k hk => (hownM.lt k hk).1)
          clear hgrow
          go_wp2_with fail
          go_roundg (gk - 1)
          case measure => omega
          case rel =>
            refine ⟨j + 1, M ++ [l[j]], ao4, cap4, by rw [List.length_append]; rfl, int_eq (by omega), by omega, by omega, by rw [List.length_append]; simp only [List.length_cons, List.length_nil]; omega, ?_, hb2, ?_⟩
            · rw [List.length_append, rc_snoc]; exact hown2
            · unfold Hid; rw [← HM.out, HD.out]; simp
        · go_wp2_with fail
          go_ret
          have hh := HM.out
          rw [List.drop_of_length_le (by omega), List.append_nil] at hh
          rw [← hh]
          exact ⟨ao3, cap3, rfl, own_base hownM (by omega), below_w HW0.out hbelM⟩
end Go.Proofs.YtdfnmpmmkcpddaaDoor
