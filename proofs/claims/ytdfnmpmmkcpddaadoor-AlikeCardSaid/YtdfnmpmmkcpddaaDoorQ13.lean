import Derived.Test.YtdfnmpmmkcpddaaDoorQ12
import Derived.Test.YtdfnmpmmkcpddaaDoorQ10
import Derived.Test.YtdfnmpmmkcpddaaDoorQ07
/- The walks of Print: the routes in order. -/
namespace Go.Proofs.YtdfnmpmmkcpddaaDoor
open Go.RowKit

theorem cell_new2 (w : World) (a b : Value) (t : TypeId) (k : Nat) (hk : k = w.heap.size) : (w.alloc (.cells #[a, b] t)).cell? ⟨k, 0, none⟩ = some a ∧ (w.alloc (.cells #[a, b] t)).cell? ⟨k, 1, none⟩ = some b := by
  subst hk; simp
theorem own_drewN {w : World} {base : Nat} {e : TypeId} {size : Nat} {v : Value} {n : Nat} {xs : List Value} (h : w.ownsRow base e size v n xs) {k : Nat} : (w.drewN k).ownsRow base e size v n xs := h
theorem below_w {w w0 wr : World} {o : Obj} (h0 : w0 = w.alloc o) (h : Below (w.heap.size + 1) w0 wr) : Below w.heap.size w wr := by
  subst h0
  exact ((Below.refl _ _).alloc (Nat.le_refl _) o).trans (h.mono (by omega))

set_option maxRecDepth 100000 in
set_option maxHeartbeats 2000000 in
theorem layRoute_any (l : List Rt) (x : Rt) (ao : Option Addr) (cap base : Nat) (w : World) (hl : l.length ≤ 400) (hown : w.ownsRow base 78 2 (.slice ao l.length cap) l.length (rc l)) :
    Calls Tryd.prog 61 #[.slice ao l.length cap, .agg #[.string x.bits, .int .i64 x.hop]] w fun e w' => ∃ ao' cap', e = .returned (.slice ao' (layR l x).length cap') ∧
      w'.ownsRow w.heap.size 78 2 (.slice ao' (layR l x).length cap') (layR l x).length (rc (layR l x)) ∧ Below w.heap.size w w' := by
  obtain ⟨i0, hi, hz0, hz1, hz2⟩ := info_parts Tryd.infoRoute
  go_enter Tryd.func61, Tryd.ntmps61
  go_wp2_with fail
  obtain ⟨w0, hw0⟩ : ∃ w0, w0 = w.alloc (.cells #[.string x.bits, .int .i64 x.hop] 78) := ⟨_, rfl⟩
  have HW0 : Hid (w0 = w.alloc (.cells #[.string x.bits, .int .i64 x.hop] 78)) := hw0
  have hz00 : w0.heap.size = w.heap.size + 1 := by rw [hw0]; simp
  have b0 : w0.cell? ⟨w.heap.size, 0, none⟩ = some (.string x.bits) := by rw [hw0]; simp
  have b1 : w0.cell? ⟨w.heap.size, 1, none⟩ = some (.int .i64 x.hop) := by rw [hw0]; simp
  go_loopg [5, 6] l.length (fun g v y wr => ∃ (i : Nat) (ao2 : Option Addr) (cap2 : Nat), v = .slice ao2 i cap2 ∧ y = .int .i64 i ∧ i ≤ l.length ∧ g + i = l.length ∧
    wr.ownsRow (w.heap.size + 1) 78 2 (.slice ao2 i cap2) i (rc (l.take i)) ∧ Below (w.heap.size + 1) w0 wr ∧ Hid (layR l x = l.take i ++ layR (l.drop i) x))
  case atStart =>
    refine ⟨0, none, 0, rfl, rfl, by omega, by omega, World.ownsRow_nil _ _ _ _, ?_, rfl⟩
    rw [hw0]; exact Below.refl _ _
  case round =>
    clear hw0
    obtain ⟨i, ao2, cap2, rfl, rfl, hil, hgi, hownT, hbel, HL⟩ := hrel
    have hsz := hbel.size
    have d0 : wr.cell? ⟨w.heap.size, 0, none⟩ = some (.string x.bits) := (hbel.cell (p := ⟨w.heap.size, 0, none⟩) (by simp)).trans b0
    have d1 : wr.cell? ⟨w.heap.size, 1, none⟩ = some (.int .i64 x.hop) := (hbel.cell (p := ⟨w.heap.size, 1, none⟩) (by simp)).trans b1
    by_cases hlt : i < l.length
    · obtain ⟨g, rfl, hg1, hg2, hg3, hg4⟩ := own_some hown (by omega)
      unfold maxLen at hg4
      have hw0 := HW0.out
      obtain ⟨c0, c1⟩ := row_cells hown hg2 (below_w hw0 hbel) hlt
      clear hw0
      cases hc : lt l[i].bits x.bits with
      | true =>
        have HC : Hid (lt l[i].bits x.bits = true) := hc
        have hcb : Op.bytesLess l[i].bits.toList x.bits.toList = true := hc
        clear hc
        go_wp2_with fail
        go_quiet (fail)
        go_wp2_with (at_builtin; refine wpList_append_own _ rfl (.tmp 21) (.tmp 26) 46 rfl (w.heap.size + 1) 78 i0 _ 2 24 Tryd.underlying46 hi hz0 hz1 hz2 rfl (by decide) _ _ _ rfl ((own_drewN hownT).alloc _) ⟨wr.heap.size, 0, none⟩ 1 1 [.string l[i].bits, .int .i64 l[i].hop] rfl rfl ?a1 ?a2 ?a3 ?a4 ?a5 ?_)
        case a1 =>
          intro j u hj
          match j, hj with
          | 0, hj => simp at hj; subst hj; exact (cell_new2 _ _ _ _ _ rfl).1
          | 1, hj => simp at hj; subst hj; exact (cell_new2 _ _ _ _ _ rfl).2
        case a2 => intro u hu; simp at hu; rcases hu with rfl | rfl <;> rfl
        case a3 => unfold maxLen; omega
        case a4 => omega
        case a5 => simp; omega
        intro v' w2 hown2 hgrow _
        obtain ⟨ao4, cap4, rfl⟩ := own_shape hown2
        have hb2 : Below (w.heap.size + 1) w0 w2 := ((below_drewN hbel _).alloc (by simp; omega) _).grown hgrow (by simp; omega) (fun k hk => (hownT.lt k hk).1)
        clear hgrow
        go_wp2_with fail
        go_roundg (gk - 1)
        case measure => omega
        case rel =>
          refine ⟨i + 1, ao4, cap4, rfl, int_eq (by omega), by omega, by omega, ?_, hb2, ?_⟩
          · rw [List.take_succ_eq_append_getElem hlt, rc_snoc]; exact hown2
          · unfold Hid; rw [HL.out, layR_drop hlt HC.out, List.take_succ_eq_append_getElem hlt, List.append_assoc]; rfl
      | false =>
        have HC : Hid (lt l[i].bits x.bits = false) := hc
        have hcb : Op.bytesLess l[i].bits.toList x.bits.toList = false := hc
        clear hc
        by_cases he : l[i].bits = x.bits
        · have hel : Hid (layR l x = (l.take i ++ [x]) ++ l.drop (i + 1)) := by unfold Hid; rw [HL.out, layR_eq hlt HC.out he]; simp
          have heb := ba_eq he
          have HE : Hid (l[i].bits = x.bits) := he
          clear he
          go_wp2_with fail
          go_quiet (fail)
          go_wp2_with (at_builtin; refine wpList_append_own _ rfl (.tmp 30) (.tmp 32) 46 rfl (w.heap.size + 1) 78 i0 _ 2 24 Tryd.underlying46 hi hz0 hz1 hz2 rfl (by decide) _ _ _ rfl ((own_drewN hownT).alloc _) ⟨wr.heap.size, 0, none⟩ 1 1 [.string x.bits, .int .i64 x.hop] rfl rfl ?b1 ?b2 ?b3 ?b4 ?b5 ?_)
          case b1 =>
            intro j u hj
            match j, hj with
            | 0, hj => simp at hj; subst hj; exact (cell_new2 _ _ _ _ _ rfl).1
            | 1, hj => simp at hj; subst hj; exact (cell_new2 _ _ _ _ _ rfl).2
          case b2 => intro u hu; simp at hu; rcases hu with rfl | rfl <;> rfl
          case b3 => unfold maxLen; omega
          case b4 => omega
          case b5 => simp; omega
          intro v' w2 hown2 hgrow _
          obtain ⟨ao4, cap4, rfl⟩ := own_shape hown2
          have hb2 : Below (w.heap.size + 1) w0 w2 := ((below_drewN hbel _).alloc (by simp; omega) _).grown hgrow (by simp; omega) (fun k hk => (hownT.lt k hk).1)
          have f0 : w2.cell? ⟨w.heap.size, 0, none⟩ = some (.string x.bits) := (hb2.cell (p := ⟨w.heap.size, 0, none⟩) (by simp)).trans b0
          have hw0 := HW0.out
          obtain ⟨e0, e1⟩ := row_cells hown hg2 (below_w hw0 hb2) hlt
          clear hgrow hw0
          go_wp2_with fail
          go_quiet (fail)
          go_wp2_with fail
          go_loopg [5, 6] (l.length - (i + 1)) (fun g v y wr => ∃ (j : Nat) (M : List Rt) (ao3 : Option Addr) (cap3 : Nat), v = .slice ao3 M.length cap3 ∧ y = .int .i64 j ∧ j ≤ l.length ∧ g + j = l.length ∧ M.length ≤ j + 1 ∧
            wr.ownsRow (w.heap.size + 1) 78 2 (.slice ao3 M.length cap3) M.length (rc M) ∧ Below (w.heap.size + 1) w0 wr ∧ Hid (M ++ l.drop j = layR l x))
          case atStart => exact ⟨i + 1, l.take i ++ [x], ao4, cap4, by rw [List.length_append, List.length_take, Nat.min_eq_left hil]; rfl, int_eq (by omega), by omega, by omega, by rw [List.length_append, List.length_take, Nat.min_eq_left hil]; simp, by rw [List.length_append, List.length_take, Nat.min_eq_left hil, rc_snoc]; exact own_drewN hown2, below_drewN hb2 _, hel.out.symm⟩
          case round =>
            obtain ⟨j, M, ao3, cap3, rfl, rfl, hjl, hgj, hMl, hownM, hbelM, HM⟩ := hrel
            by_cases hjt : j < l.length
            · have hszM := hbelM.size
              have hw0 := HW0.out
              obtain ⟨c0, c1⟩ := row_cells hown hg2 (below_w hw0 hbelM) hjt
              clear hw0
              go_wp2_with (at_builtin; refine wpList_append_own _ rfl (.tmp 54) (.tmp 59) 46 rfl (w.heap.size + 1) 78 i0 _ 2 24 Tryd.underlying46 hi hz0 hz1 hz2 rfl (by decide) _ _ _ rfl (hownM.alloc _) ⟨wr.heap.size, 0, none⟩ 1 1 [.string l[j].bits, .int .i64 l[j].hop] rfl rfl ?be1 ?be2 ?be3 ?be4 ?be5 ?_)
              case be1 =>
                intro j u hj
                match j, hj with
                | 0, hj => simp at hj; subst hj; exact (cell_new2 _ _ _ _ _ rfl).1
                | 1, hj => simp at hj; subst hj; exact (cell_new2 _ _ _ _ _ rfl).2
              case be2 => intro u hu; simp at hu; rcases hu with rfl | rfl <;> rfl
              case be3 => unfold maxLen; omega
              case be4 => omega
              case be5 => simp; omega
              intro v' w2 hown2 hgrow _
              obtain ⟨ao4, cap4, rfl⟩ := own_shape hown2
              have HD : Hid (l.drop j = l[j] :: l.drop (j + 1)) := List.drop_eq_getElem_cons hjt
              have hb2 : Below (w.heap.size + 1) w0 w2 := (hbelM.alloc (by omega) _).grown hgrow (by simp; omega) (fun k hk => (hownM.lt k hk).1)
              clear hgrow
              go_wp2_with fail
              go_roundg (gk - 1)
              case measure => omega
              case rel =>
                refine ⟨j + 1, M ++ [l[j]], ao4, cap4, by rw [List.length_append]; rfl, int_eq (by omega), by omega, by omega, by rw [List.length_append]; simp only [List.length_cons, List.length_nil]; omega, ?_, hb2, ?_⟩
                · rw [List.length_append, rc_snoc]; exact hown2
                · unfold Hid; rw [← HM.out, HD.out]; simp
            · go_wp2_with fail
              go_ret
              have hh := HM.out
              rw [List.drop_of_length_le (by omega), List.append_nil] at hh
              rw [← hh]
              exact ⟨ao3, cap3, rfl, own_base hownM (by omega), below_w HW0.out hbelM⟩
        · have hel : Hid (layR l x = (l.take i ++ [x]) ++ l.drop i) := by unfold Hid; rw [HL.out, layR_ne hlt HC.out he]; simp
          have heb := ba_ne he
          clear he
          go_wp2_with fail
          go_quiet (fail)
          go_wp2_with (at_builtin; refine wpList_append_own _ rfl (.tmp 30) (.tmp 32) 46 rfl (w.heap.size + 1) 78 i0 _ 2 24 Tryd.underlying46 hi hz0 hz1 hz2 rfl (by decide) _ _ _ rfl ((own_drewN hownT).alloc _) ⟨wr.heap.size, 0, none⟩ 1 1 [.string x.bits, .int .i64 x.hop] rfl rfl ?c1 ?c2 ?c3 ?c4 ?c5 ?_)
          case c1 =>
            intro j u hj
            match j, hj with
            | 0, hj => simp at hj; subst hj; exact (cell_new2 _ _ _ _ _ rfl).1
            | 1, hj => simp at hj; subst hj; exact (cell_new2 _ _ _ _ _ rfl).2
          case c2 => intro u hu; simp at hu; rcases hu with rfl | rfl <;> rfl
          case c3 => unfold maxLen; omega
          case c4 => omega
          case c5 => simp; omega
          intro v' w2 hown2 hgrow _
          obtain ⟨ao4, cap4, rfl⟩ := own_shape hown2
          have hb2 : Below (w.heap.size + 1) w0 w2 := ((below_drewN hbel _).alloc (by simp; omega) _).grown hgrow (by simp; omega) (fun k hk => (hownT.lt k hk).1)
          have f0 : w2.cell? ⟨w.heap.size, 0, none⟩ = some (.string x.bits) := (hb2.cell (p := ⟨w.heap.size, 0, none⟩) (by simp)).trans b0
          have hw0 := HW0.out
          obtain ⟨e0, e1⟩ := row_cells hown hg2 (below_w hw0 hb2) hlt
          clear hgrow hw0
          go_wp2_with fail
          go_quiet (fail)
          go_wp2_with fail
          go_loopg [5, 6] (l.length - i) (fun g v y wr => ∃ (j : Nat) (M : List Rt) (ao3 : Option Addr) (cap3 : Nat), v = .slice ao3 M.length cap3 ∧ y = .int .i64 j ∧ j ≤ l.length ∧ g + j = l.length ∧ M.length ≤ j + 1 ∧
            wr.ownsRow (w.heap.size + 1) 78 2 (.slice ao3 M.length cap3) M.length (rc M) ∧ Below (w.heap.size + 1) w0 wr ∧ Hid (M ++ l.drop j = layR l x))
          case atStart => exact ⟨i, l.take i ++ [x], ao4, cap4, by rw [List.length_append, List.length_take, Nat.min_eq_left hil]; rfl, rfl, by omega, by omega, by rw [List.length_append, List.length_take, Nat.min_eq_left hil]; simp, by rw [List.length_append, List.length_take, Nat.min_eq_left hil, rc_snoc]; exact own_drewN hown2, below_drewN hb2 _, hel.out.symm⟩
          case round =>
            obtain ⟨j, M, ao3, cap3, rfl, rfl, hjl, hgj, hMl, hownM, hbelM, HM⟩ := hrel
            by_cases hjt : j < l.length
            · have hszM := hbelM.size
              have hw0 := HW0.out
              obtain ⟨c0, c1⟩ := row_cells hown hg2 (below_w hw0 hbelM) hjt
              clear hw0
              go_wp2_with (at_builtin; refine wpList_append_own _ rfl (.tmp 54) (.tmp 59) 46 rfl (w.heap.size + 1) 78 i0 _ 2 24 Tryd.underlying46 hi hz0 hz1 hz2 rfl (by decide) _ _ _ rfl (hownM.alloc _) ⟨wr.heap.size, 0, none⟩ 1 1 [.string l[j].bits, .int .i64 l[j].hop] rfl rfl ?ce1 ?ce2 ?ce3 ?ce4 ?ce5 ?_)
              case ce1 =>
                intro j u hj
                match j, hj with
                | 0, hj => simp at hj; subst hj; exact (cell_new2 _ _ _ _ _ rfl).1
                | 1, hj => simp at hj; subst hj; exact (cell_new2 _ _ _ _ _ rfl).2
              case ce2 => intro u hu; simp at hu; rcases hu with rfl | rfl <;> rfl
              case ce3 => unfold maxLen; omega
              case ce4 => omega
              case ce5 => simp; omega
              intro v' w2 hown2 hgrow _
              obtain ⟨ao4, cap4, rfl⟩ := own_shape hown2
              have HD : Hid (l.drop j = l[j] :: l.drop (j + 1)) := List.drop_eq_getElem_cons hjt
              have hb2 : Below (w.heap.size + 1) w0 w2 := (hbelM.alloc (by omega) _).grown hgrow (by simp; omega) (fun k hk => (hownM.lt k hk).1)
              clear hgrow
              go_wp2_with fail
              go_roundg (gk - 1)
              case measure => omega
              case rel =>
                refine ⟨j + 1, M ++ [l[j]], ao4, cap4, by rw [List.length_append]; rfl, int_eq (by omega), by omega, by omega, by rw [List.length_append]; simp only [List.length_cons, List.length_nil]; omega, ?_, hb2, ?_⟩
                · rw [List.length_append, rc_snoc]; exact hown2
                · unfold Hid; rw [← HM.out, HD.out]; simp
            · go_wp2_with fail
              go_ret
              have hh := HM.out
              rw [List.drop_of_length_le (by omega), List.append_nil] at hh
              rw [← hh]
              exact ⟨ao3, cap3, rfl, own_base hownM (by omega), below_w HW0.out hbelM⟩
    · have hel : Hid (layR l x = (l.take i ++ [x]) ++ l.drop i) := by unfold Hid; rw [HL.out, layR_end (by omega)]; simp
      have hdl : decide ((i : Int) < (l.length : Int)) = false := by rw [decide_eq_false_iff_not]; omega
      go_wp2_with fail
      go_quiet (fail)
      go_wp2_with (at_builtin; refine wpList_append_own _ rfl (.tmp 30) (.tmp 32) 46 rfl (w.heap.size + 1) 78 i0 _ 2 24 Tryd.underlying46 hi hz0 hz1 hz2 rfl (by decide) _ _ _ rfl ((own_drewN hownT).alloc _) ⟨wr.heap.size, 0, none⟩ 1 1 [.string x.bits, .int .i64 x.hop] rfl rfl ?d1 ?d2 ?d3 ?d4 ?d5 ?_)
      case d1 =>
        intro j u hj
        match j, hj with
        | 0, hj => simp at hj; subst hj; exact (cell_new2 _ _ _ _ _ rfl).1
        | 1, hj => simp at hj; subst hj; exact (cell_new2 _ _ _ _ _ rfl).2
      case d2 => intro u hu; simp at hu; rcases hu with rfl | rfl <;> rfl
      case d3 => unfold maxLen; omega
      case d4 => omega
      case d5 => simp; omega
      intro v' w2 hown2 hgrow _
      obtain ⟨ao4, cap4, rfl⟩ := own_shape hown2
      have hb2 : Below (w.heap.size + 1) w0 w2 := ((below_drewN hbel _).alloc (by simp; omega) _).grown hgrow (by simp; omega) (fun k hk => (hownT.lt k hk).1)
      clear hgrow
      go_wp2_with fail
      go_quiet (fail)
      go_wp2_with fail
      go_loopg [5, 6] (l.length - i) (fun g v y wr => ∃ (j : Nat) (M : List Rt) (ao3 : Option Addr) (cap3 : Nat), v = .slice ao3 M.length cap3 ∧ y = .int .i64 j ∧ j ≤ l.length ∧ g + j = l.length ∧ M.length ≤ j + 1 ∧
        wr.ownsRow (w.heap.size + 1) 78 2 (.slice ao3 M.length cap3) M.length (rc M) ∧ Below (w.heap.size + 1) w0 wr ∧ Hid (M ++ l.drop j = layR l x))
      case atStart => exact ⟨i, l.take i ++ [x], ao4, cap4, by rw [List.length_append, List.length_take, Nat.min_eq_left hil]; rfl, rfl, by omega, by omega, by rw [List.length_append, List.length_take, Nat.min_eq_left hil]; simp, by rw [List.length_append, List.length_take, Nat.min_eq_left hil, rc_snoc]; exact own_drewN hown2, below_drewN hb2 _, hel.out.symm⟩
      case round =>
        obtain ⟨j, M, ao3, cap3, rfl, rfl, hjl, hgj, hMl, hownM, hbelM, HM⟩ := hrel
        by_cases hjt : j < l.length
        · obtain ⟨g, rfl, hg1, hg2, hg3, hg4⟩ := own_some hown (by omega)
          unfold maxLen at hg4
          have hszM := hbelM.size
          have hw0 := HW0.out
          obtain ⟨c0, c1⟩ := row_cells hown hg2 (below_w hw0 hbelM) hjt
          clear hw0
          go_wp2_with (at_builtin; refine wpList_append_own _ rfl (.tmp 54) (.tmp 59) 46 rfl (w.heap.size + 1) 78 i0 _ 2 24 Tryd.underlying46 hi hz0 hz1 hz2 rfl (by decide) _ _ _ rfl (hownM.alloc _) ⟨wr.heap.size, 0, none⟩ 1 1 [.string l[j].bits, .int .i64 l[j].hop] rfl rfl ?de1 ?de2 ?de3 ?de4 ?de5 ?_)
          case de1 =>
            intro j u hj
            match j, hj with
            | 0, hj => simp at hj; subst hj; exact (cell_new2 _ _ _ _ _ rfl).1
            | 1, hj => simp at hj; subst hj; exact (cell_new2 _ _ _ _ _ rfl).2
          case de2 => intro u hu; simp at hu; rcases hu with rfl | rfl <;> rfl
          case de3 => unfold maxLen; omega
          case de4 => omega
          case de5 => simp; omega
          intro v' w2 hown2 hgrow _
          obtain ⟨ao4, cap4, rfl⟩ := own_shape hown2
          have HD : Hid (l.drop j = l[j] :: l.drop (j + 1)) := List.drop_eq_getElem_cons hjt
          have hb2 : Below (w.heap.size + 1) w0 w2 := (hbelM.alloc (by omega) _).grown hgrow (by simp; omega) (fun k hk => (hownM.lt k hk).1)
          clear hgrow
          go_wp2_with fail
          go_roundg (gk - 1)
          case measure => omega
          case rel =>
            refine ⟨j + 1, M ++ [l[j]], ao4, cap4, by rw [List.length_append]; rfl, int_eq (by omega), by omega, by omega, by rw [List.length_append]; simp only [List.length_cons, List.length_nil]; omega, ?_, hb2, ?_⟩
            · rw [List.length_append, rc_snoc]; exact hown2
            · unfold Hid; rw [← HM.out, HD.out]; simp
        · go_wp2_with fail
          go_ret
          have hh := HM.out
          rw [List.drop_of_length_le (by omega), List.append_nil] at hh
          rw [← hh]
          exact ⟨ao3, cap3, rfl, own_base hownM (by omega), below_w HW0.out hbelM⟩
end Go.Proofs.YtdfnmpmmkcpddaaDoor
/- Find: both calls, and the law's step. -/
namespace Go.Proofs.YtdfnmpmmkcpddaaDoor
open Go.RowKit

theorem t_zero {s : ByteArray} {W : Int} (h : tErr s W = 0) : s.size ≤ 400 ∧ 1 ≤ W ∧ W ≤ 12 ∧ (tRts s W).length ≤ 24 := by
  by_cases h1 : 400 < s.size
  · rw [(t_long h1).2.1] at h; omega
  by_cases h2 : W < 1 ∨ 12 < W
  · rw [(t_arg (by omega) h2).2.1] at h; omega
  obtain ⟨k, rfl⟩ := Int.eq_ofNat_of_zero_le (show 0 ≤ W by omega)
  refine ⟨by omega, by omega, by omega, ?_⟩
  cases ht : table s k with
  | mk o q =>
    cases o with
    | none => rw [(t_bad (by omega) (by omega) (by omega) ht).2.1] at h; omega
    | some l =>
      by_cases hl : 24 < l.length
      · rw [(t_many (by omega) (by omega) (by omega) ht hl).2.1] at h; omega
      · rw [(t_ok (by omega) (by omega) (by omega) ht hl).1]; omega

/-- P5's answer. -/
def fErr (s : ByteArray) (W A : Int) : Nat := if tErr s W = 0 then (if 0 ≤ A ∧ A < ((2 ^ W.toNat : Nat) : Int) then 0 else 2) else tErr s W
def fHop (s : ByteArray) (W A : Int) : Nat := if tErr s W = 0 then (if 0 ≤ A ∧ A < ((2 ^ W.toNat : Nat) : Int) then (bestF (addr A.toNat W.toNat) (tRts s W)).2 else 0) else 0

theorem dedup_length (l : List Rt) : (dedup l).length ≤ l.length := by
  refine snoc_ind (p := fun l => (dedup l).length ≤ l.length) ?_ ?_ l
  · simp [dedup]
  · intro l r ih; rw [dedup_snoc]; have := putR_length (dedup l) r.bits r.hop; simp; omega

set_option maxRecDepth 100000 in
theorem find_any (s : ByteArray) (W A : Int) (w : World) (hm : s.size ≤ maxLen) :
    Calls Tryd.prog 28 #[.string s, .int .i64 W, .int .i64 A] w fun e w' => e = .returned (.tuple #[.int .i64 (fHop s W A), .int .i64 (fErr s W A)]) ∧ Below w.heap.size w w' := by
  by_cases he : tErr s W = 0
  · obtain ⟨hs, hW1, hW2, hlen⟩ := t_zero he
    have hE : ((tErr s W : Int) != 0) = false := by rw [bne_eq_false_iff_eq]; omega
    obtain ⟨k, rfl⟩ := Int.eq_ofNat_of_zero_le (show 0 ≤ W by omega)
    by_cases hA : 0 ≤ A ∧ A < ((2 ^ k : Nat) : Int)
    · have e1 : fErr s k A = 0 := by unfold fErr; rw [if_pos he, Int.toNat_natCast, if_pos hA]
      have e2 : fHop s k A = (bestF (addr A.toNat k) (tRts s k)).2 := by unfold fHop; rw [if_pos he, Int.toNat_natCast, if_pos hA]
      rw [e1, e2]
      obtain ⟨hA0, hA1⟩ := hA
      obtain ⟨p1, p3, p4⟩ := wrap_pow (W := k) (by omega)
      obtain ⟨n, rfl⟩ := Int.eq_ofNat_of_zero_le hA0
      rw [Int.toNat_natCast]
      clear e1 e2 he
      go_enter Tryd.func28, Tryd.ntmps28
      go_wp2_with fail
      refine (readTable_any s k _ hm).mono ?_
      rintro e w1 ⟨ao, cap, rfl, hown, hb1⟩
      go_wp2_with fail
      refine (isAddress_yes _ _ _ (by omega) hA0 hA1).mono ?_
      rintro e w2 ⟨rfl, rfl⟩
      go_wp2_with fail
      refine (addressBits_any n k _ (by omega) (by omega)).mono ?_
      rintro e w3 ⟨rfl, rfl⟩
      go_wp2_with fail
      refine (hopOf_any (addr n k) (tRts s k) ao cap _ _ (by omega) hown).mono ?_
      rintro e w4 ⟨rfl, hb4⟩
      go_wp2_with fail
      go_ret2
      exact ⟨rfl, hb1.trans (hb4.mono hb1.size)⟩
    · have e1 : fErr s k A = 2 := by unfold fErr; rw [if_pos he, Int.toNat_natCast, if_neg hA]
      have e2 : fHop s k A = 0 := by unfold fHop; rw [if_pos he, Int.toNat_natCast, if_neg hA]
      rw [e1, e2]
      have HA : Hid (¬ (0 ≤ A ∧ A < ((2 ^ k : Nat) : Int))) := hA
      clear e1 e2 he hA
      go_enter Tryd.func28, Tryd.ntmps28
      go_wp2_with fail
      refine (readTable_any s k _ hm).mono ?_
      rintro e w1 ⟨ao, cap, rfl, hown, hb1⟩
      go_wp2_with fail
      refine (isAddress_no _ _ _ (by omega) HA.out).mono ?_
      rintro e w2 ⟨rfl, rfl⟩
      go_wp2_with fail
      go_ret2
      exact ⟨rfl, hb1⟩
  · have e1 : fErr s W A = tErr s W := by unfold fErr; rw [if_neg he]
    have e2 : fHop s W A = 0 := by unfold fHop; rw [if_neg he]
    rw [e1, e2]
    have hE : ((tErr s W : Int) != 0) = true := by rw [bne_iff_ne]; omega
    clear e1 e2 he
    go_enter Tryd.func28, Tryd.ntmps28
    go_wp2_with fail
    refine (readTable_any s W _ hm).mono ?_
    rintro e w1 ⟨ao, cap, rfl, hown, hb1⟩
    go_wp2_with fail
    go_ret2
    exact ⟨rfl, hb1⟩

set_option maxRecDepth 100000 in
theorem rfind_any (s : ByteArray) (W A : Int) (w : World) (hm : s.size ≤ maxLen) :
    Calls Tryd.prog 50 #[.string s, .int .i64 W, .int .i64 A] w fun e w' => e = .returned (.tuple #[.int .i64 (fHop s W A), .int .i64 (fErr s W A)]) ∧ Below w.heap.size w w' := by
  by_cases he : tErr s W = 0
  · obtain ⟨hs, hW1, hW2, hlen⟩ := t_zero he
    have hE : ((tErr s W : Int) != 0) = false := by rw [bne_eq_false_iff_eq]; omega
    obtain ⟨k, rfl⟩ := Int.eq_ofNat_of_zero_le (show 0 ≤ W by omega)
    obtain ⟨p1, p3, p4⟩ := wrap_pow (W := k) (by omega)
    by_cases hA : 0 ≤ A ∧ A < ((2 ^ k : Nat) : Int)
    · have e1 : fErr s k A = 0 := by unfold fErr; rw [if_pos he, Int.toNat_natCast, if_pos hA]
      have e2 : fHop s k A = (bestF (addr A.toNat k) (tRts s k)).2 := by unfold fHop; rw [if_pos he, Int.toNat_natCast, if_pos hA]
      rw [e1, e2]
      obtain ⟨hA0, hA1⟩ := hA
      obtain ⟨n, rfl⟩ := Int.eq_ofNat_of_zero_le hA0
      rw [Int.toNat_natCast]
      have hdl := dedup_length (tRts s k)
      have hq : (n : Int) < (2 : Int) ^ k := by rw [Int.natCast_pow] at hA1; exact hA1
      have hd : decide ((2 : Int) ^ k ≤ (n : Int)) = false := by rw [decide_eq_false_iff_not]; omega
      clear e1 e2 he
      go_enter Tryd.func50, Tryd.ntmps50
      go_wp2_with fail
      refine (read_any s k _ hm).mono ?_
      rintro e w1 ⟨ao, cap, rfl, hown, hb1⟩
      go_wp2_with fail
      refine (rbitsA_any n k _ (by omega) (by omega)).mono ?_
      rintro e w2 ⟨rfl, hb2⟩
      go_wp2_with fail
      refine (rhopA_any (addr n k) (dedup (tRts s k)) ao cap _ _ (by omega) (own_below hown hb2)).mono ?_
      rintro e w3 ⟨h, rfl, hres, hb3⟩
      go_wp2_with fail
      go_ret2
      refine ⟨ret2 (int_eq (by rw [best_eq hres])) rfl, ?_⟩
      have := hb1.size
      have := hb2.size
      exact (hb1.trans (hb2.mono (by omega))).trans (hb3.mono (by omega))
    · have e1 : fErr s k A = 2 := by unfold fErr; rw [if_pos he, Int.toNat_natCast, if_neg hA]
      have e2 : fHop s k A = 0 := by unfold fHop; rw [if_pos he, Int.toNat_natCast, if_neg hA]
      rw [e1, e2]
      by_cases hA0 : 0 ≤ A
      · have hA1 : ¬ A < ((2 ^ k : Nat) : Int) := fun h => hA ⟨hA0, h⟩
        have hq : (2 : Int) ^ k ≤ A := by rw [Int.natCast_pow] at hA1; exact Int.not_lt.1 hA1
        have hd : decide ((2 : Int) ^ k ≤ A) = true := by rw [decide_eq_true_eq]; exact hq
        clear e1 e2 he hA
        go_enter Tryd.func50, Tryd.ntmps50
        go_wp2_with fail
        refine (read_any s k _ hm).mono ?_
        rintro e w1 ⟨ao, cap, rfl, hown, hb1⟩
        go_wp2_with fail
        go_ret2
        exact ⟨rfl, hb1⟩
      · clear e1 e2 he hA
        go_enter Tryd.func50, Tryd.ntmps50
        go_wp2_with fail
        refine (read_any s k _ hm).mono ?_
        rintro e w1 ⟨ao, cap, rfl, hown, hb1⟩
        go_wp2_with fail
        go_ret2
        exact ⟨rfl, hb1⟩
  · have e1 : fErr s W A = tErr s W := by unfold fErr; rw [if_neg he]
    have e2 : fHop s W A = 0 := by unfold fHop; rw [if_neg he]
    rw [e1, e2]
    have hE : ((tErr s W : Int) != 0) = true := by rw [bne_iff_ne]; omega
    clear e1 e2 he
    go_enter Tryd.func50, Tryd.ntmps50
    go_wp2_with fail
    refine (read_any s W _ hm).mono ?_
    rintro e w1 ⟨ao, cap, rfl, hown, hb1⟩
    go_wp2_with fail
    go_ret2
    exact ⟨rfl, hb1⟩

theorem tables_find (W D L A : Int) (s : ByteArray) (w : World) (hm : s.size ≤ maxLen) :
    Calls Tryd.prog 31 #[opV 3 W D L A s] w fun e w' => e = .returned (.bool true) ∧ Below w.heap.size w w' := by
  unfold opV
  go_enter Tryd.func31, Tryd.ntmps31
  go_wp2_with fail
  refine (find_any s W A _ hm).mono ?_
  rintro e w1 ⟨rfl, hb1⟩
  obtain ⟨hc, _⟩ := bcell hb1
  have hz : w.heap.size < w1.heap.size := by have := hb1.size; simp at this; omega
  go_wp2_with fail
  refine (rfind_any s W A _ hm).mono ?_
  rintro e w2 ⟨rfl, hb2⟩
  go_wp2_with (go_at_call 25; refine (num_any _ _).mono ?_; rintro e w3 ⟨rfl, rfl⟩)
  go_ret
  refine ⟨rfl, ?_⟩
  have h1 : Below w.heap.size w w1 := ((Below.refl _ _).alloc (Nat.le_refl _) _).trans (hb1.mono (by simp))
  exact h1.trans (hb2.mono (by omega))

theorem plays_find : Plays 3 3 := by
  intro k W D L A s w h1 h2 hm _ _ _ _ hE
  obtain rfl : k = 3 := by omega
  exact plays_tab 3 W D L A s w (.inr (.inr (.inl rfl))) hE fun w _ => tables_find W D L A s w hm

theorem finds_any (ao : Option Addr) (len cap : Nat) (w : World) (hs : Script w ao len) (hE : Env w) :
    Calls Tryd.prog 5 #[.slice ao len cap] w fun e w' => e = .returned (.bool true) ∧ Below w.heap.size w w' := by
  have HS : Hid (Script w ao len) := hs
  clear hs
  go_enter Tryd.func5, Tryd.ntmps5
  go_wp2_with fail
  refine (upTo_any 3 3 ao len cap _ plays_find hE HS.out).mono ?_
  rintro e w1 ⟨rfl, hb1⟩
  go_wp2_with fail
  go_ret
  exact ⟨rfl, hb1⟩
end Go.Proofs.YtdfnmpmmkcpddaaDoor
/- The walks of Print: package fib's call. -/
namespace Go.Proofs.YtdfnmpmmkcpddaaDoor
open Go.RowKit

set_option maxRecDepth 100000 in
theorem orderRoutes_any (l : List Rt) (ao : Option Addr) (cap base : Nat) (w : World) (hl : l.length ≤ 400) (hown : w.ownsRow base 78 2 (.slice ao l.length cap) l.length (rc l)) :
    Calls Tryd.prog 38 #[.slice ao l.length cap] w fun e w' => ∃ ao' cap', e = .returned (.slice ao' (ordR l).length cap') ∧
      w'.ownsRow w.heap.size 78 2 (.slice ao' (ordR l).length cap') (ordR l).length (rc (ordR l)) ∧ Below w.heap.size w w' := by
  go_enter Tryd.func38, Tryd.ntmps38
  go_wp2_with fail
  go_loopg [3, 4] l.length (fun g v y wr => ∃ (i : Nat) (M : List Rt) (ao2 : Option Addr) (cap2 : Nat), v = .slice ao2 M.length cap2 ∧ y = .int .i64 i ∧ g + i = l.length ∧ M.length ≤ i ∧
    wr.ownsRow w.heap.size 78 2 (.slice ao2 M.length cap2) M.length (rc M) ∧ Below w.heap.size w wr ∧ Hid (M = ordR (l.take i)))
  case atStart => exact ⟨0, [], none, 0, rfl, rfl, by omega, by simp, World.ownsRow_nil _ _ _ _, Below.refl _ _, rfl⟩
  case round =>
    obtain ⟨i, M, ao2, cap2, rfl, rfl, hgi, hMl, hownM, hbel, HM⟩ := hrel
    by_cases hlt : i < l.length
    · obtain ⟨g, rfl, hg1, hg2, hg3, hg4⟩ := own_some hown (by omega)
      unfold maxLen at hg4
      obtain ⟨c0, c1⟩ := row_cells hown hg2 hbel hlt
      have hlen := layR_length M l[i]
      have HO : Hid (layR M l[i] = ordR (l.take (i + 1))) := by unfold Hid; rw [ordR_take l i hlt, HM.out]
      go_wp2_with fail
      refine (layRoute_any M l[i] ao2 cap2 _ _ (by omega) hownM).mono ?_
      rintro e w1 ⟨ao3, cap3, rfl, hown3, hb1⟩
      go_wp2_with fail
      go_roundg (gk - 1)
      case measure => omega
      case rel => exact ⟨i + 1, layR M l[i], ao3, cap3, rfl, int_eq (by omega), by omega, by omega, own_base hown3 hbel.size, hbel.trans (hb1.mono hbel.size), HO.out⟩
    · go_wp2_with fail
      go_ret
      have hh := HM.out
      rw [List.take_of_length_le (by omega)] at hh
      rw [← hh]
      exact ⟨ao2, cap2, rfl, hownM, hbel⟩

/-- P4's answer. -/
def pText (s : ByteArray) (W : Int) : ByteArray := textB (ordR (tRts s W))

theorem tRts_err {s : ByteArray} {W : Int} (h : tErr s W ≠ 0) : tRts s W = [] := by
  by_cases h1 : 400 < s.size
  · exact (t_long h1).1
  by_cases h2 : W < 1 ∨ 12 < W
  · exact (t_arg (by omega) h2).1
  obtain ⟨k, rfl⟩ := Int.eq_ofNat_of_zero_le (show 0 ≤ W by omega)
  cases ht : table s k with
  | mk o q =>
    cases o with
    | none => exact (t_bad (by omega) (by omega) (by omega) ht).1
    | some l =>
      by_cases hl : 24 < l.length
      · exact (t_many (by omega) (by omega) (by omega) ht hl).1
      · exact absurd (t_ok (by omega) (by omega) (by omega) ht hl).2.1 h
theorem pText_err {s : ByteArray} {W : Int} (h : tErr s W ≠ 0) : pText s W = ⟨#[]⟩ := by unfold pText; rw [tRts_err h]; rfl

theorem print_any (s : ByteArray) (W : Int) (w : World) (hm : s.size ≤ maxLen) (hE : Env w) :
    Calls Tryd.prog 24 #[.string s, .int .i64 W] w fun e w' => e = .returned (.tuple #[.string (pText s W), .int .i64 (tErr s W)]) ∧ Below w.heap.size w w' := by
  by_cases he : tErr s W = 0
  · obtain ⟨hs, hW1, hW2, hlen⟩ := t_zero he
    have hEr : ((tErr s W : Int) != 0) = false := by rw [bne_eq_false_iff_eq]; omega
    have hol := ordR_length (tRts s W)
    have HF : Hid (∀ r ∈ ordR (tRts s W), Fit r) := ordR_fit (tRts_fit s W)
    have HZ : Hid (tErr s W = 0) := he
    clear he
    go_enter Tryd.func24, Tryd.ntmps24
    go_wp2_with fail
    refine (readTable_any s W _ hm).mono ?_
    rintro e w1 ⟨ao, cap, rfl, hown, hb1⟩
    go_wp2_with fail
    refine (orderRoutes_any (tRts s W) ao cap _ _ (by omega) hown).mono ?_
    rintro e w2 ⟨ao2, cap2, rfl, hown2, hb2⟩
    go_wp2_with fail
    have hz1 := hb1.size
    have hz2 := hb2.size
    refine (printRoutes_any (ordR (tRts s W)) ao2 cap2 _ _ (by omega) HF.out ((hE.later hb1).later hb2) hown2).mono ?_
    rintro e w3 ⟨rfl, hb3⟩
    go_wp2_with fail
    go_ret2
    rw [HZ.out]
    exact ⟨rfl, (hb1.trans (hb2.mono (by omega))).trans (hb3.mono (by omega))⟩
  · rw [pText_err he]
    have hEr : ((tErr s W : Int) != 0) = true := by rw [bne_iff_ne]; omega
    clear he
    go_enter Tryd.func24, Tryd.ntmps24
    go_wp2_with fail
    refine (readTable_any s W _ hm).mono ?_
    rintro e w1 ⟨ao, cap, rfl, hown, hb1⟩
    go_wp2_with fail
    go_ret2
    exact ⟨rfl, hb1⟩
end Go.Proofs.YtdfnmpmmkcpddaaDoor
