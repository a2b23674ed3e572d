import Derived.Test.YtdfnmpmmkcpddaaDoorQ13
import Derived.Test.YtdfnmpmmkcpddaaDoorQ33
/- The walk of the document's Print. -/
namespace Go.Proofs.YtdfnmpmmkcpddaaDoor
open Go.RowKit

theorem Tryd.infoBool : (Tryd.prog.info? 4).map (fun i => (i.zero, i.size, i.bytes)) = some (some (.bool false), 1, 1) := by kernel_rfl

/-- The marks' row. -/
def Marks (w : World) (B gd N : Nat) (ds : List Bool) : Prop := w.ownsRow B 4 1 (.slice (some ⟨gd, 0, none⟩) N N) N (ds.map Value.bool)
theorem Marks.cell {w : World} {B gd N : Nat} {ds : List Bool} (h : Marks w B gd N ds) {i : Nat} {b : Bool} (hi : i < N) (hd : ds[i]? = some b) : w.cell? ⟨gd, i, none⟩ = some (.bool b) := by
  rw [h.cellAt i (by omega), List.getElem?_map, hd]; rfl

theorem marks_start {w : World} {B gd N : Nat} (h : w.ownsRow B 4 1 (.slice (some ⟨gd, 0, none⟩) N N) N (madeCells #[Value.bool false] N).toList) : Marks w B gd N (List.replicate N false) := by
  unfold Marks
  have e : (madeCells #[Value.bool false] N).toList = (List.replicate N false).map Value.bool := by
    unfold madeCells
    rw [Array.toList_map, Array.toList_range, List.map_replicate]
    refine List.ext_getElem (by simp) fun i h1 h2 => ?_
    simp [Nat.mod_one]
  rw [← e]; exact h

set_option maxRecDepth 100000 in
set_option maxHeartbeats 4000000 in
theorem rprint_walk (s : ByteArray) (W : Int) (w : World) (hm : s.size ≤ maxLen) (he : tErr s W = 0) :
    Calls Tryd.prog 49 #[.string s, .int .i64 W] w fun e w' => e = .returned (.tuple #[.string (pText s W), .int .i64 (tErr s W)]) ∧ Below w.heap.size w w' := by
  obtain ⟨hs, hW1, hW2, hlen⟩ := t_zero he
  have hEr : ((tErr s W : Int) != 0) = false := by rw [bne_eq_false_iff_eq]; omega
  have hdl := dedup_length (tRts s W)
  have HF : Hid (∀ r ∈ dedup (tRts s W), Fit r) := dedup_fit (tRts_fit s W)
  have HO : Hid (Once (dedup (tRts s W))) := dedup_once _
  have HZ : Hid (tErr s W = 0) := he
  obtain ⟨i0, hi, hz0, hz1, hz2⟩ := info_parts Tryd.infoBool
  clear he
  go_enter Tryd.func49, Tryd.ntmps49
  go_wp2_with fail
  refine (read_any s W _ hm).mono ?_
  rintro e w1 ⟨ao, cap, rfl, hown, hb1⟩
  obtain ⟨D, hD⟩ : ∃ D, D = dedup (tRts s W) := ⟨_, rfl⟩
  have HD : Hid (D = dedup (tRts s W)) := hD
  rw [← hD] at hown hdl
  rw [← hD]
  have HF' : Hid (∀ r ∈ D, Fit r) := by rw [hD]; exact HF
  have HO' : Hid (Once D) := by rw [hD]; exact HO
  clear hD HF HO
  go_wp2_with (at_make; refine wpList_make_full _ rfl (.tmp 27) (.tmp 27) 96 rfl w1.heap.size 4 i0 (.bool false) 1 Tryd.underlying96 hi hz0 hz1 .i64 .i64 _ _ D.length rfl rfl rfl rfl (by rw [hz2]; omega) (by unfold maxLen; omega) (Nat.le_refl _) ?_)
  intro w2 hmk hgr2
  have hmk0 := marks_start hmk
  clear hmk
  have hb2 : Below w1.heap.size w1 w2 := ⟨hgr2.os, hgr2.tape, hgr2.output, hgr2.size, fun k hk => hgr2.block k hk (by simp)⟩
  clear hgr2
  have hz1' := hb1.size
  go_wp2_with fail
  go_loopg [9, 11] D.length (fun g x y wr => ∃ (n : Nat) (T : List Rt) (ds : List Bool) (t : ByteArray), x = .string t ∧ y = .int .i64 n ∧ g + n = D.length ∧ T.length = n ∧ t.size ≤ 20 * n ∧ Marks wr w1.heap.size w1.heap.size D.length ds ∧ Below w1.heap.size w1 wr ∧ Hid (t = textB T) ∧ Hid (Sel D T ds))
  case atStart => exact ⟨0, [], _, _, rfl, rfl, by omega, rfl, by show 0 ≤ 0; omega, hmk0, hb2, rfl, sel_start D⟩
  case round =>
    obtain ⟨n, T, ds, t, rfl, rfl, hgn, hTn, hts, hmk, hbel, HT, HS⟩ := hrel
    clear hmk0 hb2
    by_cases hlt : n < D.length
    · obtain ⟨g, rfl, hg1, hg2, hg3, hg4⟩ := own_some hown (by omega)
      unfold maxLen at hg4
      go_wp2_with fail
      go_loopg [12, 13] D.length (fun g2 x y wr2 => ∃ (i : Nat) (k : Int) (m : Nat), x = .int .i64 k ∧ y = .int .i64 i ∧ g2 + i = D.length ∧ wr2 = wr.drewN m ∧ ((k = -1 ∧ Hid (L1 D ds i)) ∨ ∃ kn : Nat, k = kn ∧ kn < i ∧ Hid (L2 D ds i kn)))
      case atStart => exact ⟨0, -1, 0, rfl, rfl, by omega, rfl, .inl ⟨rfl, fun j _ hj => by omega⟩⟩
      case round =>
        obtain ⟨i, k, m, rfl, rfl, hgi, rfl, hK⟩ := hrel
        by_cases hlti : i < D.length
        · obtain ⟨c0, c1⟩ := row_cells hown hg2 hbel hlti
          have hdi : ∃ b, ds[i]? = some b := ⟨ds[i]'(by rw [HS.out.len]; exact hlti), by simp⟩
          obtain ⟨b, hdi⟩ := hdi
          have hdc := hmk.cell hlti hdi
          have HB : Hid (ds[i]? = some b) := hdi
          clear hdi
          rcases hK with ⟨rfl, HN⟩ | ⟨kn, rfl, hki, HK⟩
          · cases b with
            | true =>
              go_wp2_with fail
              go_quiet (fail)
              go_wp2_with fail
              go_roundg (gk - 1)
              case measure => omega
              case rel => exact ⟨i + 1, -1, _, rfl, int_eq (by omega), by omega, rfl, .inl ⟨rfl, HN.out.done HB.out⟩⟩
            | false =>
              go_wp2_with fail
              go_quiet (fail)
              go_wp2_with fail
              go_roundg (gk - 1)
              case measure => omega
              case rel => exact ⟨i + 1, i, _, rfl, int_eq (by omega), by omega, rfl, .inr ⟨i, rfl, by omega, HN.out.first hlti HB.out⟩⟩
          · have hkl : kn < D.length := by omega
            obtain ⟨d0, d1⟩ := row_cells hown hg2 hbel hkl
            cases b with
            | true =>
              go_wp2_with fail
              go_quiet (fail)
              go_wp2_with fail
              go_roundg (gk - 1)
              case measure => omega
              case rel => exact ⟨i + 1, kn, _, rfl, int_eq (by omega), by omega, rfl, .inr ⟨kn, rfl, by omega, HK.out.done HB.out⟩⟩
            | false =>
              cases hc : lt D[i].bits D[kn].bits with
              | true =>
                have HC : Hid (lt D[i].bits D[kn].bits = true) := hc
                have hcb : Op.bytesLess D[i].bits.toList D[kn].bits.toList = true := hc
                clear hc
                go_wp2_with fail
                go_quiet (fail)
                go_wp2_with fail
                go_roundg (gk - 1)
                case measure => omega
                case rel => exact ⟨i + 1, i, _, rfl, int_eq (by omega), by omega, rfl, .inr ⟨i, rfl, by omega, HK.out.new hlti hkl HB.out HC.out⟩⟩
              | false =>
                have HC : Hid (lt D[i].bits D[kn].bits = false) := hc
                have hcb : Op.bytesLess D[i].bits.toList D[kn].bits.toList = false := hc
                clear hc
                go_wp2_with fail
                go_quiet (fail)
                go_wp2_with fail
                go_roundg (gk - 1)
                case measure => omega
                case rel => exact ⟨i + 1, kn, _, rfl, int_eq (by omega), by omega, rfl, .inr ⟨kn, rfl, by omega, HK.out.old hlti hkl HC.out⟩⟩
        · have hie : i = D.length := by omega
          rcases hK with ⟨rfl, HN⟩ | ⟨kn, rfl, hki, HK⟩
          · have hn := HN.out
            rw [hie] at hn
            exact absurd hn (HS.out.left (by omega))
          · have hkl : kn < D.length := by omega
            have HK' : Hid (L2 D ds D.length kn) := by have := HK.out; rw [hie] at this; exact this
            obtain ⟨d0, d1⟩ := row_cells hown hg2 hbel hkl
            have hdk := hmk.cell hkl HK'.out.choose_spec.2.1
            have hfk := hmk.frozenAt kn
            have hfit := HF'.out D[kn] (List.getElem_mem hkl)
            clear HK hie
            obtain ⟨hf1, hf2, hf3⟩ := hfit
            have hls := lineB_size (HF'.out D[kn] (List.getElem_mem hkl))
            have hds := decB_size hf3
            by_cases hbe : D[kn].bits = (⟨#[]⟩ : ByteArray)
            · have hem : D[kn].bits.toList.isEmpty = true := by rw [hbe, ByteArray.toList_eq]; rfl
              have HTX : Hid (t ++ (⟨#[42]⟩ : ByteArray) ++ (⟨#[32]⟩ : ByteArray) ++ decB D[kn].hop ++ (⟨#[10]⟩ : ByteArray) = textB (T ++ [D[kn]])) := by
                unfold Hid; rw [textB_snoc, ← HT.out, lineB, bitsOr, if_pos hbe]; simp only [ByteArray.append_assoc]
              clear hbe
              go_wp2_with fail
              refine (decimal_any D[kn].hop _ hf2 hf3).mono ?_
              rintro e w3 ⟨rfl, hb3⟩
              go_wp2_with fail
              have hst := World.ownsRow.stored (own_drewN hmk (k := m)) kn (.bool true)
              have hmk3 : Marks w3 w1.heap.size w1.heap.size D.length (ds.set kn true) := by
                unfold Marks; rw [List.map_set]; exact own_below hst.1 hb3
              have hbl3 : Below w1.heap.size w1 w3 := ((below_drewN hbel m).setCell (by simp) _).trans (hb3.mono (by have := hbel.size; simp; omega))
              clear hst
              go_roundg (D.length - (n + 1))
              case measure => omega
              case rel =>
                refine ⟨n + 1, T ++ [D[kn]], ds.set kn true, _, rfl, int_eq (by omega), by omega, by rw [List.length_append, hTn]; rfl, ?_, hmk3, hbl3, ?_, HS.out.take HO'.out hkl HK'.out⟩
                · rw [HTX.out, textB_snoc, ByteArray.size_append, ← HT.out]; omega
                · unfold Hid; rw [HTX.out]
            · have hem : D[kn].bits.toList.isEmpty = false := by
                cases hl : D[kn].bits.toList with
                | nil => exact absurd (ba_ext (by rw [← ByteArray.toList_eq, hl])) hbe
                | cons x l => rfl
              have HTX : Hid (t ++ D[kn].bits ++ (⟨#[32]⟩ : ByteArray) ++ decB D[kn].hop ++ (⟨#[10]⟩ : ByteArray) = textB (T ++ [D[kn]])) := by
                unfold Hid; rw [textB_snoc, ← HT.out, lineB, bitsOr, if_neg hbe]; simp only [ByteArray.append_assoc]
              clear hbe
              go_wp2_with fail
              refine (decimal_any D[kn].hop _ hf2 hf3).mono ?_
              rintro e w3 ⟨rfl, hb3⟩
              go_wp2_with fail
              have hst := World.ownsRow.stored (own_drewN hmk (k := m)) kn (.bool true)
              have hmk3 : Marks w3 w1.heap.size w1.heap.size D.length (ds.set kn true) := by
                unfold Marks; rw [List.map_set]; exact own_below hst.1 hb3
              have hbl3 : Below w1.heap.size w1 w3 := ((below_drewN hbel m).setCell (by simp) _).trans (hb3.mono (by have := hbel.size; simp; omega))
              clear hst
              go_roundg (D.length - (n + 1))
              case measure => omega
              case rel =>
                refine ⟨n + 1, T ++ [D[kn]], ds.set kn true, _, rfl, int_eq (by omega), by omega, by rw [List.length_append, hTn]; rfl, ?_, hmk3, hbl3, ?_, HS.out.take HO'.out hkl HK'.out⟩
                · rw [HTX.out, textB_snoc, ByteArray.size_append, ← HT.out]; omega
                · unfold Hid; rw [HTX.out]
    · go_wp2_with fail
      go_ret2
      rw [HZ.out]
      have hsel := HS.out
      rw [HD.out] at hsel hlt
      refine ⟨ret2 (str_eq ?_) rfl, hb1.trans (hbel.mono hz1')⟩
      rw [HT.out]
      exact sel_text hsel (by omega)

theorem rprint_any (s : ByteArray) (W : Int) (w : World) (hm : s.size ≤ maxLen) :
    Calls Tryd.prog 49 #[.string s, .int .i64 W] w fun e w' => e = .returned (.tuple #[.string (pText s W), .int .i64 (tErr s W)]) ∧ Below w.heap.size w w' := by
  by_cases he : tErr s W = 0
  · exact rprint_walk s W w hm he
  · rw [pText_err he]
    have hEr : ((tErr s W : Int) != 0) = true := by rw [bne_iff_ne]; omega
    clear he
    go_enter Tryd.func49, Tryd.ntmps49
    go_wp2_with fail
    refine (read_any s W _ hm).mono ?_
    rintro e w1 ⟨ao, cap, rfl, hown, hb1⟩
    go_wp2_with fail
    go_ret2
    exact ⟨rfl, hb1⟩
end Go.Proofs.YtdfnmpmmkcpddaaDoor
