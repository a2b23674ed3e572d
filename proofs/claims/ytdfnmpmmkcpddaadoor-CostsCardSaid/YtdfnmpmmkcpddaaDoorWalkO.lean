/- The walk of the document's cost: under. -/
import Derived.Test.YtdfnmpmmkcpddaaDoorWalkN
namespace Go.Proofs.YtdfnmpmmkcpddaaDoor
open Go.RowKit

/-- The cells of texts. -/
def sc (o : List ByteArray) : List Value := o.map Value.string
theorem sc_snoc (o : List ByteArray) (c : ByteArray) : sc (o ++ [c]) = sc o ++ [.string c] := by simp [sc]
theorem sc_at (o : List ByteArray) {k : Nat} (h : k < o.length) : (sc o)[k]? = some (.string o[k]) := by simp [sc, h]
theorem memB_take (x : ByteArray) (o : List ByteArray) {k : Nat} (h : k < o.length) : memB x (o.take (k + 1)) = (memB x (o.take k) || (o[k].toList == x.toList)) := by
  rw [List.take_succ_eq_append_getElem h]
  unfold memB
  rw [List.any_append]
  simp only [List.any_cons, List.any_nil, Bool.or_false]
  congr 1
  by_cases e : o[k] = x
  · rw [ba_eq e]; simp [e]
  · rw [ba_ne e]; simp [e]
theorem Tryd.infoString : (Tryd.prog.info? 9).map (fun i => (i.zero, i.size, i.bytes)) = some (some (.string ⟨#[]⟩), 1, 16) := by kernel_rfl

set_option maxRecDepth 100000 in
set_option maxHeartbeats 1000000 in
theorem runder_any (b : ByteArray) (s : Nat) (l : List Rt) (ao : Option Addr) (cap base : Nat) (w : World) (hl : l.length ≤ 400) (hS : ∀ r ∈ l, r.bits.size ≤ 12) (hb : b.size ≤ 12) (hs : s ≤ 12) (hown : w.ownsRow base 98 2 (.slice ao l.length cap) l.length (rc l)) :
    Calls Tryd.prog 95 #[.slice ao l.length cap, .string b, .int .i64 s] w fun e w' => ∃ ao' cap', e = .returned (.slice ao' (underF l b s).length cap') ∧ w'.ownsRow w.heap.size 9 1 (.slice ao' (underF l b s).length cap') (underF l b s).length (sc (underF l b s)) ∧ Below w.heap.size w w' := by
  obtain ⟨i0, hi, hz0, hz1, hz2⟩ := info_parts Tryd.infoString
  go_enter Tryd.func95, Tryd.ntmps95
  go_wp2_with fail
  go_loopg [7, 9] l.length (fun g x y wr => ∃ (i : Nat) (o : List ByteArray), y = .int .i64 i ∧ g + i = l.length ∧ o.length ≤ i ∧ wr.ownsRow w.heap.size 9 1 x o.length (sc o) ∧ Below w.heap.size w wr ∧ Hid (o = underF (l.take i) b s))
  case atStart => exact ⟨0, [], rfl, by omega, by simp, World.ownsRow_nil _ _ _ _, Below.refl _ _, rfl⟩
  case round =>
    obtain ⟨i, o, rfl, hgi, hol, hown2, hbel, HO⟩ := hrel
    obtain ⟨ao2, cap2, rfl⟩ := own_shape hown2
    by_cases hlt : i < l.length
    · obtain ⟨g, rfl, hg1, hg2, hg3, hg4⟩ := own_some hown (by omega)
      unfold maxLen at hg4
      obtain ⟨c0, c1⟩ := row_cells hown hg2 hbel hlt
      have hli := hS l[i] (List.getElem_mem hlt)
      have HT : Hid (underF (l.take (i + 1)) b s = ustep b s o l[i]) := by unfold Hid; rw [underF_take l b s i hlt, ← HO.out]
      clear HO
      cases hp : pre b l[i].bits with
      | true =>
        have HP : Hid (pre b l[i].bits = true) := hp
        clear hp
        by_cases hle : b.size + s < l[i].bits.size
        · obtain ⟨c, hc⟩ : ∃ c, l[i].bits.extract 0 (b.size + s) = c := ⟨_, rfl⟩
          go_wp2_with fail
          refine (begins_any _ _ _).mono ?_
          rintro e w1 ⟨rfl, rfl⟩
          rw [HP.out]
          go_wp2_with fail
          go_loopg [12, 13] o.length (fun g2 x y wr2 => ∃ (k : Nat) (q : Bool), x = .bool q ∧ y = .int .i64 k ∧ g2 + k = o.length ∧ wr2 = w1 ∧ Hid (q = memB c (o.take k)))
          case atStart => exact ⟨0, false, rfl, rfl, by omega, rfl, rfl⟩
          case round =>
            obtain ⟨k, q, rfl, rfl, hgk, rfl, HQ⟩ := hrel
            by_cases hko : k < o.length
            · obtain ⟨g3, rfl, hg31, hg32, hg33, hg34⟩ := own_some hown2 (by omega)
              unfold maxLen at hg34
              have hM := memB_take c o hko
              rw [← HQ.out] at hM
              cases q with
              | true =>
                have HM : Hid (memB c (o.take (k + 1)) = true) := by rw [hM]; rfl
                clear hM
                go_wp2_with fail
                go_roundg (gk - 1)
                case measure => omega
                case rel => exact ⟨k + 1, true, rfl, int_eq (by omega), by omega, rfl, HM.out.symm⟩
              | false =>
                have HM : Hid (memB c (o.take (k + 1)) = (o[k].toList == c.toList)) := by rw [hM]; rfl
                clear hM
                have hck := (hown2.cellAt k (by omega)).trans (sc_at o hko)
                go_wp2_with fail
                go_roundg (gk - 1)
                case measure => omega
                case rel => exact ⟨k + 1, o[k].toList == c.toList, rfl, int_eq (by omega), by omega, rfl, HM.out.symm⟩
            · have HQ' : Hid (q = memB c o) := by
                have := HQ.out
                rw [List.take_of_length_le (by omega)] at this
                exact this
              clear HQ
              cases q with
              | true =>
                have HE : Hid (underF (l.take (i + 1)) b s = o) := by unfold Hid; rw [HT.out, ustep, if_pos ⟨HP.out, hle⟩, hc, if_pos HQ'.out.symm]
                clear HT HQ'
                go_wp2_with fail
                go_roundg (l.length - (i + 1))
                case measure => omega
                case rel => exact ⟨i + 1, o, int_eq (by omega), by omega, by omega, hown2, hbel, HE.out.symm⟩
              | false =>
                have HE : Hid (underF (l.take (i + 1)) b s = o ++ [c]) := by unfold Hid; rw [HT.out, ustep, if_pos ⟨HP.out, hle⟩, hc, if_neg (by rw [← HQ'.out]; simp)]
                clear HT HQ'
                have hwz := hbel.size
                go_wp2_with (at_builtin; refine wpList_append_own _ rfl (.tmp 67) (.tmp 69) 124 rfl w.heap.size 9 i0 _ 1 16 Tryd.underlying124 hi hz0 hz1 hz2 rfl (by decide) _ _ _ rfl (hown2.alloc _) ⟨wr.heap.size, 0, none⟩ 1 1 [.string c] rfl rfl ?c1 ?c2 ?c3 ?c4 ?c5 ?_)
                case c1 =>
                  intro j u hj
                  match j, hj with
                  | 0, hj => simp at hj; subst hj; simp [Addr.add]
                case c2 => intro u hu; simp at hu; subst hu; rfl
                case c3 => unfold maxLen; omega
                case c4 => omega
                case c5 => simp; omega
                intro v' w2 hown3 hgrow _
                obtain ⟨ao3, cap3, rfl⟩ := own_shape hown3
                have hb2 : Below w.heap.size w w2 := (hbel.alloc hbel.size _).grown hgrow (by simp; omega) (fun k hk => by have := hown2.lt k hk; omega)
                go_wp2_with fail
                go_roundg (l.length - (i + 1))
                case measure => omega
                case rel => exact ⟨i + 1, o ++ [c], int_eq (by omega), by omega, by simp; omega, by rw [List.length_append, sc_snoc]; exact hown3, hb2, HE.out.symm⟩
        · go_wp2_with fail
          refine (begins_any _ _ _).mono ?_
          rintro e w1 ⟨rfl, rfl⟩
          rw [HP.out]
          go_wp2_with fail
          go_roundg (gk - 1)
          case measure => omega
          case rel => exact ⟨i + 1, o, int_eq (by omega), by omega, by omega, hown2, hbel, by unfold Hid; rw [HT.out, ustep, if_neg (fun h => hle h.2)]⟩
      | false =>
        have HP : Hid (pre b l[i].bits = false) := hp
        clear hp
        go_wp2_with fail
        refine (begins_any _ _ _).mono ?_
        rintro e w1 ⟨rfl, rfl⟩
        rw [HP.out]
        go_wp2_with fail
        go_roundg (gk - 1)
        case measure => omega
        case rel => exact ⟨i + 1, o, int_eq (by omega), by omega, by omega, hown2, hbel, by unfold Hid; rw [HT.out, ustep, if_neg (by rw [HP.out]; simp)]⟩
    · go_wp2_with fail
      go_ret
      have hh := HO.out
      rw [List.take_of_length_le (by omega)] at hh
      rw [← hh]
      exact ⟨_, _, rfl, hown2, hbel⟩
end Go.Proofs.YtdfnmpmmkcpddaaDoor
