import Derived.Test.YtdfnmpmmkcpddaaDoorQ16
/- The walks of the program's cost: flatNodes. -/
namespace Go.Proofs.YtdfnmpmmkcpddaaDoor
open Go.RowKit

/-- A node with its cost for depth 1. -/
def flatK (R : List Rt) (b : ByteArray) : Tn := ⟨b, heightF R b, heightF R b, ((2 ^ heightF R b : Nat) : Int)⟩
theorem flatK_bits (R : List Rt) (ns : List ByteArray) : kbits (ns.map (flatK R)) = ns := by
  unfold kbits; rw [List.map_map]
  have : (Tn.b ∘ flatK R) = id := rfl
  rw [this, List.map_id]
theorem nrow_next {r : ByteArray} {M ns : List ByteArray} {n : Nat} (h : M = nrow r ns n) : nstep r M n = nrow r ns (n + 1) := by rw [h]; rfl

theorem findNode_flat (c : ByteArray) (R : List Rt) (M : List ByteArray) (ao : Option Addr) (cap base : Nat) (w : World) (hl : M.length ≤ 4000) (hown : w.ownsRow base 76 4 (.slice ao M.length cap) M.length (tnc (M.map (flatK R)))) :
    Calls Tryd.prog 89 #[.slice ao M.length cap, .string c] w fun e w' => e = .returned (.int .i64 (fxF c M 0)) ∧ w' = w := by
  have hml : (M.map (flatK R)).length = M.length := by simp
  have h := findNode_any c (M.map (flatK R)) ao cap base w (by omega) (by rw [hml]; exact hown)
  rw [hml, flatK_bits] at h
  exact h

set_option maxRecDepth 100000 in
set_option maxHeartbeats 1000000 in
theorem flatNodes_any (L : List Rt) (ao : Option Addr) (cap base : Nat) (w : World) (hl : L.length ≤ 24) (hF : ∀ r ∈ ordR L, r.bits.size ≤ 12) (hown : w.ownsRow base 78 2 (.slice ao L.length cap) L.length (rc L)) :
    Calls Tryd.prog 83 #[.slice ao L.length cap] w fun e w' => ∃ ao' cap', e = .returned (.slice ao' (nodesF (ordR L)).length cap') ∧
      w'.ownsRow w.heap.size 76 4 (.slice ao' (nodesF (ordR L)).length cap') (nodesF (ordR L)).length (tnc ((nodesF (ordR L)).map (flatK (ordR L)))) ∧ Below w.heap.size w w' := by
  obtain ⟨i0, hi, hz0, hz1, hz2⟩ := info_parts Tryd.infoTree
  go_enter Tryd.func83, Tryd.ntmps83
  go_wp2_with fail
  refine (orderRoutes_any L ao cap base _ (by omega) hown).mono ?_
  rintro e w1 ⟨ao1, cap1, rfl, hown1, hb1⟩
  have hRl := ordR_length L
  obtain ⟨R, hR⟩ : ∃ R, ordR L = R := ⟨_, rfl⟩
  rw [hR] at hown1 hF hRl ⊢
  have hz := hb1.size
  have HF : Hid (∀ r ∈ R, r.bits.size ≤ 12) := hF
  have HRR : Hid (ordR L = R) := hR
  clear hR hown hF
  go_wp2_with fail
  go_loopg [4, 5] R.length (fun g x y wr => ∃ (i : Nat) (M : List ByteArray), y = .int .i64 i ∧ g + i = R.length ∧ M.length ≤ 12 * i ∧ wr.ownsRow w1.heap.size 76 4 x M.length (tnc (M.map (flatK R))) ∧ Below w1.heap.size w1 wr ∧ Hid (M = nodesF (R.take i)))
  case atStart => exact ⟨0, [], rfl, by omega, by simp, World.ownsRow_nil _ _ _ _, Below.refl _ _, rfl⟩
  case round =>
    obtain ⟨i, M, rfl, hgi, hMl, hown2, hbel, HM⟩ := hrel
    obtain ⟨ao2, cap2, rfl⟩ := own_shape hown2
    by_cases hlt : i < R.length
    · obtain ⟨g, rfl, hg1, hg2, hg3, hg4⟩ := own_some hown1 (by omega)
      unfold maxLen at hg4
      obtain ⟨c0, c1⟩ := row_cells hown1 hg2 hbel hlt
      have hri := HF.out R[i] (List.getElem_mem hlt)
      obtain ⟨r, hr⟩ : ∃ r, R[i].bits = r := ⟨_, rfl⟩
      have HT : Hid (nodesF (R.take (i + 1)) = nrow r M r.size) := by unfold Hid; rw [nodesF_take R i hlt, ← HM.out, hr]
      rw [hr] at c0 hri
      clear hr c1 HM
      go_wp2_with fail
      go_loopg [4, 7] r.size (fun g2 x y wr2 => ∃ (n : Nat) (M2 : List ByteArray), y = .int .i64 n ∧ g2 + n = r.size ∧ M2.length ≤ M.length + n ∧ wr2.ownsRow w1.heap.size 76 4 x M2.length (tnc (M2.map (flatK R))) ∧ Below w1.heap.size w1 wr2 ∧ Hid (M2 = nrow r M n))
      case atStart => exact ⟨0, M, rfl, by omega, by omega, hown2, hbel, rfl⟩
      case round =>
        obtain ⟨n, M2, rfl, hgn, hM2l, hown3, hbel2, HM2⟩ := hrel
        obtain ⟨ao3, cap3, rfl⟩ := own_shape hown3
        by_cases hnr : n < r.size
        · obtain ⟨c, hc⟩ : ∃ c, r.extract 0 n = c := ⟨_, rfl⟩
          have hcs : c.size ≤ 12 := by rw [← hc, ByteArray.size_extract]; omega
          have HN := nrow_next HM2.out
          have hwz := hbel2.size
          have HAS := findNode_flat c R M2 ao3 cap3 _ wr (by omega) hown3
          cases hm : memB c M2 with
          | true =>
            have HM3 : Hid (M2 = nrow r M (n + 1)) := by unfold Hid; rw [← HN, nstep, hc, if_pos hm]
            obtain ⟨ix, hix, _⟩ := fx_yes (i := 0) (memB_iff.1 hm)
            rw [hix, Nat.zero_add] at HAS
            have HC : Hid (Calls Tryd.prog 89 #[.slice ao3 M2.length cap3, .string c] wr fun e w' => e = .returned (.int .i64 (ix : Nat)) ∧ w' = wr) := HAS
            clear hix
            clear hm HN HAS
            go_wp2_with fail
            refine HC.out.mono ?_
            rintro e w2 ⟨rfl, rfl⟩
            go_wp2_with fail
            go_roundg (gk - 1)
            case measure => omega
            case rel => exact ⟨n + 1, M2, int_eq (by omega), by omega, by omega, hown3, hbel2, HM3⟩
          | false =>
            have HM3 : Hid (M2 ++ [c] = nrow r M (n + 1)) := by unfold Hid; rw [← HN, nstep, hc, if_neg (by rw [hm]; simp)]
            rw [fx_no (fun e => by rw [memB_iff.2 e] at hm; exact absurd hm (by simp))] at HAS
            have HC : Hid (Calls Tryd.prog 89 #[.slice ao3 M2.length cap3, .string c] wr fun e w' => e = .returned (.int .i64 (-1)) ∧ w' = wr) := HAS
            clear hm HN HAS
            go_wp2_with fail
            refine HC.out.mono ?_
            rintro e w2 ⟨rfl, rfl⟩
            go_wp2_with fail
            refine (flatNode_any c R _ cap1 _ _ (by omega) HF.out hcs (own_below hown1 hbel2)).mono ?_
            rintro e w3 ⟨rfl, hb3⟩
            obtain ⟨h, hh⟩ : ∃ h, heightF R c = h := ⟨_, rfl⟩
            have hh12 : h ≤ 12 := by have := heightF_le (b := c) HF.out; omega
            obtain ⟨P, hP⟩ : ∃ P : Nat, P = 2 ^ h := ⟨_, rfl⟩
            rw [hh, ← hP]
            have HK : Hid (flatK R c = ⟨c, h, h, (P : Int)⟩) := by unfold Hid flatK; rw [hh, hP]
            clear hh hP
            have hown4 := own_below hown3 hb3
            have hz3 := hb3.size
            have hbel3 : Below w1.heap.size w1 w3 := hbel2.trans (hb3.mono hwz)
            go_wp2_with (at_builtin; refine wpList_append_own _ rfl (.tmp 39) (.tmp 41) 74 rfl w1.heap.size 76 i0 _ 4 40 Tryd.underlying74 hi hz0 hz1 hz2 rfl (by decide) _ _ _ rfl ((hown4.alloc _).alloc _) ⟨w3.heap.size + 1, 0, none⟩ 1 1 [.string c, .int .i64 h, .int .i64 h, .int .i64 P] rfl rfl ?c1 ?c2 ?c3 ?c4 ?c5 ?_)
            case c1 =>
              intro j u hj
              match j, hj with
              | 0, hj => simp at hj; subst hj; simp [Addr.add]
              | 1, hj => simp at hj; subst hj; simp [Addr.add]
              | 2, hj => simp at hj; subst hj; simp [Addr.add]
              | 3, hj => simp at hj; subst hj; simp [Addr.add]
            case c2 => intro u hu; simp at hu; rcases hu with rfl | rfl | rfl | rfl <;> rfl
            case c3 => unfold maxLen; omega
            case c4 => omega
            case c5 => simp; omega
            intro v' w4 hown5 hgrow _
            have hb5 : Below w1.heap.size w1 w4 := ((hbel3.alloc hbel3.size _).alloc (by simp; omega) _).grown hgrow (by simp; omega) (fun k hk => by have := hown4.lt k hk; omega)
            go_wp2_with fail
            go_roundg (gk - 1)
            case measure => omega
            case rel =>
              refine ⟨n + 1, M2 ++ [c], int_eq (by omega), by omega, by simp; omega, ?_, hb5, HM3⟩
              rw [List.length_append, List.map_append, List.map_cons, List.map_nil, HK.out, tnc_snoc]
              exact hown5
        · have hfin : Hid (M2 = nodesF (R.take (i + 1))) := by
            unfold Hid; rw [HT.out, HM2.out, show n = r.size from by omega]
          go_wp2_with fail
          go_roundg (R.length - (i + 1))
          case measure => omega
          case rel => exact ⟨i + 1, M2, int_eq (by omega), by omega, by omega, hown3, hbel2, hfin⟩
    · go_wp2_with fail
      go_ret
      have hh := HM.out
      rw [List.take_of_length_le (by omega)] at hh
      rw [HRR.out, ← hh]
      exact ⟨_, _, rfl, own_base hown2 hz, hb1.trans (hbel.mono hz)⟩
end Go.Proofs.YtdfnmpmmkcpddaaDoor
