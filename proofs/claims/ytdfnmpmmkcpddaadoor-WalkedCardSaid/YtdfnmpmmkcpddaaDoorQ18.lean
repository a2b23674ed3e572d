import Derived.Test.YtdfnmpmmkcpddaaDoorQ12
import Derived.Maps.AppendAt
/- The walk of the document's cost. -/
namespace Go.Proofs.YtdfnmpmmkcpddaaDoor
open Go.RowKit

/-- What a call of cost answers and leaves. -/
def CostC (D : List Rt) (B : Nat) (ao : Option Addr) (cap : Nat) (k : Nat) : Prop := ∀ (b : ByteArray) (ks : List Kn) (vk : Value) (w : World), b.size ≤ 12 → Sm w B (.slice ao D.length cap) vk →
    w.ownsRow 0 98 2 (.slice ao D.length cap) D.length (rc D) → w.ownsRow (B + 1) 123 3 vk ks.length (kc ks) → Right D ks → ks.length + 1 + tc D b * 3 ^ heightF D b ≤ 100000000 →
    Calls Tryd.prog 76 #[.pointer (some ⟨B, 0, none⟩), .string b, .int .i64 k] w fun e w' => e = .returned (.int .i64 (costZ D k b)) ∧ ∃ (ks' : List Kn) (vk' : Value), Sm w' B (.slice ao D.length cap) vk' ∧
      w'.ownsRow (B + 1) 123 3 vk' ks'.length (kc ks') ∧ Right D ks' ∧ ks'.length ≤ ks.length + 1 + tc D b * 3 ^ heightF D b ∧ Fr B w vk w' vk'

theorem least_step {D : List Rt} {b : ByteArray} {k t : Nat} {f : ByteArray → Int} {U : List ByteArray} {lz n : Int} (ht : 1 ≤ t) (HU : underF D b t = U) (hk : 0 < U.length → 1 ≤ k) (HL : lz = leastF D b k f (t - 1)) (HN : n = U.foldl (fun n c => n + f c) ((2 ^ t : Nat) : Int)) :
    leastF D b k f (t + 1 - 1) = if lz < 0 ∨ n < lz then n else lz := by
  obtain ⟨s, rfl⟩ : ∃ s, t = s + 1 := ⟨t - 1, by omega⟩
  rw [show s + 1 - 1 = s from rfl] at HL
  rw [show s + 1 + 1 - 1 = s + 1 from rfl, leastF, cstep, HU, ← HL, ← HN, if_neg]
  rintro ⟨h1, h2⟩
  have := hk (List.length_pos_iff.2 h1)
  omega
theorem low_row {D : List Rt} {B : Nat} {ao : Option Addr} {cap : Nat} {w w' : World} {v v' : Value} {n : Nat} {xs : List Value} (hao : ∀ g, ao = some g → g.block < B) (hD : w.ownsRow 0 98 2 (.slice ao D.length cap) D.length (rc D)) (hown : w.ownsRow (B + 1) 123 3 v n xs) (hfr : Fr B w v w' v') :
    w'.ownsRow 0 98 2 (.slice ao D.length cap) D.length (rc D) :=
  hfr.row hD (by
    intro g hg
    cases ao with
    | none => simp [Value.ownBlock] at hg
    | some a => simp [Value.ownBlock] at hg; have := hao a rfl; exact ⟨by omega, fun e => by have := hown.lt g e; omega⟩)
theorem fold_take (f : ByteArray → Int) (U : List ByteArray) {j : Nat} (h : j < U.length) (z : Int) : (U.take (j + 1)).foldl (fun n c => n + f c) z = (U.take j).foldl (fun n c => n + f c) z + f U[j] := by
  rw [List.take_succ_eq_append_getElem h, List.foldl_append]; rfl

set_option maxRecDepth 100000 in
set_option maxHeartbeats 4000000 in
theorem cost_any (D : List Rt) (B : Nat) (ao : Option Addr) (cap : Nat) (hl : D.length ≤ 24) (hS : ∀ r ∈ D, r.bits.size ≤ 12) (hao : ∀ g, ao = some g → g.block < B) : ∀ k, 1 ≤ k → k ≤ 12 → CostC D B ao cap k := by
  intro k
  induction k with
  | zero => intro h; omega
  | succ k ih =>
    intro _ hk b ks vk w hb hsm hD hown hR hroom
    obtain ⟨i0, hi, hz0, hz1, hz2⟩ := info_parts Tryd.infoKnown
    obtain ⟨c0, c1⟩ := hsm.cells
    obtain ⟨aok, capk, rfl⟩ := own_shape hown
    have hksl : ks.length ≤ 100000000 := by omega
    have HR : Hid (Right D ks) := hR
    have HROOM : Hid (ks.length + 1 + tc D b * 3 ^ heightF D b ≤ 100000000) := hroom
    have HC : Hid (1 ≤ k → CostC D B ao cap k) := fun h => ih h (by omega)
    clear hR hroom ih
    go_enter Tryd.func76, Tryd.ntmps76
    go_wp2_with fail
    go_loopg [7] ks.length (fun g x wr => ∃ i : Nat, wr = w ∧ x = .int .i64 i ∧ g + i = ks.length)
    case atStart => exact ⟨0, rfl, rfl, by omega⟩
    case round =>
      obtain ⟨i, rfl, rfl, hgi⟩ := hrel
      by_cases hlt : i < ks.length
      · obtain ⟨g, rfl, hg1, hg2, hg3, hg4⟩ := own_some hown (by omega)
        unfold maxLen at hg4
        obtain ⟨k0, k1, k2⟩ := kc_at ks i ks[i] (by simp)
        have d0 := (hown.cellAt (i * 3) (by omega)).trans k0
        have d1 := (hown.cellAt (i * 3 + 1) (by omega)).trans k1
        have d2 := (hown.cellAt (i * 3 + 2) (by omega)).trans k2
        clear k0 k1 k2
        by_cases hk1 : ks[i].k = k + 1
        · have hd : ((ks[i].k : Int) == (k : Int) + 1) = true := by rw [beq_iff_eq]; omega
          by_cases hb1 : ks[i].b = b
          · have hbe := ba_eq hb1
            have HE : Hid (ks[i].n = costZ D (k + 1) b) := by have := HR.out ks[i] (List.getElem_mem hlt); rw [hk1, hb1] at this; exact this
            clear hb1 hk1
            go_wp2_with fail
            go_ret
            exact ⟨ret1 (int_eq HE.out), ks, _, hsm, hown, HR.out, by omega, Fr.refl _ _ _⟩
          · have hbe := ba_ne hb1
            clear hb1 hk1
            go_wp2_with fail
            go_roundg (gk - 1)
            case measure => omega
            case rel => exact ⟨i + 1, rfl, int_eq (by omega), by omega⟩
        · have hd : ((ks[i].k : Int) == (k : Int) + 1) = false := by rw [beq_eq_false_iff_ne]; omega
          clear hk1
          go_wp2_with fail
          go_roundg (gk - 1)
          case measure => omega
          case rel => exact ⟨i + 1, rfl, int_eq (by omega), by omega⟩
      · go_wp2_with fail
        refine (rheight_any b D ao cap 0 _ (by omega) hS hb hD).mono ?_
        rintro e w1 ⟨rfl, rfl⟩
        obtain ⟨h, hh⟩ : ∃ h, heightF D b = h := ⟨_, rfl⟩
        obtain ⟨T, hT⟩ : ∃ T, tc D b = T := ⟨_, rfl⟩
        have hh12 : h ≤ 12 := by have := heightF_le (b := b) hS; omega
        have HH : Hid (heightF D b = h) := hh
        have HT : Hid (tc D b = T) := hT
        rw [hh]
        rw [hh, hT] at HROOM
        clear hh hT
        have hsz0 := hsm.lt
        go_wp2_with fail
        go_loopg [8, 10] h (fun g x y wr => ∃ (t : Nat) (lz : Int) (ks' : List Kn) (vk' : Value), x = .int .i64 lz ∧ y = .int .i64 t ∧ g + t = h + 1 ∧ 1 ≤ t ∧ -1 ≤ lz ∧ lz ≤ 300000 ∧ Sm wr B (.slice ao D.length cap) vk' ∧
          wr.ownsRow (B + 1) 123 3 vk' ks'.length (kc ks') ∧ Hid (Right D ks') ∧ Hid (ks'.length + T * 3 ^ (h + 1 - t) ≤ ks.length + T * 3 ^ h) ∧ Fr B w1 (.slice aok ks.length capk) wr vk' ∧ Hid (lz = leastF D b k (costZ D k) (t - 1)))
        case atStart => exact ⟨1, -1, ks, _, rfl, rfl, by omega, by omega, by omega, by omega, hsm, hown, HR, Nat.le_refl _, Fr.refl _ _ _, rfl⟩
        case round =>
          obtain ⟨t, lz, ks', vk', rfl, rfl, hgs, ht1, hlz1, hlz2, hsm', hown', HR', HROOM', hfr, HL⟩ := hrel
          obtain ⟨aok', capk', rfl⟩ := own_shape hown'
          have hD' := low_row hao hD hown hfr
          obtain ⟨c0', c1'⟩ := hsm'.cells
          have hsz' := hsm'.lt
          by_cases hsh : t ≤ h
          · obtain ⟨p1, p3, p4⟩ := wrap_pow (W := t) (by omega)
            go_wp2_with fail
            refine (runder_any b t D ao cap 0 _ (by omega) hS hb (by omega) hD').mono ?_
            rintro e w2 ⟨ao2, cap2, rfl, hown2, hb2⟩
            obtain ⟨U, hU⟩ : ∃ U, underF D b t = U := ⟨_, rfl⟩
            have hUl : U.length ≤ 24 := by have := underF_length D b t; rw [hU] at this; omega
            rw [hU] at hown2 ⊢
            have HU : Hid (underF D b t = U) := hU
            clear hU
            have hfr2 : Fr B wr (.slice aok' ks'.length capk') w2 (.slice aok' ks'.length capk') := Fr.more hsz' hb2
            have hcase : (0 < U.length ∧ k = 0) ∨ ((U.length = 0 ∨ (0 < U.length ∧ 1 ≤ k))) := by omega
            rcases hcase with ⟨hA1, hA2⟩ | hBC
            · have hd : ((k : Int) + 1 == 1) = true := by rw [beq_iff_eq]; omega
              have HA2 : Hid (k = 0) := hA2
              clear hA2
              go_wp2_with fail
              go_roundg (h - t)
              case measure => omega
              case rel =>
                refine ⟨t + 1, lz, ks', _, rfl, int_eq (by omega), by omega, by omega, hlz1, hlz2, hsm'.below hb2, own_below hown' hb2, HR', ?_, hfr.trans hfr2, ?_⟩
                · have := HROOM'.out
                  rw [show h + 1 - t = (h - t) + 1 from by omega, Nat.pow_succ, Nat.mul_comm (3 ^ (h - t)) 3] at this
                  rw [show h + 1 - (t + 1) = h - t from by omega]
                  exact room_skip this
                · unfold Hid
                  obtain ⟨s, rfl⟩ : ∃ s, t = s + 1 := ⟨t - 1, by omega⟩
                  rw [show s + 1 + 1 - 1 = s + 1 from by omega, leastF, cstep, if_pos ⟨by rw [HU.out]; intro e; rw [e] at hA1; simp at hA1, HA2.out⟩, HL.out]
                  rfl
            · have hkU : 0 < U.length → 1 ≤ k := by omega
              have HF : Hid (∀ c ∈ U, 2 ≤ costZ D k c ∧ costZ D k c ≤ 4096) := by
                intro c hc
                exact cost_bd hS k c (hkU (List.length_pos_of_mem hc)) (under_height (by rw [HU.out]; exact hc))
              have HRM : Hid (ks'.length + tsum D U * (2 * 3 ^ (h - t)) + T * 3 ^ (h - t) ≤ ks.length + T * 3 ^ h) := by
                have := HROOM'.out
                rw [show h + 1 - t = (h - t) + 1 from by omega, Nat.pow_succ, Nat.mul_comm (3 ^ (h - t)) 3] at this
                refine room_start this ?_
                rw [← HT.out, ← HU.out]; exact under_tsum D b t
              have hd : (((k : Int) + 1 == 1) = false ∧ 0 < U.length) ∨ ¬ 0 < U.length := by
                rcases hBC with h0 | h0
                · right; omega
                · left; exact ⟨by rw [beq_eq_false_iff_ne]; omega, h0.1⟩
              clear HROOM' hBC
              rcases hd with ⟨hd, h0⟩ | h0
              all_goals
                go_wp2_with fail
                go_loopg [12, 13] U.length (fun g x y wr2 => ∃ (j : Nat) (n : Int) (ks2 : List Kn) (vk2 : Value), x = .int .i64 n ∧ y = .int .i64 j ∧ g + j = U.length ∧ 0 ≤ n ∧ n ≤ 4096 + 4096 * (j : Int) ∧ Sm wr2 B (.slice ao D.length cap) vk2 ∧
                  wr2.ownsRow (B + 1) 123 3 vk2 ks2.length (kc ks2) ∧ Hid (Right D ks2) ∧ Hid (ks2.length + tsum D (U.drop j) * (2 * 3 ^ (h - t)) + T * 3 ^ (h - t) ≤ ks.length + T * 3 ^ h) ∧ Fr B w2 (.slice aok' ks'.length capk') wr2 vk2 ∧ Hid (n = (U.take j).foldl (fun n c => n + costZ D k c) ((2 ^ t : Nat) : Int)))
                case atStart => exact ⟨0, ((2 ^ t : Nat) : Int), ks', _, int_eq p1, rfl, by omega, by omega, by omega, hsm'.below hb2, own_below hown' hb2, HR', HRM, Fr.refl _ _ _, rfl⟩
                case round =>
                  obtain ⟨j, n, ks2, vk2, rfl, rfl, hgj, hn1, hn2, hsm2, hown2k, HR2, HRM2, hfr3, HN⟩ := hrel
                  obtain ⟨aok2, capk2, rfl⟩ := own_shape hown2k
                  clear p1
                  by_cases hju : j < U.length
                  · have hfrA := hfr.trans (hfr2.trans hfr3)
                    have hD2 := low_row hao hD hown hfrA
                    have hU2 := hfr3.row hown2 (by
                      intro g hg
                      have h1 := hown2.lt g hg
                      exact ⟨by omega, fun e => by have := hown'.lt g e; omega⟩)
                    obtain ⟨gu, rfl, hgu1, hgu2, hgu3, hgu4⟩ := own_some hU2 (by omega)
                    unfold maxLen at hgu4
                    have hcu := (hU2.cellAt j (by omega)).trans (sc_at U hju)
                    have hcj := HF.out U[j] (List.getElem_mem hju)
                    have hcm : U[j] ∈ underF D b t := by rw [HU.out]; exact List.getElem_mem hju
                    obtain ⟨hf1, hf2, hf3⟩ := under_facts hcm
                    have hlow := under_low hcm
                    have hcs : U[j].size ≤ 12 := by
                      obtain ⟨r, hr, _, hlt, he⟩ := underF_mem.1 hcm
                      have := hS r hr
                      rw [hf1]; omega
                    rw [HH.out] at hlow
                    have hq : 3 ^ heightF D U[j] ≤ 3 ^ (h - t) := Nat.pow_le_pow_right (by omega) hlow
                    have hp1 : 1 ≤ 3 ^ (h - t) := Nat.pow_pos (by omega)
                    have hrm := HRM2.out
                    rw [tsum_drop D U j hju] at hrm
                    have hcall := room_call (L := 100000000) hrm (by have := HROOM.out; omega) hf3 hq hp1
                    have HSTEP : Hid (∀ n', n' ≤ ks2.length + 1 + tc D U[j] * 3 ^ heightF D U[j] → n' + tsum D (U.drop (j + 1)) * (2 * 3 ^ (h - t)) + T * 3 ^ (h - t) ≤ ks.length + T * 3 ^ h) := fun n' hn' => room_step hrm hf3 hq hp1 hn'
                    have hCC := HC.out (hkU (by omega)) U[j] ks2 _ wr hcs hsm2 hD2 hown2k HR2.out hcall
                    clear hrm hq hp1 hcm hf1 hf2 hf3 hlow HRM2 hcall
                    go_wp2_with fail
                    refine hCC.mono ?_
                    rintro e w4 ⟨rfl, ks4, vk4, hsm4, hown4, HR4, hlen4, hfr4⟩
                    obtain ⟨aok4, capk4, rfl⟩ := own_shape hown4
                    clear hCC
                    have HLEN : Hid (ks4.length ≤ ks2.length + 1 + tc D U[j] * 3 ^ heightF D U[j]) := hlen4
                    clear hlen4
                    go_wp2_with fail
                    go_roundg (gk - 1)
                    case measure => omega
                    case rel => exact ⟨j + 1, n + costZ D k U[j], ks4, _, int_eq (by omega), int_eq (by omega), by omega, by omega, by omega, hsm4, hown4, HR4, HSTEP.out _ HLEN.out, hfr3.trans hfr4, by unfold Hid; rw [fold_take _ U hju, ← HN.out]⟩
                  · have HN' : Hid (n = U.foldl (fun n c => n + costZ D k c) ((2 ^ t : Nat) : Int)) := by have := HN.out; rw [List.take_of_length_le (by omega)] at this; exact this
                    have HRM3 : Hid (ks2.length + T * 3 ^ (h + 1 - (t + 1)) ≤ ks.length + T * 3 ^ h) := by
                      have := HRM2.out
                      rw [show h + 1 - (t + 1) = h - t from by omega]
                      unfold Hid; omega
                    have HLS := least_step (D := D) (b := b) ht1 HU.out hkU HL.out HN'.out
                    have HLS' : Hid (leastF D b k (costZ D k) (t + 1 - 1) = if lz < 0 ∨ n < lz then n else lz) := HLS
                    have hfrA := hfr.trans (hfr2.trans hfr3)
                    clear HN HN' HLS HRM2 HL
                    by_cases hz : lz < 0
                    · go_wp2_with fail
                      go_roundg (h - t)
                      case measure => omega
                      case rel => exact ⟨t + 1, n, ks2, _, rfl, int_eq (by omega), by omega, by omega, by omega, by omega, hsm2, hown2k, HR2, HRM3, hfrA, by unfold Hid; rw [HLS'.out, if_pos (.inl hz)]⟩
                    · by_cases hz2 : n < lz
                      · go_wp2_with fail
                        go_roundg (h - t)
                        case measure => omega
                        case rel => exact ⟨t + 1, n, ks2, _, rfl, int_eq (by omega), by omega, by omega, by omega, by omega, hsm2, hown2k, HR2, HRM3, hfrA, by unfold Hid; rw [HLS'.out, if_pos (.inr hz2)]⟩
                      · go_wp2_with fail
                        go_roundg (h - t)
                        case measure => omega
                        case rel => exact ⟨t + 1, lz, ks2, _, rfl, int_eq (by omega), by omega, by omega, by omega, by omega, hsm2, hown2k, HR2, HRM3, hfrA, by unfold Hid; rw [HLS'.out, if_neg (by omega)]⟩
          · have hL1 : ks'.length + 1 ≤ 100000000 := by
              have h1 := HROOM'.out
              have h2 := HROOM.out
              omega
            have HLZ : Hid (lz = costZ D (k + 1) b) := by
              unfold Hid; rw [costZ, HH.out, HL.out, show t - 1 = h from by omega]
            go_wp2_with (at_builtin; refine wpList_append_own_at _ rfl (.tmp 110) (.tmp 115) 100 rfl (B + 1) 123 i0 _ 3 32 Tryd.underlying100 hi hz0 hz1 hz2 rfl (by decide) _ _ _ rfl (hown'.alloc _) ⟨wr.heap.size, 0, none⟩ 1 1 [.string b, .int .i64 ((k : Int) + 1), .int .i64 lz] rfl rfl ?c1 ?c2 ?c3 ?c4 ?c5 ?_)
            case c1 =>
              intro j u hj
              match j, hj with
              | 0, hj => simp at hj; subst hj; simp [Addr.add]
              | 1, hj => simp at hj; subst hj; simp [Addr.add]
              | 2, hj => simp at hj; subst hj; simp [Addr.add]
            case c2 => intro u hu; simp at hu; rcases hu with rfl | rfl | rfl <;> rfl
            case c3 => unfold maxLen; omega
            case c4 => omega
            case c5 => simp; omega
            intro v' w3 hown3 hgrow _ hat
            obtain ⟨ao3, cap3, rfl⟩ := own_shape hown3
            have hsm3 : Sm w3 B (.slice ao D.length cap) (.slice aok' ks'.length capk') := (hsm'.kept (World.grownBy_alloc wr _ none) (by simp)).kept hgrow (by
              intro e; have := hown'.lt B e.symm; omega)
            have hf3 := hsm3.free
            obtain ⟨d0, d1⟩ := hsm3.cells
            go_wp2_with fail
            go_ret
            refine ⟨ret1 (int_eq HLZ.out), ks' ++ [⟨b, k + 1, lz⟩], _, hsm3.setK _, ?_, HR'.out.snoc HLZ.out, ?_, ?_⟩
            · rw [List.length_append, kc_snoc]
              exact ownsRow_setCell_below hown3 (by simp) _
            · rw [List.length_append, HH.out, HT.out]
              have h1 := HROOM'.out
              simp only [List.length_cons, List.length_nil]
              omega
            · refine hfr.trans ⟨?_, ?_, ?_⟩
              · exact (((Below.refl B wr).alloc (by omega) _).grown hgrow (by simp; omega) (fun k hk => by have := hown'.lt k hk; omega)).setCell (by simp) _
              · intro j hj hjB hjv
                rw [Below.heap_setCell _ _ _ _ (by simpa using hjB), hgrow.block j (by simp; omega) (fun e => hjv e.symm), heap_alloc_old wr _ hj]
              · intro j hj
                rcases hat with h1 | h1
                · left; rw [← h1]; exact hj
                · right; rw [h1] at hj; simp at hj; omega
end Go.Proofs.YtdfnmpmmkcpddaaDoor
