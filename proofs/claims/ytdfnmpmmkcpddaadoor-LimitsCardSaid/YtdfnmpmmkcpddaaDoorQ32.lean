import Derived.Test.YtdfnmpmmkcpddaaDoorQ27
import Derived.Test.YtdfnmpmmkcpddaaDoorQ31
/- The walks of the program's Compile: the image. -/
namespace Go.Proofs.YtdfnmpmmkcpddaaDoor
open Go.RowKit

theorem targ_all {w0 : World} {L : List Rt} {aoL : Option Addr} {capL g0 capV : Nat} {lv : List Value} (H : Fx w0 L aoL capL g0 capV lv) : ∀ k, k ≤ lv.length → TgC w0 L aoL capL g0 capV k
  | 0, _ => targ_zero H
  | k + 1, h => targ_next H (by omega) (node_any H (by omega) (targ_all H k (by omega)))

set_option maxRecDepth 100000 in
set_option maxHeartbeats 2000000 in
theorem compileTable_any (L : List Rt) (W d : Nat) (ao : Option Addr) (cap base : Nat) (w : World) (hl : L.length ≤ 24) (hF : ∀ r ∈ ordR L, r.bits.size ≤ 12) (hB : Bits (ordR L)) (hH : ∀ r ∈ ordR L, r.hop ≤ 250) (hW : W ≤ 12) (hd1 : 1 ≤ d) (hd : d ≤ 12) (hown : w.ownsRow base 78 2 (.slice ao L.length cap) L.length (rc L)) :
    Calls Tryd.prog 40 #[.slice ao L.length cap, .int .i64 W, .int .i64 d] w fun e w' => e = .returned (.string (cF (ordR L) W d)) ∧ Below w.heap.size w w' := by
  have HTL := treeLevels_any L d ao cap base w hl hF hd1 hd hown
  obtain ⟨x, hx⟩ : ∃ x, tgF (ordR L) d ⟨#[]⟩ = x := ⟨_, rfl⟩
  have hxs := tg_small hB hF hH d ⟨#[]⟩
  have hxh := tg_hop hH d ⟨#[]⟩
  have hxd := tg_few hF hH d ⟨#[]⟩
  rw [hx] at hxs hxh hxd
  have hls := layF_size [x]
  have hln : (layN [x]).size = x.m.size := by simp only [layN, ByteArray.size_append]; rfl
  rw [hln] at hls
  simp only [List.length_cons, List.length_nil] at hls
  obtain ⟨Y, hY⟩ : ∃ Y, layF [x] = Y := ⟨_, rfl⟩
  rw [hY] at hls
  have hYs : Y.size ≤ 20482 := by omega
  clear hls hln
  have HCF : Hid (cF (ordR L) W d = (⟨#[70, 73]⟩ ++ o1 W ++ o1 x.d ++ u2 (6 + Y.size + 2) ++ Y) ++ u2 (sumF (⟨#[70, 73]⟩ ++ o1 W ++ o1 x.d ++ u2 (6 + Y.size + 2) ++ Y) (⟨#[70, 73]⟩ ++ o1 W ++ o1 x.d ++ u2 (6 + Y.size + 2) ++ Y).size)) := by
    unfold Hid cF bodyF; rw [hx, hY]
  have HTG : Hid (∀ (w1 : World) (g0 capV : Nat) (lv : List Value), lv.length = d → Fx w1 L ao cap g0 capV lv → Calls Tryd.prog 63 #[.slice ao L.length cap, .slice (some ⟨g0, 0, none⟩) d capV, .string ⟨#[]⟩] w1 fun e w' => e = .returned (tgV x) ∧ Below w1.heap.size w1 w') := fun w1 g0 capV lv hlv H => by
    have := targ_all H d (by omega) ⟨#[]⟩ w1 (Nat.zero_le _) (Below.refl _ _)
    rw [hx] at this
    exact this
  have HLT : Hid (∀ (w1 : World) (ao' : Option Addr) (cap' base' : Nat), w1.ownsRow base' 84 3 (.slice ao' 1 cap') 1 [.int .i64 x.h, .string x.m, .int .i64 x.d] → Calls Tryd.prog 64 #[.slice ao' 1 cap'] w1 fun e w' => e = .returned (.string Y) ∧ Below w1.heap.size w1 w') := fun w1 ao' cap' base' ho => by
    have := layTargets_any [x] ao' cap' base' w1 (by rw [hY]; omega) (fun y hy => by rw [List.mem_singleton.1 hy]; exact hxh) ho
    rw [hY] at this
    exact this
  have HFX : Hid (∀ (w1 : World) (g0 capV : Nat) (lv : List Value), Below w.heap.size w w1 → lv.length = d → w1.ownsRow w.heap.size 74 1 (.slice (some ⟨g0, 0, none⟩) d capV) d lv → g0 < w1.heap.size → d ≤ capV → capV ≤ maxLen → Lev w1 (ordR L) (nodesF (ordR L)) lv → Fx w1 L ao cap g0 capV lv) := fun w1 g0 capV lv h1 h2 h3 h4 h5 h6 h7 =>
    ⟨hl, hF, hB, hH, ⟨base, own_below hown h1⟩, h7, fun i hi => h3.cellAt i (by omega), h4, by omega, h6, by omega⟩
  have HTL' : Hid (Calls Tryd.prog 59 #[.slice ao L.length cap, .int .i64 d] w fun e w' => ∃ ao' cap' lv, e = .returned (.slice ao' d cap') ∧ lv.length = d ∧ w'.ownsRow w.heap.size 74 1 (.slice ao' d cap') d lv ∧ Lev w' (ordR L) (nodesF (ordR L)) lv ∧ Below w.heap.size w w') := HTL
  clear HTL hx hY hF hB hH hown
  go_enter Tryd.func40, Tryd.ntmps40
  go_wp2_with fail
  refine HTL'.out.mono ?_
  rintro e w1 ⟨ao1, cap1, lv, rfl, hlv, hown1, hLev, hb1⟩
  obtain ⟨g, rfl, hg1, hg2, hg3, hg4⟩ := own_some hown1 (by omega)
  have hfx := HFX.out w1 g cap1 lv hb1 hlv hown1 hg2 hg3 hg4 hLev
  have HTG1 := HTG.out w1 g cap1 lv hlv hfx
  have HTG2 : Hid (Calls Tryd.prog 63 #[.slice ao L.length cap, .slice (some ⟨g, 0, none⟩) d cap1, .string ⟨#[]⟩] w1 fun e w' => e = .returned (tgV x) ∧ Below w1.heap.size w1 w') := HTG1
  clear HTG1 hfx hown1 hLev hg4 hg3 HFX HTG
  go_wp2_with fail
  refine HTG2.out.mono ?_
  rintro e w2 ⟨rfl, hb2⟩
  unfold tgV
  go_wp2_with fail
  have hA : ((w2.alloc (.cells #[.int .i64 x.h, .string x.m, .int .i64 x.d] 84)).alloc (.cells #[.int .i64 x.h, .string x.m, .int .i64 x.d] 84)).ownsRow w2.heap.size 84 3 (.slice (some ⟨w2.heap.size + 1, 0, none⟩) 1 1) 1 [.int .i64 x.h, .string x.m, .int .i64 x.d] := by
    have := World.ownsRow_lit (base := w2.heap.size) (e := 84) (size := 3) (w2.alloc (.cells #[.int .i64 x.h, .string x.m, .int .i64 x.d] 84)) #[.int .i64 x.h, .string x.m, .int .i64 x.d] 1 (by simp) (by unfold maxLen; omega) rfl
    rw [show (w2.alloc (.cells #[.int .i64 x.h, .string x.m, .int .i64 x.d] 84)).heap.size = w2.heap.size + 1 from by simp] at this
    exact this
  refine (HLT.out _ _ _ _ hA).mono ?_
  rintro e w3 ⟨rfl, hb3⟩
  have hG3 := ((Gb.new w2 x.h x.m x.d).below ((Below.refl _ _).alloc (Nat.le_refl _) (.cells #[.int .i64 x.h, .string x.m, .int .i64 x.d] 84))).below hb3
  have hB3 : Below w.heap.size w w3 := (hb1.trans (hb2.mono hb1.size)).trans ((((Below.refl _ _).alloc (by have := hb1.size; have := hb2.size; omega) _).alloc (by have := hb1.size; have := hb2.size; simp; omega) _).trans (hb3.mono (by have := hb1.size; have := hb2.size; simp; omega)))
  obtain ⟨c0, c1, c2⟩ := hG3.cells
  obtain ⟨V, hV⟩ : ∃ V, 6 + Y.size + 2 = V := ⟨_, rfl⟩
  have hVi : 6 + (Y.size : Int) + 2 = (V : Int) := by omega
  have hVb : V < 65536 := by omega
  rw [hV] at HCF
  have hW256 : W < 256 := by omega
  have hD256 : x.d < 256 := by omega
  have s1 := o1_size W
  have s2 := o1_size x.d
  have s3 := u2_size V
  clear hA hV
  have hlt2 := hG3.lt
  have e2 : w3.drew.cell? ⟨w2.heap.size, 2, none⟩ = some (.int .i64 x.d) := c2
  obtain ⟨T, hT⟩ : ∃ T, (⟨#[70, 73]⟩ : ByteArray) ++ o1 W ++ o1 x.d ++ u2 V ++ Y = T := ⟨_, rfl⟩
  have hTs : T.size ≤ 30000 := by rw [← hT]; simp only [ByteArray.size_append, s1, s2, s3]; have : (⟨#[70, 73]⟩ : ByteArray).size = 2 := rfl; omega
  have HT : Hid ((⟨#[70, 73]⟩ : ByteArray) ++ o1 W ++ o1 x.d ++ u2 V ++ Y = T) := hT
  rw [hT] at HCF
  clear hT
  obtain ⟨Sm', hSm⟩ : ∃ v, sumF T T.size = v := ⟨_, rfl⟩
  have hSb : Sm' < 65536 := by have := sumF_lt T T.size; omega
  have HSU : Hid (∀ w : World, Calls Tryd.prog 67 #[.string T] w fun e w' => e = .returned (.int .i64 Sm') ∧ w' = w) := fun w => by
    have := sumOf_any T w (by omega)
    rw [hSm] at this
    exact this
  rw [hSm] at HCF
  have s4 := u2_size Sm'
  clear hSm
  go_wp2_with fail
  go_region_with (first | (go_at_call 66; refine (numberText_any V _ hVb).mono ?_; rintro e w6 ⟨rfl, hb6⟩) | (go_at_call 65; refine (byteText_any W _ hW256).mono ?_; rintro e w4 ⟨rfl, hb4⟩; have hb4' : Below w3.heap.size w3 w4 := (below_drewN (Below.refl w3.heap.size w3) 1).trans hb4; have c4 : w4.cell? ⟨w2.heap.size, 2, none⟩ = some (.int .i64 x.d) := (hb4'.cell (p := ⟨w2.heap.size, 2, none⟩) hlt2).trans c2) | (go_at_call 65; refine (byteText_any x.d _ hD256).mono ?_; rintro e w5 ⟨rfl, hb5⟩))
  all_goals
    have hB6 : Below w.heap.size w w6 := ((hB3.trans (hb4'.mono hB3.size)).trans (hb5.mono (by have := hB3.size; have := hb4'.size; omega))).trans (hb6.mono (by have := hB3.size; have := hb4'.size; have := hb5.size; omega))
    go_wp2_with fail
    rw [HT.out]
    refine (HSU.out _).mono ?_
    rintro e w7 ⟨rfl, rfl⟩
    go_wp2_with fail
    refine (numberText_any Sm' _ hSb).mono ?_
    rintro e w8 ⟨rfl, hb8⟩
    go_wp2_with fail
    go_ret
    rw [HCF.out]
    exact ⟨rfl, hB6.trans (hb8.mono hB6.size)⟩

set_option maxRecDepth 100000 in
theorem compile_fib (s : ByteArray) (W D L : Int) (w : World) (hm : s.size ≤ maxLen) (iL : InI64 L) :
    Calls Tryd.prog 26 #[.string s, .int .i64 W, .int .i64 D, .int .i64 L] w fun e w' => e = .returned (.tuple #[.string (cmpS cF s W D L), .int .i64 (cmpE cF s W D L)]) ∧ Below w.heap.size w w' := by
  have HR := readForDepth_any s W D w hm
  by_cases he : prE s W D = 0
  · obtain ⟨h1, h2, h3⟩ := prE_zero he
    obtain ⟨hs, hW1, hW2, hlen⟩ := t_zero h1
    obtain ⟨W, rfl⟩ := Int.eq_ofNat_of_zero_le (show 0 ≤ W by omega)
    obtain ⟨D, rfl⟩ := Int.eq_ofNat_of_zero_le (show 0 ≤ D by omega)
    rw [he] at HR
    have HRR : Hid (Calls Tryd.prog 35 #[.string s, .int .i64 W, .int .i64 D] w fun e w' => ∃ ao cap, e = .returned (.tuple #[.slice ao (tRts s W).length cap, .int .i64 0]) ∧
      w'.ownsRow w.heap.size 78 2 (.slice ao (tRts s W).length cap) (tRts s W).length (rc (tRts s W)) ∧ Below w.heap.size w w') := by
      refine HR.mono ?_
      rintro e w' ⟨ao, n, cap, rfl, g2, g3⟩
      obtain ⟨rfl, g2⟩ := g2 rfl
      exact ⟨ao, cap, rfl, g2, g3⟩
    have hB := ord_bits h1 hs (by omega) (by omega)
    have hS : ∀ r ∈ ordR (tRts s W), r.bits.size ≤ 12 := fun r hr => (ordR_fit (tRts_fit s W) r hr).1
    have hH : ∀ r ∈ ordR (tRts s W), r.hop ≤ 250 := fun r hr => (ordR_fit (tRts_fit s W) r hr).2.2
    have hsz := cF_size (ordR (tRts s W)) W D
    have hsm := tg_small hB hS hH D ⟨#[]⟩
    have HCT : Hid (∀ (w : World) (ao : Option Addr) (cap base : Nat), w.ownsRow base 78 2 (.slice ao (tRts s W).length cap) (tRts s W).length (rc (tRts s W)) → Calls Tryd.prog 40 #[.slice ao (tRts s W).length cap, .int .i64 W, .int .i64 D] w fun e w' => e = .returned (.string (cF (ordR (tRts s W)) W D)) ∧ Below w.heap.size w w') := fun w ao cap base ho =>
      compileTable_any (tRts s W) W D ao cap base w hlen hS hB hH (by omega) (by omega) (by omega) ho
    have e1 : cmpE cF s W D L = if L < (cF (ordR (tRts s W)) W D).size then 5 else 0 := by unfold cmpE; rw [if_pos he, Int.toNat_natCast, Int.toNat_natCast]
    have e2 : cmpS cF s W D L = if cmpE cF s W D L = 0 then cF (ordR (tRts s W)) W D else ⟨#[]⟩ := by unfold cmpS; rw [Int.toNat_natCast, Int.toNat_natCast]
    obtain ⟨m, hme⟩ : ∃ m, cF (ordR (tRts s W)) W D = m := ⟨_, rfl⟩
    rw [hme] at e1 e2 hsz HCT
    have hmb : m.size ≤ 30000 := by omega
    clear HR he h1 hm hB hS hH hsz hsm hme
    obtain ⟨j1, j2⟩ := iL
    by_cases hL : L < m.size
    · rw [if_pos hL] at e1
      rw [e1, if_neg (by omega)] at e2
      rw [e1, e2]
      go_enter Tryd.func26, Tryd.ntmps26
      go_wp2_with fail
      refine HRR.out.mono ?_
      rintro e w1 ⟨ao, cap, rfl, hown, hb1⟩
      go_wp2_with fail
      refine (HCT.out _ _ _ _ hown).mono ?_
      rintro e w2 ⟨rfl, hb2⟩
      go_wp2_with fail
      go_ret2
      exact ⟨rfl, hb1.trans (hb2.mono hb1.size)⟩
    · rw [if_neg hL] at e1
      rw [e1, if_pos rfl] at e2
      rw [e1, e2]
      go_enter Tryd.func26, Tryd.ntmps26
      go_wp2_with fail
      refine HRR.out.mono ?_
      rintro e w1 ⟨ao, cap, rfl, hown, hb1⟩
      go_wp2_with fail
      refine (HCT.out _ _ _ _ hown).mono ?_
      rintro e w2 ⟨rfl, hb2⟩
      have hd : decide (L < (m.size : Int)) = false := by rw [decide_eq_false_iff_not]; omega
      go_wp2_with fail
      go_ret2
      exact ⟨rfl, hb1.trans (hb2.mono hb1.size)⟩
  · have e1 : cmpE cF s W D L = prE s W D := by unfold cmpE; rw [if_neg he]
    have e2 : cmpS cF s W D L = ⟨#[]⟩ := by unfold cmpS; rw [e1, if_neg he]
    rw [e1, e2]
    have hEb : ((prE s W D : Int) != 0) = true := by rw [bne_iff_ne]; omega
    have HRR : Hid (Calls Tryd.prog 35 #[.string s, .int .i64 W, .int .i64 D] w fun e w' => ∃ ao n cap, e = .returned (.tuple #[.slice ao n cap, .int .i64 (prE s W D)]) ∧
      (prE s W D = 0 → n = (tRts s W).length ∧ w'.ownsRow w.heap.size 78 2 (.slice ao n cap) n (rc (tRts s W))) ∧ Below w.heap.size w w') := HR
    clear HR he hm e1 e2
    go_enter Tryd.func26, Tryd.ntmps26
    go_wp2_with fail
    refine HRR.out.mono ?_
    rintro e w1 ⟨ao, n, cap, rfl, _, hb1⟩
    go_wp2_with fail
    go_ret2
    exact ⟨rfl, hb1⟩

/-- What was to be shown of Compile. -/
theorem comp_fib : CompH cF := ⟨compile_fib, fun _ _ _ he => cF_comp he⟩
end Go.Proofs.YtdfnmpmmkcpddaaDoor
