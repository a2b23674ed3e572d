import Derived.Test.YtdfnmpmmkcpddaaDoorQ38
import Derived.Test.YtdfnmpmmkcpddaaDoorQ13
/- Alike: the law. -/
namespace Go.Proofs.YtdfnmpmmkcpddaaDoor
open Go.RowKit

theorem cmp_again {s t : ByteArray} {W : Int} (G : Again s t W) (D L : Int) : cmpE cF t W D L = cmpE cF s W D L ∧ cmpS cF t W D L = cmpS cF s W D L := by
  have e : cmpE cF t W D L = cmpE cF s W D L := by unfold cmpE; rw [G.rts, (G.cost D).2]
  exact ⟨e, by unfold cmpS; rw [e, G.rts]⟩
/-- Two tables with one print have one image. -/
theorem cmp_print {s q : ByteArray} {W D L : Int} (h1 : tErr s W = 0) (h2 : tErr q W = 0) (he : pText q W = pText s W) (h3 : cmpE cF q W D L = 0) : cmpS cF q W D L = cmpS cF s W D L := by
  have G1 := print_again h1
  have G2 := print_again h2
  have hr : ordR (tRts q W) = ordR (tRts s W) := by rw [← G1.rts, ← G2.rts, he]
  have hp : prE q W D = prE s W D := by rw [← (G1.cost D).2, ← (G2.cost D).2, he]
  have e : cmpE cF s W D L = 0 := by rw [← h3]; unfold cmpE; rw [hr, hp]
  unfold cmpS
  rw [e, h3, hr]
theorem tAt_zero {s : ByteArray} {W : Int} (h : tErr s W = 0) : tAt s W = 0 := by
  obtain ⟨hs, hW1, hW2, _⟩ := t_zero h
  obtain ⟨W, rfl⟩ := Int.eq_ofNat_of_zero_le (show 0 ≤ W by omega)
  cases ht : table s W with
  | mk o q =>
    cases o with
    | none => rw [(t_bad hs (by omega) (by omega) ht).2.1] at h; omega
    | some l =>
      by_cases hl : 24 < l.length
      · exact (t_many hs (by omega) (by omega) ht hl).2.2
      · exact (t_ok hs (by omega) (by omega) ht hl).2.2

set_option maxRecDepth 100000 in
set_option maxHeartbeats 4000000 in
theorem alike_step (k W D L A : Int) (s : ByteArray) (k' W' D' L' A' : Int) (q : ByteArray) (w : World) (hm : s.size ≤ maxLen) (hq : q.size ≤ maxLen) (hE : Env w) :
    Calls Tryd.prog 21 #[opV k W D L A s, opV k' W' D' L' A' q] w fun e w' => e = .returned (.bool true) ∧ Below w.heap.size w w' := by
  obtain ⟨wB, HWB, HO1, HO2, HBw, HzB⟩ : ∃ wB, Hid ((w.alloc (.cells #[.int .i64 k, .int .i64 W, .int .i64 D, .int .i64 L, .int .i64 A, .string s] 28)).alloc (.cells #[.int .i64 k', .int .i64 W', .int .i64 D', .int .i64 L', .int .i64 A', .string q] 28) = wB) ∧
      Hid (wB.heap[w.heap.size]? = some (.cells #[.int .i64 k, .int .i64 W, .int .i64 D, .int .i64 L, .int .i64 A, .string s] 28 (0, 0))) ∧ Hid (wB.heap[w.heap.size + 1]? = some (.cells #[.int .i64 k', .int .i64 W', .int .i64 D', .int .i64 L', .int .i64 A', .string q] 28 (0, 0))) ∧ Hid (Below w.heap.size w wB) ∧ Hid (wB.heap.size = w.heap.size + 2) := by
    have h1 := heap_alloc_new w (.cells #[.int .i64 k, .int .i64 W, .int .i64 D, .int .i64 L, .int .i64 A, .string s] 28)
    generalize hA : w.alloc (.cells #[.int .i64 k, .int .i64 W, .int .i64 D, .int .i64 L, .int .i64 A, .string s] 28) = wA at h1
    have hzA : wA.heap.size = w.heap.size + 1 := by rw [← hA]; simp
    have hbA : Below w.heap.size w wA := by rw [← hA]; exact (Below.refl _ _).alloc (Nat.le_refl _) _
    have h2 := heap_alloc_new wA (.cells #[.int .i64 k', .int .i64 W', .int .i64 D', .int .i64 L', .int .i64 A', .string q] 28)
    have hbB : Below wA.heap.size wA (wA.alloc (.cells #[.int .i64 k', .int .i64 W', .int .i64 D', .int .i64 L', .int .i64 A', .string q] 28)) := (Below.refl _ _).alloc (Nat.le_refl _) _
    refine ⟨_, rfl, (hbB.block _ (by omega)).trans h1, ?_, hbA.trans (hbB.mono (by omega)), by unfold Hid; simp [hzA]⟩
    rw [hzA] at h2
    exact h2
  have HE : Hid (Env w) := hE
  have H1 := fun w hE => print_any s W w hm hE
  unfold opV
  by_cases he : tErr s W = 0
  · have G := print_again he
    obtain ⟨t, ht⟩ : ∃ t, pText s W = t := ⟨_, rfl⟩
    rw [ht] at G
    have hts := G.size
    have htm : t.size ≤ maxLen := by unfold maxLen; omega
    have H2 := fun w hE => print_any t W w htm hE
    have H3 := fun w => cost_fib s W D w hm
    have H4 := fun w => cost_fib t W D w htm
    have H5 := fun w => compile_fib s W D 1099511627776 w hm (by constructor <;> decide)
    have H6 := fun w => compile_fib t W D 1099511627776 w htm (by constructor <;> decide)
    have H7 := fun w => find_any s W A w hm
    have H8 := fun w => find_any t W A w htm
    have H9 := fun w hE => print_any q W w hq hE
    have H10 := fun w => compile_fib q W D 1099511627776 w hq (by constructor <;> decide)
    have H11 := fun w => check_any q W w hq
    rw [he, ht] at H1
    rw [G.print, G.err] at H2
    rw [(G.cost D).1, (G.cost D).2] at H4
    rw [(cmp_again G D _).1, (cmp_again G D _).2] at H6
    rw [G.hop] at H8
    have hcp := fun h2 h3 h4 => cmp_print (s := s) (q := q) (W := W) (D := D) (L := 1099511627776) he h2 h3 h4
    rw [ht] at hcp
    obtain ⟨C, hC⟩ : ∃ C, prC s W D = C := ⟨_, rfl⟩
    obtain ⟨F, hF⟩ : ∃ F, prE s W D = F := ⟨_, rfl⟩
    obtain ⟨M, hM⟩ : ∃ M, cmpS cF s W D 1099511627776 = M := ⟨_, rfl⟩
    obtain ⟨N, hN⟩ : ∃ N, cmpE cF s W D 1099511627776 = N := ⟨_, rfl⟩
    obtain ⟨X, hX⟩ : ∃ X, fHop s W A = X := ⟨_, rfl⟩
    obtain ⟨Y1, hY1⟩ : ∃ Y, fErr s W A = Y := ⟨_, rfl⟩
    obtain ⟨Y2, hY2⟩ : ∃ Y, fErr t W A = Y := ⟨_, rfl⟩
    rw [hC, hF] at H3 H4
    rw [hM, hN] at H5 H6
    rw [hX, hY1] at H7
    rw [hX, hY2] at H8
    rw [hM] at hcp
    obtain ⟨v, hv⟩ : ∃ v, pText q W = v := ⟨_, rfl⟩
    obtain ⟨c, hc⟩ : ∃ c, tErr q W = c := ⟨_, rfl⟩
    obtain ⟨d, hd⟩ : ∃ d, tAt q W = d := ⟨_, rfl⟩
    obtain ⟨n, hn⟩ : ∃ n, cmpS cF q W D 1099511627776 = n := ⟨_, rfl⟩
    obtain ⟨g, hg⟩ : ∃ g, cmpE cF q W D 1099511627776 = g := ⟨_, rfl⟩
    rw [hv, hc] at H9
    rw [hn, hg] at H10
    rw [hc, hd] at H11
    rw [hc, hv, hg, hn] at hcp
    have hd0 : c = 0 → d = 0 := fun e => by rw [← hd]; exact tAt_zero (hc.trans e)
    have hem : t.toList.isEmpty = s.toList.isEmpty := by
      by_cases h0 : s.size = 0
      · rw [ba_nil h0, ba_nil (G.none.2 h0)]
      · rw [ba_full h0, ba_full (fun e => h0 (G.none.1 e))]
    have K1 : Hid (∀ w : World, Env w → Calls Tryd.prog 24 #[.string s, .int .i64 W] w fun e w' => e = .returned (.tuple #[.string t, .int .i64 ((0 : Nat) : Int)]) ∧ Below w.heap.size w w') := H1
    have K2 : Hid (∀ w : World, Env w → Calls Tryd.prog 24 #[.string t, .int .i64 W] w fun e w' => e = .returned (.tuple #[.string t, .int .i64 ((0 : Nat) : Int)]) ∧ Below w.heap.size w w') := H2
    have K3 : Hid (∀ w : World, Calls Tryd.prog 23 #[.string s, .int .i64 W, .int .i64 D] w fun e w' => e = .returned (.tuple #[.int .i64 C, .int .i64 (F : Nat)]) ∧ Below w.heap.size w w') := H3
    have K4 : Hid (∀ w : World, Calls Tryd.prog 23 #[.string t, .int .i64 W, .int .i64 D] w fun e w' => e = .returned (.tuple #[.int .i64 C, .int .i64 (F : Nat)]) ∧ Below w.heap.size w w') := H4
    have K5 : Hid (∀ w : World, Calls Tryd.prog 26 #[.string s, .int .i64 W, .int .i64 D, .int .i64 1099511627776] w fun e w' => e = .returned (.tuple #[.string M, .int .i64 (N : Nat)]) ∧ Below w.heap.size w w') := H5
    have K6 : Hid (∀ w : World, Calls Tryd.prog 26 #[.string t, .int .i64 W, .int .i64 D, .int .i64 1099511627776] w fun e w' => e = .returned (.tuple #[.string M, .int .i64 (N : Nat)]) ∧ Below w.heap.size w w') := H6
    have K7 : Hid (∀ w : World, Calls Tryd.prog 28 #[.string s, .int .i64 W, .int .i64 A] w fun e w' => e = .returned (.tuple #[.int .i64 (X : Nat), .int .i64 (Y1 : Nat)]) ∧ Below w.heap.size w w') := H7
    have K8 : Hid (∀ w : World, Calls Tryd.prog 28 #[.string t, .int .i64 W, .int .i64 A] w fun e w' => e = .returned (.tuple #[.int .i64 (X : Nat), .int .i64 (Y2 : Nat)]) ∧ Below w.heap.size w w') := H8
    have K9 : Hid (∀ w : World, Env w → Calls Tryd.prog 24 #[.string q, .int .i64 W] w fun e w' => e = .returned (.tuple #[.string v, .int .i64 (c : Nat)]) ∧ Below w.heap.size w w') := H9
    have K10 : Hid (∀ w : World, Calls Tryd.prog 26 #[.string q, .int .i64 W, .int .i64 D, .int .i64 1099511627776] w fun e w' => e = .returned (.tuple #[.string n, .int .i64 (g : Nat)]) ∧ Below w.heap.size w w') := H10
    have K11 : Hid (∀ w : World, Calls Tryd.prog 30 #[.string q, .int .i64 W] w fun e w' => e = .returned (.tuple #[.int .i64 (c : Nat), .int .i64 (d : Nat)]) ∧ Below w.heap.size w w') := H11
    have HCP : Hid (c = 0 → v = t → g = 0 → n = M) := hcp
    have HD0 : Hid (c = 0 → d = 0) := hd0
    clear H1 H2 H3 H4 H5 H6 H7 H8 H9 H10 H11 hC hF hM hN hX hY1 hY2 hv hc hd hn hg hcp hd0 he ht G hm hq hE htm
    go_enter Tryd.func21, Tryd.ntmps21
    go_wp2_with fail
    rw [HWB.out]
    refine (K1.out _ (HE.out.later HBw.out)).mono ?_
    rintro e w1 ⟨rfl, hb1⟩
    obtain ⟨c1, c2, c3, c4, c5⟩ := op_all HO1.out hb1
    go_wp2_with (go_at_call 25; refine (num_any _ _).mono ?_; rintro e w1 ⟨rfl, rfl⟩)
    refine (K2.out _ (HE.out.later (HBw.out.trans (hb1.mono HBw.out.size)))).mono ?_
    rintro e w2 ⟨rfl, hbn2⟩
    have hb2 := hb1.trans (hbn2.mono hb1.size)
    clear c1 c2 c3 c4 c5
    obtain ⟨c1, c2, c3, c4, c5⟩ := op_all HO1.out hb2
    go_wp2_with fail
    refine (K3.out _).mono ?_
    rintro e w3 ⟨rfl, hbn3⟩
    have hb3 := hb2.trans (hbn3.mono hb2.size)
    clear c1 c2 c3 c4 c5
    obtain ⟨c1, c2, c3, c4, c5⟩ := op_all HO1.out hb3
    go_wp2_with fail
    refine (K4.out _).mono ?_
    rintro e w4 ⟨rfl, hbn4⟩
    have hb4 := hb3.trans (hbn4.mono hb3.size)
    clear c1 c2 c3 c4 c5
    obtain ⟨c1, c2, c3, c4, c5⟩ := op_all HO1.out hb4
    go_wp2_with fail
    refine (K5.out _).mono ?_
    rintro e w5 ⟨rfl, hbn5⟩
    have hb5 := hb4.trans (hbn5.mono hb4.size)
    clear c1 c2 c3 c4 c5
    obtain ⟨c1, c2, c3, c4, c5⟩ := op_all HO1.out hb5
    go_wp2_with fail
    refine (K6.out _).mono ?_
    rintro e w6 ⟨rfl, hbn6⟩
    have hb6 := hb5.trans (hbn6.mono hb5.size)
    clear c1 c2 c3 c4 c5
    obtain ⟨c1, c2, c3, c4, c5⟩ := op_all HO1.out hb6
    go_wp2_with fail
    refine (K7.out _).mono ?_
    rintro e w7 ⟨rfl, hbn7⟩
    have hb7 := hb6.trans (hbn7.mono hb6.size)
    clear c1 c2 c3 c4 c5
    obtain ⟨c1, c2, c3, c4, c5⟩ := op_all HO1.out hb7
    go_wp2_with fail
    refine (K8.out _).mono ?_
    rintro e w8 ⟨rfl, hbn8⟩
    have hb8 := hb7.trans (hbn8.mono hb7.size)
    clear c1 c2 c3 c4 c5
    obtain ⟨c1, c2, c3, c4, c5⟩ := op_all HO1.out hb8
    obtain ⟨d1, d2, d3, d4, d5⟩ := op_all HO2.out hb8
    go_wp2_with (go_at_call 25; refine (num_any _ _).mono ?_; rintro e w8 ⟨rfl, rfl⟩)
    refine (K9.out _ (HE.out.later (HBw.out.trans (hb8.mono HBw.out.size)))).mono ?_
    rintro e w9 ⟨rfl, hbn9⟩
    have hb9 := hb8.trans (hbn9.mono hb8.size)
    clear c1 c2 c3 c4 c5 d1 d2 d3 d4 d5
    obtain ⟨c1, c2, c3, c4, c5⟩ := op_all HO1.out hb9
    obtain ⟨d1, d2, d3, d4, d5⟩ := op_all HO2.out hb9
    by_cases hvt : v = t
    · have hbe := ba_eq hvt
      by_cases hc0 : c = 0
      · have hcb : ((c : Int) != 0) = false := by rw [bne_eq_false_iff_eq]; omega
        have hd1' : d = 0 := HD0.out hc0
        have hdb : ((d : Int) != 0) = false := by rw [bne_eq_false_iff_eq]; omega
        by_cases hg0 : g = 0
        · have hgb : ((g : Int) != 0) = false := by rw [bne_eq_false_iff_eq]; omega
          have hnm : n = M := HCP.out hc0 hvt hg0
          have hnb := ba_eq hnm
          clear hvt hc0 hd1' hg0 hnm
          go_wp2_with fail
          refine (K10.out _).mono ?_
          rintro e w10 ⟨rfl, hbn10⟩
          have hb10 := hb9.trans (hbn10.mono hb9.size)
          clear c1 c2 c3 c4 c5 d1 d2 d3 d4 d5
          obtain ⟨c1, c2, c3, c4, c5⟩ := op_all HO1.out hb10
          obtain ⟨d1, d2, d3, d4, d5⟩ := op_all HO2.out hb10
          go_wp2_with fail
          refine (K11.out _).mono ?_
          rintro e w11 ⟨rfl, hbn11⟩
          have hb11 := hb10.trans (hbn11.mono hb10.size)
          go_wp2_with (go_at_call 25; refine (num_any _ _).mono ?_; rintro e w11 ⟨rfl, rfl⟩)
          go_ret
          exact ⟨rfl, HBw.out.trans (hb11.mono HBw.out.size)⟩
        · have hgb : ((g : Int) != 0) = true := by rw [bne_iff_ne]; omega
          clear hvt hc0 hd1' hg0
          go_wp2_with fail
          refine (K10.out _).mono ?_
          rintro e w10 ⟨rfl, hbn10⟩
          have hb10 := hb9.trans (hbn10.mono hb9.size)
          clear c1 c2 c3 c4 c5 d1 d2 d3 d4 d5
          obtain ⟨c1, c2, c3, c4, c5⟩ := op_all HO1.out hb10
          obtain ⟨d1, d2, d3, d4, d5⟩ := op_all HO2.out hb10
          go_wp2_with fail
          refine (K11.out _).mono ?_
          rintro e w11 ⟨rfl, hbn11⟩
          have hb11 := hb10.trans (hbn11.mono hb10.size)
          go_wp2_with (go_at_call 25; refine (num_any _ _).mono ?_; rintro e w11 ⟨rfl, rfl⟩)
          go_ret
          exact ⟨rfl, HBw.out.trans (hb11.mono HBw.out.size)⟩
      · have hcb : ((c : Int) != 0) = true := by rw [bne_iff_ne]; omega
        clear hvt hc0
        go_wp2_with fail
        refine (K10.out _).mono ?_
        rintro e w10 ⟨rfl, hbn10⟩
        have hb10 := hb9.trans (hbn10.mono hb9.size)
        clear c1 c2 c3 c4 c5 d1 d2 d3 d4 d5
        obtain ⟨c1, c2, c3, c4, c5⟩ := op_all HO1.out hb10
        obtain ⟨d1, d2, d3, d4, d5⟩ := op_all HO2.out hb10
        go_wp2_with fail
        refine (K11.out _).mono ?_
        rintro e w11 ⟨rfl, hbn11⟩
        have hb11 := hb10.trans (hbn11.mono hb10.size)
        go_wp2_with (go_at_call 25; refine (num_any _ _).mono ?_; rintro e w11 ⟨rfl, rfl⟩)
        go_ret
        exact ⟨rfl, HBw.out.trans (hb11.mono HBw.out.size)⟩
    · have hbe := ba_ne hvt
      clear hvt
      go_wp2_with fail
      go_ret
      exact ⟨rfl, HBw.out.trans (hb9.mono HBw.out.size)⟩
  · have hp := pText_err he
    rw [hp] at H1
    obtain ⟨E, hEe⟩ : ∃ E, tErr s W = E := ⟨_, rfl⟩
    rw [hEe] at H1 he
    have hEb : ((E : Int) != 0) = true := by rw [bne_iff_ne]; omega
    have K1 : Hid (∀ w : World, Env w → Calls Tryd.prog 24 #[.string s, .int .i64 W] w fun e w' => e = .returned (.tuple #[.string ⟨#[]⟩, .int .i64 (E : Nat)]) ∧ Below w.heap.size w w') := H1
    clear H1 he hEe hm hq hE hp
    go_enter Tryd.func21, Tryd.ntmps21
    go_wp2_with fail
    rw [HWB.out]
    refine (K1.out _ (HE.out.later HBw.out)).mono ?_
    rintro e w1 ⟨rfl, hb1⟩
    go_wp2_with (go_at_call 25; refine (num_any _ _).mono ?_; rintro e w1 ⟨rfl, rfl⟩)
    go_ret
    exact ⟨rfl, HBw.out.trans (hb1.mono HBw.out.size)⟩
end Go.Proofs.YtdfnmpmmkcpddaaDoor
