/- The walks of the program's Cost. -/
import Derived.Test.YtkfdaamgeelieaaDoorGoK
import Derived.Test.YtkfdaamgeelieaaDoorWalkW
namespace Go.Proofs.YtkfdaamgeelieaaDoor
open Go.RowKit

theorem flat_one {R : List Rt} (hS : ∀ r ∈ R, r.bits.size ≤ 12) : (nodesF R).map (flatK R) = (nodesF R).map (nodeK R 1) := by
  refine List.map_congr_left fun b hb => ?_
  unfold flatK nodeK
  rw [cost_one hS (nodes_height hb)]

/-- What the program prices a table at. -/
def tabC (R : List Rt) (d : Nat) : Int := if heightF R ⟨#[]⟩ = 0 then 0 else costZ R d ⟨#[]⟩

set_option maxRecDepth 100000 in
set_option maxHeartbeats 1000000 in
theorem tableCost_any (L : List Rt) (d : Nat) (ao : Option Addr) (cap base : Nat) (w : World) (hl : L.length ≤ 24) (hF : ∀ r ∈ ordR L, r.bits.size ≤ 12) (hd1 : 1 ≤ d) (hd : d ≤ 12) (hown : w.ownsRow base 75 2 (.slice ao L.length cap) L.length (rc L)) :
    Calls Tryd.prog 25 #[.slice ao L.length cap, .int .i64 d] w fun e w' => e = .returned (.int .i64 (tabC (ordR L) d)) ∧ Below w.heap.size w w' := by
  go_enter Tryd.func25, Tryd.ntmps25
  go_wp2_with fail
  refine (flatNodes_any L ao cap base _ hl hF hown).mono ?_
  rintro e w1 ⟨ao1, cap1, rfl, hown1, hb1⟩
  rw [flat_one hF] at hown1
  have hnl := nodes_length hF
  have hRl := ordR_length L
  have hO := ordR_ord L
  obtain ⟨R, hR⟩ : ∃ R, ordR L = R := ⟨_, rfl⟩
  rw [hR] at hown1 hF hO hnl hRl
  have HRR : Hid (ordR L = R) := hR
  rw [hR]
  clear hR hown
  obtain ⟨ns, hn⟩ : ∃ ns, nodesF R = ns := ⟨_, rfl⟩
  rw [hn] at hown1 hnl ⊢
  have hnl2 : ns.length ≤ 400 := by omega
  have hz := hb1.size
  have HF : Hid (∀ r ∈ R, r.bits.size ≤ 12) := hF
  have HN : Hid (nodesF R = ns) := hn
  have HO : Hid (Ord R) := hO
  clear hF hn hO hnl hRl
  go_wp2_with fail
  go_loopg [5, 6] (d - 1) (fun g x y wr => ∃ (k : Nat) (ao2 : Option Addr) (cap2 : Nat), x = .slice ao2 ns.length cap2 ∧ y = .int .i64 k ∧ g + k = d + 1 ∧ 2 ≤ k ∧ wr.ownsRow w.heap.size 73 3 (.slice ao2 ns.length cap2) ns.length (kc (ns.map (nodeK R (k - 1)))) ∧ Below w.heap.size w wr)
  case atStart => exact ⟨2, ao1, cap1, rfl, rfl, by omega, by omega, hown1, hb1⟩
  case round =>
    obtain ⟨k, ao2, cap2, rfl, rfl, hgk, hk2, hown2, hbel⟩ := hrel
    by_cases hlt : k ≤ d
    · go_wp2_with fail
      refine (deepenNodes_any R ns (k - 1) ao2 cap2 _ _ HO.out HF.out HN.out (by omega) hnl2 hown2).mono ?_
      rintro e w2 ⟨ao3, cap3, rfl, hown3, hb3⟩
      rw [show k - 1 + 1 = k + 1 - 1 from by omega] at hown3
      have hz2 := hbel.size
      go_wp2_with fail
      go_roundg (gk - 1)
      case measure => omega
      case rel => exact ⟨k + 1, ao3, cap3, rfl, int_eq (by omega), by omega, by omega, own_base hown3 hz2, hbel.trans (hb3.mono hz2)⟩
    · rw [show k - 1 = d from by omega] at hown2
      rcases nodes_head (R := R) with ⟨h1, h2⟩ | ⟨l, h1⟩
      · rw [HN.out] at h1
        have HT : Hid (tabC R d = 0) := by unfold Hid tabC; rw [if_pos h2]
        have hl0 : ns.length = 0 := by rw [h1]; rfl
        have hlb : ((ns.length : Int) == 0) = true := by rw [beq_iff_eq]; omega
        clear h1 h2
        go_wp2_with fail
        go_ret
        exact ⟨ret1 (int_eq (by rw [HRR.out, HT.out])), hbel⟩
      · have h2 := empty_height h1
        rw [HN.out] at h1
        have HT : Hid (tabC R d = costZ R d ⟨#[]⟩) := by unfold Hid tabC; rw [if_neg (by omega)]
        have hl0 : 0 < ns.length := by rw [h1]; simp
        have hlb : ((ns.length : Int) == 0) = false := by rw [beq_eq_false_iff_ne]; omega
        obtain ⟨g, rfl, hg1, hg2, hg3, hg4⟩ := own_some hown2 hl0
        unfold maxLen at hg4
        have c2 : wr.cell? ⟨g, 2, none⟩ = some (.int .i64 (costZ R d ⟨#[]⟩)) := by
          have hml : ns.length = (ns.map (nodeK R d)).length := by simp
          have hown3 := hown2
          rw [hml] at hown3
          have := (node_cells (i := 0) hown3 hg2 (Below.refl _ _) (by simp; omega)).2.2
          rw [nodeK_at R d ns hl0] at this
          have e : ns[0] = ⟨#[]⟩ := by simp [h1]
          rw [e] at this
          exact this
        clear h1 h2
        go_wp2_with fail
        go_ret
        exact ⟨ret1 (int_eq (by rw [HRR.out, HT.out])), hbel⟩
theorem tab_prC {s : ByteArray} {W d : Int} (h : prE s W d = 0) : prC s W d = tabC (ordR (tRts s W)) d.toNat := by
  have hS := same_ord (tRts s W)
  unfold prC tabC
  rw [if_pos h, height_same hS, cost_same hS]

theorem prE_arg {s : ByteArray} {W d : Int} (h : prArg s W d) : prE s W d = 2 := by unfold prE; rw [if_pos h]
theorem prE_no {s : ByteArray} {W d : Int} (h : ¬ prArg s W d) : prE s W d = tErr s W := by unfold prE; rw [if_neg h]
/-- readForDepth: the program's own test looks at the depth alone; a bad width with a depth within it is found by readTable. -/
theorem prE_table {s : ByteArray} {W d : Int} (h : ¬ (s.size ≤ 400 ∧ (d < 1 ∨ W < d))) : prE s W d = tErr s W := by
  by_cases h1 : prArg s W d
  · rw [prE_arg h1]
    obtain ⟨hs, h2⟩ := h1
    rw [(t_arg (W := W) hs (by omega)).2.1]
  · exact prE_no h1

set_option maxRecDepth 100000 in
theorem readForDepth_any (s : ByteArray) (W d : Int) (w : World) (hm : s.size ≤ maxLen) :
    Calls Tryd.prog 24 #[.string s, .int .i64 W, .int .i64 d] w fun e w' => ∃ ao n cap, e = .returned (.tuple #[.slice ao n cap, .int .i64 (prE s W d)]) ∧
      (prE s W d = 0 → n = (tRts s W).length ∧ w'.ownsRow w.heap.size 75 2 (.slice ao n cap) n (rc (tRts s W))) ∧ Below w.heap.size w w' := by
  have hm' : s.size ≤ 9223372036854775807 := by unfold maxLen at hm; omega
  by_cases h : s.size ≤ 400 ∧ (d < 1 ∨ W < d)
  · have HE : Hid (prE s W d = 2) := prE_arg ⟨h.1, by omega⟩
    obtain ⟨hs, hd⟩ := h
    clear hm
    by_cases hd1 : d < 1
    · clear hd
      go_enter Tryd.func24, Tryd.ntmps24
      go_wp2_with fail
      go_ret2
      rw [HE.out]
      exact ⟨none, 0, 0, rfl, by omega, Below.refl _ _⟩
    · have hd2 : W < d := by omega
      have g1 : decide (d < 1) = false := by rw [decide_eq_false_iff_not]; exact hd1
      have g2 : decide (W < d) = true := by rw [decide_eq_true_eq]; exact hd2
      clear hd
      go_enter Tryd.func24, Tryd.ntmps24
      go_wp2_with fail
      go_ret2
      rw [HE.out]
      exact ⟨none, 0, 0, rfl, by omega, Below.refl _ _⟩
  · have hE : prE s W d = tErr s W := prE_table h
    rw [hE]
    have HM : Hid (s.size ≤ maxLen) := hm
    by_cases hs : s.size ≤ 400
    · have hd1 : ¬ d < 1 := fun e => h ⟨hs, .inl e⟩
      have hd2 : ¬ W < d := fun e => h ⟨hs, .inr e⟩
      clear h hE hm
      go_enter Tryd.func24, Tryd.ntmps24
      go_wp2_with fail
      refine (readTable_any s W _ HM.out).mono ?_
      rintro e w1 ⟨ao, cap, rfl, hown, hb1⟩
      go_wp2_with fail
      go_ret2
      exact ⟨ao, _, cap, rfl, fun _ => ⟨rfl, hown⟩, hb1⟩
    · clear h hE hm
      go_enter Tryd.func24, Tryd.ntmps24
      go_wp2_with fail
      refine (readTable_any s W _ HM.out).mono ?_
      rintro e w1 ⟨ao, cap, rfl, hown, hb1⟩
      go_wp2_with fail
      go_ret2
      exact ⟨ao, _, cap, rfl, fun _ => ⟨rfl, hown⟩, hb1⟩

theorem prE_zero {s : ByteArray} {W d : Int} (h : prE s W d = 0) : tErr s W = 0 ∧ 1 ≤ d ∧ d ≤ W := by
  by_cases h1 : prArg s W d
  · rw [prE_arg h1] at h; omega
  · rw [prE_no h1] at h
    obtain ⟨hs, _⟩ := t_zero h
    refine ⟨h, ?_⟩
    unfold prArg at h1
    omega

set_option maxRecDepth 100000 in
theorem cost_fib (s : ByteArray) (W d : Int) (w : World) (hm : s.size ≤ maxLen) :
    Calls Tryd.prog 14 #[.string s, .int .i64 W, .int .i64 d] w fun e w' => e = .returned (.tuple #[.int .i64 (prC s W d), .int .i64 (prE s W d)]) ∧ Below w.heap.size w w' := by
  have HR := readForDepth_any s W d w hm
  by_cases he : prE s W d = 0
  · obtain ⟨h1, h2, h3⟩ := prE_zero he
    obtain ⟨hs, hW1, hW2, hlen⟩ := t_zero h1
    rw [tab_prC he, he]
    rw [he] at HR
    have HRR : Hid (Calls Tryd.prog 24 #[.string s, .int .i64 W, .int .i64 d] w fun e w' => ∃ ao cap, e = .returned (.tuple #[.slice ao (tRts s W).length cap, .int .i64 0]) ∧
      w'.ownsRow w.heap.size 75 2 (.slice ao (tRts s W).length cap) (tRts s W).length (rc (tRts s W)) ∧ Below w.heap.size w w') := by
      refine HR.mono ?_
      rintro e w' ⟨ao, n, cap, rfl, g2, g3⟩
      obtain ⟨rfl, g2⟩ := g2 rfl
      exact ⟨ao, cap, rfl, g2, g3⟩
    have HF : Hid (∀ r ∈ ordR (tRts s W), r.bits.size ≤ 12) := fun r hr => (ordR_fit (tRts_fit s W) r hr).1
    obtain ⟨k, rfl⟩ := Int.eq_ofNat_of_zero_le (show 0 ≤ d by omega)
    rw [Int.toNat_natCast]
    clear HR he h1 hm
    go_enter Tryd.func14, Tryd.ntmps14
    go_wp2_with fail
    refine HRR.out.mono ?_
    rintro e w1 ⟨ao, cap, rfl, hown, hb1⟩
    go_wp2_with fail
    refine (tableCost_any (tRts s W) k ao cap _ _ hlen HF.out (by omega) (by omega) hown).mono ?_
    rintro e w2 ⟨rfl, hb2⟩
    go_wp2_with fail
    go_ret2
    exact ⟨rfl, hb1.trans (hb2.mono hb1.size)⟩
  · have hC : prC s W d = 0 := by unfold prC; rw [if_neg he]
    rw [hC]
    have hEb : ((prE s W d : Int) != 0) = true := by rw [bne_iff_ne]; omega
    have HRR : Hid (Calls Tryd.prog 24 #[.string s, .int .i64 W, .int .i64 d] w fun e w' => ∃ ao n cap, e = .returned (.tuple #[.slice ao n cap, .int .i64 (prE s W d)]) ∧
      (prE s W d = 0 → n = (tRts s W).length ∧ w'.ownsRow w.heap.size 75 2 (.slice ao n cap) n (rc (tRts s W))) ∧ Below w.heap.size w w') := HR
    clear HR he hC hm
    go_enter Tryd.func14, Tryd.ntmps14
    go_wp2_with fail
    refine HRR.out.mono ?_
    rintro e w1 ⟨ao, n, cap, rfl, _, hb1⟩
    go_wp2_with fail
    go_ret2
    exact ⟨rfl, hb1⟩
end Go.Proofs.YtkfdaamgeelieaaDoor
