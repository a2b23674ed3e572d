/- The walks of the program's Cost. -/
import Derived.Test.YtdfnmpmmkcpddaaDoorGoK
import Derived.Test.YtdfnmpmmkcpddaaDoorWalkW
namespace Go.Proofs.YtdfnmpmmkcpddaaDoor
open Go.RowKit

theorem flat_one {R : List Rt} (hS : ∀ r ∈ R, r.bits.size ≤ 12) : (nodesF R).map (flatK R) = (nodesF R).map (nodeK R 1) := by
  refine List.map_congr_left fun b hb => ?_
  unfold flatK nodeK
  rw [cost_one hS (nodes_height hb), chF_one]

/-- What the program prices a table at. -/
def tabC (R : List Rt) (d : Nat) : Int := if heightF R ⟨#[]⟩ = 0 then 0 else costZ R d ⟨#[]⟩

theorem flat_chF {R : List Rt} (b : ByteArray) : chF R 1 b = heightF R b := rfl
theorem Tryd.infoLevel : (Tryd.prog.info? 74).map (fun i => (i.zero, i.size, i.bytes)) = some (some (.slice none 0 0), 1, 24) := by kernel_rfl
/-- The levels: nodes of depth 1, 2, .. -/
def Lev (w : World) (R : List Rt) (ns : List ByteArray) (lv : List Value) : Prop := ∀ i v, lv[i]? = some v → ∃ ao cap base, v = .slice ao ns.length cap ∧ w.ownsRow base 76 4 (.slice ao ns.length cap) ns.length (tnc (ns.map (nodeK R (i + 1))))
theorem Lev.below {w w' : World} {R : List Rt} {ns : List ByteArray} {lv : List Value} (h : Lev w R ns lv) (hb : Below w.heap.size w w') : Lev w' R ns lv := fun i v hv => by
  obtain ⟨ao, cap, base, h1, h2⟩ := h i v hv
  exact ⟨ao, cap, base, h1, own_below h2 hb⟩
theorem Lev.snoc {w : World} {R : List Rt} {ns : List ByteArray} {lv : List Value} {ao : Option Addr} {cap base : Nat} (h : Lev w R ns lv) (ho : w.ownsRow base 76 4 (.slice ao ns.length cap) ns.length (tnc (ns.map (nodeK R (lv.length + 1))))) : Lev w R ns (lv ++ [.slice ao ns.length cap]) := by
  intro i v hv
  by_cases hi : i < lv.length
  · rw [List.getElem?_append_left hi] at hv; exact h i v hv
  · rw [List.getElem?_append_right (by omega)] at hv
    have : i = lv.length := by
      have := (List.getElem?_eq_some_iff.1 hv).1
      simp at this; omega
    subst this
    simp at hv
    exact ⟨ao, cap, base, hv.symm, ho⟩

/-- Rows of two kinds lie in two blocks. -/
theorem own_ne {w : World} {b1 b2 e1 e2 s1 s2 n1 n2 : Nat} {v1 v2 : Value} {x1 x2 : List Value} (h1 : w.ownsRow b1 e1 s1 v1 n1 x1) (h2 : w.ownsRow b2 e2 s2 v2 n2 x2) (he : e1 ≠ e2) : v1.ownBlock = none ∨ v1.ownBlock ≠ v2.ownBlock := by
  rcases h1.2 with ⟨k1, _⟩ | ⟨g, c, cur, k1, _, k3, _⟩
  · left; rw [k1]; rfl
  · right
    rcases h2.2 with ⟨m1, _⟩ | ⟨g', c', cur', m1, _, m3, _⟩
    · rw [k1, m1]; simp [Value.ownBlock]
    · rw [k1, m1]
      intro e
      simp [Value.ownBlock] at e
      subst e
      rw [k3] at m3
      simp at m3
      exact he m3.2
theorem Lev.grown {w w' : World} {R : List Rt} {ns : List ByteArray} {lv : List Value} {base n : Nat} {v : Value} {xs : List Value} (h : Lev w R ns lv) (ho : w.ownsRow base 74 1 v n xs) (hg : w.grownBy w' v.ownBlock) : Lev w' R ns lv := fun i x hx => by
  obtain ⟨ao, cap, b, h1, h2⟩ := h i x hx
  exact ⟨ao, cap, b, h1, h2.kept hg (own_ne h2 ho (by decide))⟩

set_option maxRecDepth 100000 in
set_option maxHeartbeats 1000000 in
theorem treeLevels_any (L : List Rt) (d : Nat) (ao : Option Addr) (cap base : Nat) (w : World) (hl : L.length ≤ 24) (hF : ∀ r ∈ ordR L, r.bits.size ≤ 12) (hd1 : 1 ≤ d) (hd : d ≤ 12) (hown : w.ownsRow base 78 2 (.slice ao L.length cap) L.length (rc L)) :
    Calls Tryd.prog 59 #[.slice ao L.length cap, .int .i64 d] w fun e w' => ∃ ao' cap' lv, e = .returned (.slice ao' d cap') ∧ lv.length = d ∧ w'.ownsRow w.heap.size 74 1 (.slice ao' d cap') d lv ∧ Lev w' (ordR L) (nodesF (ordR L)) lv ∧ Below w.heap.size w w' := by
  obtain ⟨i0, hi, hz0, hz1, hz2'⟩ := info_parts Tryd.infoLevel
  go_enter Tryd.func59, Tryd.ntmps59
  go_wp2_with fail
  refine (flatNodes_any L ao cap base _ hl hF hown).mono ?_
  rintro e w1 ⟨ao1, cap1, rfl, hown1, hb1⟩
  rw [flat_one hF] at hown1
  have hnl := nodes_length hF
  have hRl := ordR_length L
  have hO := ordR_ord L
  obtain ⟨R, hR⟩ : ∃ R, ordR L = R := ⟨_, rfl⟩
  rw [hR] at hown1 hF hO hnl hRl
  have HRR : Hid (ordR L = R) := hR
  rw [hR]
  clear hR hown
  obtain ⟨ns, hn⟩ : ∃ ns, nodesF R = ns := ⟨_, rfl⟩
  rw [hn] at hown1 hnl ⊢
  have hnl2 : ns.length ≤ 400 := by omega
  have hz := hb1.size
  have HF : Hid (∀ r ∈ R, r.bits.size ≤ 12) := hF
  have HN : Hid (nodesF R = ns) := hn
  have HO : Hid (Ord R) := hO
  clear hF hn hO hnl hRl
  go_wp2_with fail
  have hL1 : Lev (w1.alloc (.cells #[.slice ao1 ns.length cap1] 74)) R ns [.slice ao1 ns.length cap1] := by
    have := Lev.snoc (w := w1) (R := R) (ns := ns) (lv := []) (fun i v hv => by simp at hv) hown1
    rw [List.nil_append] at this
    exact this.below ((Below.refl _ _).alloc (Nat.le_refl _) _)
  have hO1 : (w1.alloc (.cells #[.slice ao1 ns.length cap1] 74)).ownsRow w.heap.size 74 1 (.slice (some ⟨w1.heap.size, 0, none⟩) 1 1) 1 [.slice ao1 ns.length cap1] := World.ownsRow_lit w1 #[.slice ao1 ns.length cap1] 1 hz (by unfold maxLen; omega) rfl
  go_loopg [5, 6, 7] (d - 1) (fun g x y z wr => ∃ (k : Nat) (lv : List Value), z = .int .i64 k ∧ g + k = d + 1 ∧ 2 ≤ k ∧ lv.length = k - 1 ∧ lv[k - 2]? = some x ∧ wr.ownsRow w.heap.size 74 1 y (k - 1) lv ∧ Lev wr R ns lv ∧ Below w.heap.size w wr)
  case atStart => exact ⟨2, [.slice ao1 ns.length cap1], rfl, by omega, by omega, rfl, rfl, hO1, hL1, hb1.alloc hz _⟩
  case round =>
    obtain ⟨k, lv, rfl, hgk, hk2, hlv, hx, hown2, hLev, hbel⟩ := hrel
    obtain ⟨ao2, cap2, b2, rfl, hown3⟩ := hLev _ _ hx
    obtain ⟨ao4, cap4, rfl⟩ := own_shape hown2
    rw [show k - 2 + 1 = k - 1 from by omega] at hown3
    have hz2 := hbel.size
    by_cases hlt : k ≤ d
    · go_wp2_with fail
      refine (deepenNodes_any R ns (k - 1) ao2 cap2 _ _ HO.out HF.out HN.out (by omega) hnl2 hown3).mono ?_
      rintro e w2 ⟨ao3, cap3, rfl, hown5, hb3⟩
      rw [show k - 1 + 1 = lv.length + 1 from by omega] at hown5
      have hown6 := own_below hown2 hb3
      have hz3 := hb3.size
      have hbel3 : Below w.heap.size w w2 := hbel.trans (hb3.mono hz2)
      have hLev3 := (hLev.below hb3).snoc hown5
      have hLev4 := hLev3.below ((Below.refl _ _).alloc (Nat.le_refl w2.heap.size) (.cells #[.slice ao3 ns.length cap3] 74))
      go_wp2_with (at_builtin; refine wpList_append_own _ rfl (.tmp 19) (.tmp 21) 72 rfl w.heap.size 74 i0 _ 1 24 Tryd.underlying72 hi hz0 hz1 hz2' rfl (by decide) _ _ _ rfl (hown6.alloc _) ⟨w2.heap.size, 0, none⟩ 1 1 [.slice ao3 ns.length cap3] rfl rfl ?c1 ?c2 ?c3 ?c4 ?c5 ?_)
      case c1 =>
        intro j u hj
        match j, hj with
        | 0, hj => simp at hj; subst hj; simp [Addr.add]
      case c2 => intro u hu; simp at hu; subst hu; rfl
      case c3 => unfold maxLen; omega
      case c4 => omega
      case c5 => simp; omega
      intro v' w4 hown7 hgrow _
      have hb5 : Below w.heap.size w w4 := (hbel3.alloc hbel3.size _).grown hgrow (by simp; omega) (fun k hk => by have := hown6.lt k hk; omega)
      have hLev5 := hLev4.grown (hown6.alloc _) hgrow
      go_wp2_with fail
      go_roundg (gk - 1)
      case measure => omega
      case rel =>
        refine ⟨k + 1, lv ++ [.slice ao3 ns.length cap3], int_eq (by omega), by omega, by omega, by simp; omega, ?_, ?_, hLev5, hb5⟩
        · rw [show k + 1 - 2 = lv.length from by omega]; simp
        · rw [show k + 1 - 1 = k - 1 + 1 from by omega]; exact hown7
    · have hkd : k - 1 = d := by omega
      go_wp2_with fail
      go_ret
      rw [hkd] at hown2 hlv
      rw [HRR.out, HN.out, hkd]
      exact ⟨_, _, lv, rfl, hlv, hown2, hLev, hbel⟩

set_option maxRecDepth 100000 in
set_option maxHeartbeats 1000000 in
theorem tableCost_any (L : List Rt) (d : Nat) (ao : Option Addr) (cap base : Nat) (w : World) (hl : L.length ≤ 24) (hF : ∀ r ∈ ordR L, r.bits.size ≤ 12) (hd1 : 1 ≤ d) (hd : d ≤ 12) (hown : w.ownsRow base 78 2 (.slice ao L.length cap) L.length (rc L)) :
    Calls Tryd.prog 36 #[.slice ao L.length cap, .int .i64 d] w fun e w' => e = .returned (.int .i64 (tabC (ordR L) d)) ∧ Below w.heap.size w w' := by
  go_enter Tryd.func36, Tryd.ntmps36
  go_wp2_with fail
  refine (treeLevels_any L d ao cap base _ hl hF hd1 hd hown).mono ?_
  rintro e w1 ⟨ao1, cap1, lv, rfl, hlv, hown1, hLev, hb1⟩
  have hnl := nodes_length hF
  have hRl := ordR_length L
  obtain ⟨R, hR⟩ : ∃ R, ordR L = R := ⟨_, rfl⟩
  rw [hR] at hLev hF hnl hRl
  have HRR : Hid (ordR L = R) := hR
  clear hR hown
  obtain ⟨ns, hn⟩ : ∃ ns, nodesF R = ns := ⟨_, rfl⟩
  rw [hn] at hLev hnl
  have hnl2 : ns.length ≤ 400 := by omega
  have HN : Hid (nodesF R = ns) := hn
  clear hF hn hnl hRl
  obtain ⟨g, rfl, hg1, hg2, hg3, hg4⟩ := own_some hown1 (by omega)
  unfold maxLen at hg4
  obtain ⟨ao2, cap2, b2, hv2, hown2⟩ := hLev (d - 1) lv[d - 1] (by simp)
  have hc := hown1.cellAt (d - 1) (by omega)
  rw [List.getElem?_eq_getElem (by omega), hv2] at hc
  have hsub : (d : Int) - 1 = ((d - 1 : Nat) : Int) := by omega
  rw [show d - 1 + 1 = d from by omega] at hown2
  clear hv2 hown1 hLev
  rcases nodes_head (R := R) with ⟨h1, h2⟩ | ⟨l, h1⟩
  · rw [HN.out] at h1
    have HT : Hid (tabC R d = 0) := by unfold Hid tabC; rw [if_pos h2]
    have hl0 : ns.length = 0 := by rw [h1]; rfl
    have hlb : ((ns.length : Int) == 0) = true := by rw [beq_iff_eq]; omega
    clear h1 h2
    go_wp2_with fail
    go_ret
    exact ⟨ret1 (int_eq (by rw [HRR.out, HT.out])), hb1⟩
  · have h2 := empty_height h1
    rw [HN.out] at h1
    have HT : Hid (tabC R d = costZ R d ⟨#[]⟩) := by unfold Hid tabC; rw [if_neg (by omega)]
    have hl0 : 0 < ns.length := by rw [h1]; simp
    have hlb : ((ns.length : Int) == 0) = false := by rw [beq_eq_false_iff_ne]; omega
    obtain ⟨g', rfl, hg1', hg2', hg3', hg4'⟩ := own_some hown2 hl0
    unfold maxLen at hg4'
    have c2 : w1.cell? ⟨g', 3, none⟩ = some (.int .i64 (costZ R d ⟨#[]⟩)) := by
      have hml : ns.length = (ns.map (nodeK R d)).length := by simp
      have hown3 := hown2
      rw [hml] at hown3
      have := (node_cells (i := 0) hown3 hg2' (Below.refl _ _) (by simp; omega)).2.2.2
      rw [nodeK_at R d ns hl0] at this
      have e : ns[0] = ⟨#[]⟩ := by simp [h1]
      rw [e] at this
      exact this
    clear h1 h2
    go_wp2_with fail
    go_ret
    exact ⟨ret1 (int_eq (by rw [HRR.out, HT.out])), hb1⟩
theorem tab_prC {s : ByteArray} {W d : Int} (h : prE s W d = 0) : prC s W d = tabC (ordR (tRts s W)) d.toNat := by
  have hS := same_ord (tRts s W)
  unfold prC tabC
  rw [if_pos h, height_same hS, cost_same hS]

theorem prE_arg {s : ByteArray} {W d : Int} (h : prArg s W d) : prE s W d = 2 := by unfold prE; rw [if_pos h]
theorem prE_no {s : ByteArray} {W d : Int} (h : ¬ prArg s W d) : prE s W d = tErr s W := by unfold prE; rw [if_neg h]
/-- readForDepth: the program's own test looks at the depth alone; a bad width with a depth within it is found by readTable. -/
theorem prE_table {s : ByteArray} {W d : Int} (h : ¬ (s.size ≤ 400 ∧ (d < 1 ∨ W < d))) : prE s W d = tErr s W := by
  by_cases h1 : prArg s W d
  · rw [prE_arg h1]
    obtain ⟨hs, h2⟩ := h1
    rw [(t_arg (W := W) hs (by omega)).2.1]
  · exact prE_no h1

set_option maxRecDepth 100000 in
theorem readForDepth_any (s : ByteArray) (W d : Int) (w : World) (hm : s.size ≤ maxLen) :
    Calls Tryd.prog 35 #[.string s, .int .i64 W, .int .i64 d] w fun e w' => ∃ ao n cap, e = .returned (.tuple #[.slice ao n cap, .int .i64 (prE s W d)]) ∧
      (prE s W d = 0 → n = (tRts s W).length ∧ w'.ownsRow w.heap.size 78 2 (.slice ao n cap) n (rc (tRts s W))) ∧ Below w.heap.size w w' := by
  have hm' : s.size ≤ 9223372036854775807 := by unfold maxLen at hm; omega
  by_cases h : s.size ≤ 400 ∧ (d < 1 ∨ W < d)
  · have HE : Hid (prE s W d = 2) := prE_arg ⟨h.1, by omega⟩
    obtain ⟨hs, hd⟩ := h
    clear hm
    by_cases hd1 : d < 1
    · clear hd
      go_enter Tryd.func35, Tryd.ntmps35
      go_wp2_with fail
      go_ret2
      rw [HE.out]
      exact ⟨none, 0, 0, rfl, by omega, Below.refl _ _⟩
    · have hd2 : W < d := by omega
      have g1 : decide (d < 1) = false := by rw [decide_eq_false_iff_not]; exact hd1
      have g2 : decide (W < d) = true := by rw [decide_eq_true_eq]; exact hd2
      clear hd
      go_enter Tryd.func35, Tryd.ntmps35
      go_wp2_with fail
      go_ret2
      rw [HE.out]
      exact ⟨none, 0, 0, rfl, by omega, Below.refl _ _⟩
  · have hE : prE s W d = tErr s W := prE_table h
    rw [hE]
    have HM : Hid (s.size ≤ maxLen) := hm
    by_cases hs : s.size ≤ 400
    · have hd1 : ¬ d < 1 := fun e => h ⟨hs, .inl e⟩
      have hd2 : ¬ W < d := fun e => h ⟨hs, .inr e⟩
      clear h hE hm
      go_enter Tryd.func35, Tryd.ntmps35
      go_wp2_with fail
      refine (readTable_any s W _ HM.out).mono ?_
      rintro e w1 ⟨ao, cap, rfl, hown, hb1⟩
      go_wp2_with fail
      go_ret2
      exact ⟨ao, _, cap, rfl, fun _ => ⟨rfl, hown⟩, hb1⟩
    · clear h hE hm
      go_enter Tryd.func35, Tryd.ntmps35
      go_wp2_with fail
      refine (readTable_any s W _ HM.out).mono ?_
      rintro e w1 ⟨ao, cap, rfl, hown, hb1⟩
      go_wp2_with fail
      go_ret2
      exact ⟨ao, _, cap, rfl, fun _ => ⟨rfl, hown⟩, hb1⟩

theorem prE_zero {s : ByteArray} {W d : Int} (h : prE s W d = 0) : tErr s W = 0 ∧ 1 ≤ d ∧ d ≤ W := by
  by_cases h1 : prArg s W d
  · rw [prE_arg h1] at h; omega
  · rw [prE_no h1] at h
    obtain ⟨hs, _⟩ := t_zero h
    refine ⟨h, ?_⟩
    unfold prArg at h1
    omega

set_option maxRecDepth 100000 in
theorem cost_fib (s : ByteArray) (W d : Int) (w : World) (hm : s.size ≤ maxLen) :
    Calls Tryd.prog 23 #[.string s, .int .i64 W, .int .i64 d] w fun e w' => e = .returned (.tuple #[.int .i64 (prC s W d), .int .i64 (prE s W d)]) ∧ Below w.heap.size w w' := by
  have HR := readForDepth_any s W d w hm
  by_cases he : prE s W d = 0
  · obtain ⟨h1, h2, h3⟩ := prE_zero he
    obtain ⟨hs, hW1, hW2, hlen⟩ := t_zero h1
    rw [tab_prC he, he]
    rw [he] at HR
    have HRR : Hid (Calls Tryd.prog 35 #[.string s, .int .i64 W, .int .i64 d] w fun e w' => ∃ ao cap, e = .returned (.tuple #[.slice ao (tRts s W).length cap, .int .i64 0]) ∧
      w'.ownsRow w.heap.size 78 2 (.slice ao (tRts s W).length cap) (tRts s W).length (rc (tRts s W)) ∧ Below w.heap.size w w') := by
      refine HR.mono ?_
      rintro e w' ⟨ao, n, cap, rfl, g2, g3⟩
      obtain ⟨rfl, g2⟩ := g2 rfl
      exact ⟨ao, cap, rfl, g2, g3⟩
    have HF : Hid (∀ r ∈ ordR (tRts s W), r.bits.size ≤ 12) := fun r hr => (ordR_fit (tRts_fit s W) r hr).1
    obtain ⟨k, rfl⟩ := Int.eq_ofNat_of_zero_le (show 0 ≤ d by omega)
    rw [Int.toNat_natCast]
    clear HR he h1 hm
    go_enter Tryd.func23, Tryd.ntmps23
    go_wp2_with fail
    refine HRR.out.mono ?_
    rintro e w1 ⟨ao, cap, rfl, hown, hb1⟩
    go_wp2_with fail
    refine (tableCost_any (tRts s W) k ao cap _ _ hlen HF.out (by omega) (by omega) hown).mono ?_
    rintro e w2 ⟨rfl, hb2⟩
    go_wp2_with fail
    go_ret2
    exact ⟨rfl, hb1.trans (hb2.mono hb1.size)⟩
  · have hC : prC s W d = 0 := by unfold prC; rw [if_neg he]
    rw [hC]
    have hEb : ((prE s W d : Int) != 0) = true := by rw [bne_iff_ne]; omega
    have HRR : Hid (Calls Tryd.prog 35 #[.string s, .int .i64 W, .int .i64 d] w fun e w' => ∃ ao n cap, e = .returned (.tuple #[.slice ao n cap, .int .i64 (prE s W d)]) ∧
      (prE s W d = 0 → n = (tRts s W).length ∧ w'.ownsRow w.heap.size 78 2 (.slice ao n cap) n (rc (tRts s W))) ∧ Below w.heap.size w w') := HR
    clear HR he hC hm
    go_enter Tryd.func23, Tryd.ntmps23
    go_wp2_with fail
    refine HRR.out.mono ?_
    rintro e w1 ⟨ao, n, cap, rfl, _, hb1⟩
    go_wp2_with fail
    go_ret2
    exact ⟨rfl, hb1⟩
end Go.Proofs.YtdfnmpmmkcpddaaDoor
