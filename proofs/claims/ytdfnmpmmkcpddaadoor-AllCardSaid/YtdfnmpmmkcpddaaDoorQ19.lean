import Derived.Test.YtdfnmpmmkcpddaaDoorQ18
import Derived.Test.YtdfnmpmmkcpddaaDoorQ13
import Derived.Test.YtdfnmpmmkcpddaaDoorQ17
import Derived.Test.YtdfnmpmmkcpddaaDoorQ14
import Derived.Test.YtdfnmpmmkcpddaaDoorQ10
/- The walks of the document's priced and Cost. -/
namespace Go.Proofs.YtdfnmpmmkcpddaaDoor
open Go.RowKit

/-- P6's errors and the cost. -/
abbrev prArg (s : ByteArray) (W d : Int) : Prop := s.size ≤ 400 ∧ (W < 1 ∨ 12 < W ∨ d < 1 ∨ W < d)
def prE (s : ByteArray) (W d : Int) : Nat := if prArg s W d then 2 else tErr s W
def prC (s : ByteArray) (W d : Int) : Int := if prE s W d = 0 then (if heightF (dedup (tRts s W)) ⟨#[]⟩ = 0 then 0 else costZ (dedup (tRts s W)) d.toNat ⟨#[]⟩) else 0

theorem priced_arg (s : ByteArray) (W d : Int) (w : World) (h : prArg s W d) :
    Calls Tryd.prog 52 #[.string s, .int .i64 W, .int .i64 d] w fun e w' => e = .returned (.tuple #[.slice none 0 0, .int .i64 0, .int .i64 2]) ∧ w' = w := by
  obtain ⟨hs, h1⟩ := h
  by_cases hW1 : W < 1
  · clear h1
    go_enter Tryd.func52, Tryd.ntmps52
    go_wp2_with fail
    go_ret3
    exact ⟨rfl, rfl⟩
  by_cases hW2 : 12 < W
  · clear h1
    go_enter Tryd.func52, Tryd.ntmps52
    go_wp2_with fail
    go_ret3
    exact ⟨rfl, rfl⟩
  by_cases hd1 : d < 1
  · clear h1
    go_enter Tryd.func52, Tryd.ntmps52
    go_wp2_with fail
    go_ret3
    exact ⟨rfl, rfl⟩
  have hd2 : W < d := by omega
  clear h1
  go_enter Tryd.func52, Tryd.ntmps52
  go_wp2_with fail
  go_ret3
  exact ⟨rfl, rfl⟩
theorem prE_long {s : ByteArray} {W d : Int} (h : 400 < s.size) : prE s W d = tErr s W := by
  unfold prE; rw [if_neg]; rintro ⟨h1, _⟩; omega
theorem priced_long (s : ByteArray) (W d : Int) (w : World) (hm : s.size ≤ maxLen) (h : 400 < s.size) :
    Calls Tryd.prog 52 #[.string s, .int .i64 W, .int .i64 d] w fun e w' => e = .returned (.tuple #[.slice none 0 0, .int .i64 0, .int .i64 1]) ∧ w' = w := by
  have hm' : s.size ≤ maxLen := hm
  unfold maxLen at hm'
  go_enter Tryd.func52, Tryd.ntmps52
  go_wp2_with fail
  refine (read_long s W _ hm h).mono ?_
  rintro e w1 ⟨rfl, rfl⟩
  go_wp2_with fail
  go_ret3
  exact ⟨rfl, rfl⟩

set_option maxRecDepth 100000 in
set_option maxHeartbeats 1000000 in
theorem priced_walk (s : ByteArray) (W d : Nat) (w : World) (hs : s.size ≤ 400) (hW1 : 1 ≤ W) (hW : W ≤ 12) (hd1 : 1 ≤ d) (hd : d ≤ W) :
    Calls Tryd.prog 52 #[.string s, .int .i64 W, .int .i64 d] w fun e w' => ∃ ao n cap, e = .returned (.tuple #[.slice ao n cap, .int .i64 (prC s W d), .int .i64 (prE s W d)]) ∧
      (prE s W d = 0 → n = (dedup (tRts s W)).length ∧ w'.ownsRow w.heap.size 98 2 (.slice ao n cap) n (rc (dedup (tRts s W)))) ∧ Below w.heap.size w w' := by
  have hE : prE s W d = tErr s W := by unfold prE; rw [if_neg]; rintro ⟨_, h⟩; omega
  by_cases he : tErr s W = 0
  · have hEr : ((tErr s W : Int) != 0) = false := by rw [bne_eq_false_iff_eq]; omega
    have hdl := dedup_length (tRts s W)
    have hlen := (t_zero he).2.2.2
    have HC : Hid (prC s W d = if heightF (dedup (tRts s W)) ⟨#[]⟩ = 0 then 0 else costZ (dedup (tRts s W)) d ⟨#[]⟩) := by unfold Hid prC; rw [if_pos (hE.trans he)]; rfl
    have hF : ∀ r ∈ dedup (tRts s W), r.bits.size ≤ 12 := fun r hr => (dedup_fit (tRts_fit s W) r hr).1
    have HZ : Hid (tErr s W = 0) := he
    have HE : Hid (prE s W d = 0) := hE.trans he
    clear he hE
    go_enter Tryd.func52, Tryd.ntmps52
    go_wp2_with fail
    refine (read_any s W _ (by unfold maxLen; omega)).mono ?_
    rintro e w1 ⟨ao, cap, rfl, hown, hb1⟩
    obtain ⟨D, hD⟩ : ∃ D, dedup (tRts s W) = D := ⟨_, rfl⟩
    rw [hD] at hown hdl hF HC
    rw [hD]
    have HD : Hid (dedup (tRts s W) = D) := hD
    clear hD
    go_wp2_with fail
    refine (rheight_any ⟨#[]⟩ D ao cap _ _ (by omega) hF (by show 0 ≤ 12; omega) hown).mono ?_
    rintro e w2 ⟨rfl, rfl⟩
    by_cases hh : heightF D ⟨#[]⟩ = 0
    · have HC2 : Hid (prC s W d = 0) := by unfold Hid; rw [HC.out, if_pos hh]
      rw [hh]
      go_wp2_with fail
      go_ret3
      rw [HC2.out, HE.out, HD.out]
      exact ⟨ao, _, cap, ret3 rfl rfl (int_eq (by omega)), fun _ => ⟨rfl, hown⟩, hb1⟩
    · have HC2 : Hid (prC s W d = costZ D d ⟨#[]⟩) := by unfold Hid; rw [HC.out, if_neg hh]
      have hhe : ((heightF D ⟨#[]⟩ : Int) == 0) = false := by rw [beq_eq_false_iff_ne]; omega
      have HROOM : Hid (([] : List Kn).length + 1 + tc D ⟨#[]⟩ * 3 ^ heightF D ⟨#[]⟩ ≤ 100000000) := by
        unfold Hid
        have h1 := tc_le D ⟨#[]⟩
        have h2 := heightF_le (b := ⟨#[]⟩) hF
        have h3 : 3 ^ heightF D ⟨#[]⟩ ≤ 3 ^ 12 := Nat.pow_le_pow_right (by omega) (by omega)
        have h4 := Nat.mul_le_mul (show tc D ⟨#[]⟩ ≤ 24 by omega) h3
        simp only [List.length_nil]
        omega
      have hlt : ∀ g, ao = some g → g.block < w2.heap.size := by
        intro g hg
        subst hg
        exact (hown.lt g.block rfl).2
      go_wp2_with fail
      refine (cost_any D w2.heap.size ao cap (by omega) hF hlt d hd1 (by omega) ⟨#[]⟩ [] (.slice none 0 0) _ (by show 0 ≤ 12; omega) (heap_alloc_new w2 _) (own_base (hown.alloc _) (by omega)) (World.ownsRow_nil _ _ _ _) (fun x hx => by simp at hx) HROOM.out).mono ?_
      rintro e w3 ⟨rfl, ks', vk', hsm, hownk, _, _, hfr⟩
      have hown3 := low_row hlt (own_base (hown.alloc _) (Nat.zero_le _)) (World.ownsRow_nil _ _ _ _) hfr
      go_wp2_with fail
      go_ret3
      rw [HC2.out, HE.out, HD.out]
      have hz1 := hb1.size
      refine ⟨ao, _, cap, ret3 rfl rfl (int_eq (by omega)), fun _ => ⟨rfl, ?_⟩, (hb1.alloc hb1.size _).trans (hfr.below.mono hz1)⟩
      refine ⟨hown3.1, ?_⟩
      rcases hown.2 with hn | ⟨g, c, cur, hv, hbg, _⟩
      · exact .inl hn
      · rcases hown3.2 with hn | ⟨g', c', cur', hv', _, rest⟩
        · exact .inl hn
        · have : g' = g := by rw [hv] at hv'; simp at hv'; exact hv'.1.symm
          subst this
          exact .inr ⟨g', c', cur', hv', hbg, rest⟩
  · have hEr : ((tErr s W : Int) != 0) = true := by rw [bne_iff_ne]; omega
    have HC : Hid (prC s W d = 0) := by unfold Hid prC; rw [if_neg (by rw [hE]; exact he)]
    have HE : Hid (prE s W d = tErr s W) := hE
    have HZ : Hid (¬ tErr s W = 0) := he
    clear he hE
    go_enter Tryd.func52, Tryd.ntmps52
    go_wp2_with fail
    refine (read_any s W _ (by unfold maxLen; omega)).mono ?_
    rintro e w1 ⟨ao, cap, rfl, hown, hb1⟩
    go_wp2_with fail
    go_ret3
    rw [HC.out, HE.out]
    exact ⟨none, 0, 0, rfl, fun h => absurd h HZ.out, hb1⟩
set_option maxRecDepth 100000 in
set_option maxHeartbeats 1000000 in
theorem priced_any (s : ByteArray) (W d : Int) (w : World) (hm : s.size ≤ maxLen) :
    Calls Tryd.prog 52 #[.string s, .int .i64 W, .int .i64 d] w fun e w' => ∃ ao n cap, e = .returned (.tuple #[.slice ao n cap, .int .i64 (prC s W d), .int .i64 (prE s W d)]) ∧
      (prE s W d = 0 → n = (dedup (tRts s W)).length ∧ w'.ownsRow w.heap.size 98 2 (.slice ao n cap) n (rc (dedup (tRts s W)))) ∧ Below w.heap.size w w' := by
  by_cases h1 : 400 < s.size
  · have e1 := prE_long (W := W) (d := d) h1
    obtain ⟨_, e2, _⟩ := t_long (W := W) h1
    have e3 : prE s W d = 1 := by rw [e1, e2]
    have e4 : prC s W d = 0 := by unfold prC; rw [if_neg (by omega)]
    rw [e3, e4]
    refine (priced_long s W d w hm h1).mono ?_
    rintro e w1 ⟨rfl, rfl⟩
    exact ⟨none, 0, 0, rfl, fun h => by omega, Below.refl _ _⟩
  by_cases h2 : prArg s W d
  · have e3 : prE s W d = 2 := by unfold prE; rw [if_pos h2]
    have e4 : prC s W d = 0 := by unfold prC; rw [if_neg (by omega)]
    rw [e3, e4]
    refine (priced_arg s W d w h2).mono ?_
    rintro e w1 ⟨rfl, rfl⟩
    exact ⟨none, 0, 0, rfl, fun h => by omega, Below.refl _ _⟩
  have h3 : ¬ (W < 1 ∨ 12 < W ∨ d < 1 ∨ W < d) := fun h => h2 ⟨by omega, h⟩
  obtain ⟨W, rfl⟩ := Int.eq_ofNat_of_zero_le (show 0 ≤ W by omega)
  obtain ⟨d, rfl⟩ := Int.eq_ofNat_of_zero_le (show 0 ≤ d by omega)
  exact priced_walk s W d w (by omega) (by omega) (by omega) (by omega) (by omega)

theorem rcost_any (s : ByteArray) (W d : Int) (w : World) (hm : s.size ≤ maxLen) :
    Calls Tryd.prog 51 #[.string s, .int .i64 W, .int .i64 d] w fun e w' => e = .returned (.tuple #[.int .i64 (prC s W d), .int .i64 (prE s W d)]) ∧ Below w.heap.size w w' := by
  go_enter Tryd.func51, Tryd.ntmps51
  go_wp2_with fail
  refine (priced_any s W d _ hm).mono ?_
  rintro e w1 ⟨ao, n, cap, rfl, _, hb⟩
  go_wp2_with fail
  go_ret2
  exact ⟨rfl, hb⟩
end Go.Proofs.YtdfnmpmmkcpddaaDoor
/- The walks of the program's Cost. -/
namespace Go.Proofs.YtdfnmpmmkcpddaaDoor
open Go.RowKit

theorem flat_one {R : List Rt} (hS : ∀ r ∈ R, r.bits.size ≤ 12) : (nodesF R).map (flatK R) = (nodesF R).map (nodeK R 1) := by
  refine List.map_congr_left fun b hb => ?_
  unfold flatK nodeK
  rw [cost_one hS (nodes_height hb), chF_one]

/-- What the program prices a table at. -/
def tabC (R : List Rt) (d : Nat) : Int := if heightF R ⟨#[]⟩ = 0 then 0 else costZ R d ⟨#[]⟩

theorem flat_chF {R : List Rt} (b : ByteArray) : chF R 1 b = heightF R b := rfl
theorem Tryd.infoLevel : (Tryd.prog.info? 74).map (fun i => (i.zero, i.size, i.bytes)) = some (some (.slice none 0 0), 1, 24) := by kernel_rfl
/-- The levels: nodes of depth 1, 2, .. -/
def Lev (w : World) (R : List Rt) (ns : List ByteArray) (lv : List Value) : Prop := ∀ i v, lv[i]? = some v → ∃ ao cap base, v = .slice ao ns.length cap ∧ w.ownsRow base 76 4 (.slice ao ns.length cap) ns.length (tnc (ns.map (nodeK R (i + 1))))
theorem Lev.below {w w' : World} {R : List Rt} {ns : List ByteArray} {lv : List Value} (h : Lev w R ns lv) (hb : Below w.heap.size w w') : Lev w' R ns lv := fun i v hv => by
  obtain ⟨ao, cap, base, h1, h2⟩ := h i v hv
  exact ⟨ao, cap, base, h1, own_below h2 hb⟩
theorem Lev.snoc {w : World} {R : List Rt} {ns : List ByteArray} {lv : List Value} {ao : Option Addr} {cap base : Nat} (h : Lev w R ns lv) (ho : w.ownsRow base 76 4 (.slice ao ns.length cap) ns.length (tnc (ns.map (nodeK R (lv.length + 1))))) : Lev w R ns (lv ++ [.slice ao ns.length cap]) := by
  intro i v hv
  by_cases hi : i < lv.length
  · rw [List.getElem?_append_left hi] at hv; exact h i v hv
  · rw [List.getElem?_append_right (by omega)] at hv
    have : i = lv.length := by
      have := (List.getElem?_eq_some_iff.1 hv).1
      simp at this; omega
    subst this
    simp at hv
    exact ⟨ao, cap, base, hv.symm, ho⟩

/-- Rows of two kinds lie in two blocks. -/
theorem own_ne {w : World} {b1 b2 e1 e2 s1 s2 n1 n2 : Nat} {v1 v2 : Value} {x1 x2 : List Value} (h1 : w.ownsRow b1 e1 s1 v1 n1 x1) (h2 : w.ownsRow b2 e2 s2 v2 n2 x2) (he : e1 ≠ e2) : v1.ownBlock = none ∨ v1.ownBlock ≠ v2.ownBlock := by
  rcases h1.2 with ⟨k1, _⟩ | ⟨g, c, cur, k1, _, k3, _⟩
  · left; rw [k1]; rfl
  · right
    rcases h2.2 with ⟨m1, _⟩ | ⟨g', c', cur', m1, _, m3, _⟩
    · rw [k1, m1]; simp [Value.ownBlock]
    · rw [k1, m1]
      intro e
      simp [Value.ownBlock] at e
      subst e
      rw [k3] at m3
      simp at m3
      exact he m3.2
theorem Lev.grown {w w' : World} {R : List Rt} {ns : List ByteArray} {lv : List Value} {base n : Nat} {v : Value} {xs : List Value} (h : Lev w R ns lv) (ho : w.ownsRow base 74 1 v n xs) (hg : w.grownBy w' v.ownBlock) : Lev w' R ns lv := fun i x hx => by
  obtain ⟨ao, cap, b, h1, h2⟩ := h i x hx
  exact ⟨ao, cap, b, h1, h2.kept hg (own_ne h2 ho (by decide))⟩

set_option maxRecDepth 100000 in
set_option maxHeartbeats 1000000 in
theorem treeLevels_any (L : List Rt) (d : Nat) (ao : Option Addr) (cap base : Nat) (w : World) (hl : L.length ≤ 24) (hF : ∀ r ∈ ordR L, r.bits.size ≤ 12) (hd1 : 1 ≤ d) (hd : d ≤ 12) (hown : w.ownsRow base 78 2 (.slice ao L.length cap) L.length (rc L)) :
    Calls Tryd.prog 59 #[.slice ao L.length cap, .int .i64 d] w fun e w' => ∃ ao' cap' lv, e = .returned (.slice ao' d cap') ∧ lv.length = d ∧ w'.ownsRow w.heap.size 74 1 (.slice ao' d cap') d lv ∧ Lev w' (ordR L) (nodesF (ordR L)) lv ∧ Below w.heap.size w w' := by
  obtain ⟨i0, hi, hz0, hz1, hz2'⟩ := info_parts Tryd.infoLevel
  go_enter Tryd.func59, Tryd.ntmps59
  go_wp2_with fail
  refine (flatNodes_any L ao cap base _ hl hF hown).mono ?_
  rintro e w1 ⟨ao1, cap1, rfl, hown1, hb1⟩
  rw [flat_one hF] at hown1
  have hnl := nodes_length hF
  have hRl := ordR_length L
  have hO := ordR_ord L
  obtain ⟨R, hR⟩ : ∃ R, ordR L = R := ⟨_, rfl⟩
  rw [hR] at hown1 hF hO hnl hRl
  have HRR : Hid (ordR L = R) := hR
  rw [hR]
  clear hR hown
  obtain ⟨ns, hn⟩ : ∃ ns, nodesF R = ns := ⟨_, rfl⟩
  rw [hn] at hown1 hnl ⊢
  have hnl2 : ns.length ≤ 400 := by omega
  have hz := hb1.size
  have HF : Hid (∀ r ∈ R, r.bits.size ≤ 12) := hF
  have HN : Hid (nodesF R = ns) := hn
  have HO : Hid (Ord R) := hO
  clear hF hn hO hnl hRl
  go_wp2_with fail
  have hL1 : Lev (w1.alloc (.cells #[.slice ao1 ns.length cap1] 74)) R ns [.slice ao1 ns.length cap1] := by
    have := Lev.snoc (w := w1) (R := R) (ns := ns) (lv := []) (fun i v hv => by simp at hv) hown1
    rw [List.nil_append] at this
    exact this.below ((Below.refl _ _).alloc (Nat.le_refl _) _)
  have hO1 : (w1.alloc (.cells #[.slice ao1 ns.length cap1] 74)).ownsRow w.heap.size 74 1 (.slice (some ⟨w1.heap.size, 0, none⟩) 1 1) 1 [.slice ao1 ns.length cap1] := World.ownsRow_lit w1 #[.slice ao1 ns.length cap1] 1 hz (by unfold maxLen; omega) rfl
  go_loopg [5, 6, 7] (d - 1) (fun g x y z wr => ∃ (k : Nat) (lv : List Value), z = .int .i64 k ∧ g + k = d + 1 ∧ 2 ≤ k ∧ lv.length = k - 1 ∧ lv[k - 2]? = some x ∧ wr.ownsRow w.heap.size 74 1 y (k - 1) lv ∧ Lev wr R ns lv ∧ Below w.heap.size w wr)
  case atStart => exact ⟨2, [.slice ao1 ns.length cap1], rfl, by omega, by omega, rfl, rfl, hO1, hL1, hb1.alloc hz _⟩
  case round =>
    obtain ⟨k, lv, rfl, hgk, hk2, hlv, hx, hown2, hLev, hbel⟩ := hrel
    obtain ⟨ao2, cap2, b2, rfl, hown3⟩ := hLev _ _ hx
    obtain ⟨ao4, cap4, rfl⟩ := own_shape hown2
    rw [show k - 2 + 1 = k - 1 from by omega] at hown3
    have hz2 := hbel.size
    by_cases hlt : k ≤ d
    · go_wp2_with fail
      refine (deepenNodes_any R ns (k - 1) ao2 cap2 _ _ HO.out HF.out HN.out (by omega) hnl2 hown3).mono ?_
      rintro e w2 ⟨ao3, cap3, rfl, hown5, hb3⟩
      rw [show k - 1 + 1 = lv.length + 1 from by omega] at hown5
      have hown6 := own_below hown2 hb3
      have hz3 := hb3.size
      have hbel3 : Below w.heap.size w w2 := hbel.trans (hb3.mono hz2)
      have hLev3 := (hLev.below hb3).snoc hown5
      have hLev4 := hLev3.below ((Below.refl _ _).alloc (Nat.le_refl w2.heap.size) (.cells #[.slice ao3 ns.length cap3] 74))
      go_wp2_with (at_builtin; refine wpList_append_own _ rfl (.tmp 19) (.tmp 21) 72 rfl w.heap.size 74 i0 _ 1 24 Tryd.underlying72 hi hz0 hz1 hz2' rfl (by decide) _ _ _ rfl (hown6.alloc _) ⟨w2.heap.size, 0, none⟩ 1 1 [.slice ao3 ns.length cap3] rfl rfl ?c1 ?c2 ?c3 ?c4 ?c5 ?_)
      case c1 =>
        intro j u hj
        match j, hj with
        | 0, hj => simp at hj; subst hj; simp [Addr.add]
      case c2 => intro u hu; simp at hu; subst hu; rfl
      case c3 => unfold maxLen; omega
      case c4 => omega
      case c5 => simp; omega
      intro v' w4 hown7 hgrow _
      have hb5 : Below w.heap.size w w4 := (hbel3.alloc hbel3.size _).grown hgrow (by simp; omega) (fun k hk => by have := hown6.lt k hk; omega)
      have hLev5 := hLev4.grown (hown6.alloc _) hgrow
      go_wp2_with fail
      go_roundg (gk - 1)
      case measure => omega
      case rel =>
        refine ⟨k + 1, lv ++ [.slice ao3 ns.length cap3], int_eq (by omega), by omega, by omega, by simp; omega, ?_, ?_, hLev5, hb5⟩
        · rw [show k + 1 - 2 = lv.length from by omega]; simp
        · rw [show k + 1 - 1 = k - 1 + 1 from by omega]; exact hown7
    · have hkd : k - 1 = d := by omega
      go_wp2_with fail
      go_ret
      rw [hkd] at hown2 hlv
      rw [HRR.out, HN.out, hkd]
      exact ⟨_, _, lv, rfl, hlv, hown2, hLev, hbel⟩

set_option maxRecDepth 100000 in
set_option maxHeartbeats 1000000 in
theorem tableCost_any (L : List Rt) (d : Nat) (ao : Option Addr) (cap base : Nat) (w : World) (hl : L.length ≤ 24) (hF : ∀ r ∈ ordR L, r.bits.size ≤ 12) (hd1 : 1 ≤ d) (hd : d ≤ 12) (hown : w.ownsRow base 78 2 (.slice ao L.length cap) L.length (rc L)) :
    Calls Tryd.prog 36 #[.slice ao L.length cap, .int .i64 d] w fun e w' => e = .returned (.int .i64 (tabC (ordR L) d)) ∧ Below w.heap.size w w' := by
  go_enter Tryd.func36, Tryd.ntmps36
  go_wp2_with fail
  refine (treeLevels_any L d ao cap base _ hl hF hd1 hd hown).mono ?_
  rintro e w1 ⟨ao1, cap1, lv, rfl, hlv, hown1, hLev, hb1⟩
  have hnl := nodes_length hF
  have hRl := ordR_length L
  obtain ⟨R, hR⟩ : ∃ R, ordR L = R := ⟨_, rfl⟩
  rw [hR] at hLev hF hnl hRl
  have HRR : Hid (ordR L = R) := hR
  clear hR hown
  obtain ⟨ns, hn⟩ : ∃ ns, nodesF R = ns := ⟨_, rfl⟩
  rw [hn] at hLev hnl
  have hnl2 : ns.length ≤ 400 := by omega
  have HN : Hid (nodesF R = ns) := hn
  clear hF hn hnl hRl
  obtain ⟨g, rfl, hg1, hg2, hg3, hg4⟩ := own_some hown1 (by omega)
  unfold maxLen at hg4
  obtain ⟨ao2, cap2, b2, hv2, hown2⟩ := hLev (d - 1) lv[d - 1] (by simp)
  have hc := hown1.cellAt (d - 1) (by omega)
  rw [List.getElem?_eq_getElem (by omega), hv2] at hc
  have hsub : (d : Int) - 1 = ((d - 1 : Nat) : Int) := by omega
  rw [show d - 1 + 1 = d from by omega] at hown2
  clear hv2 hown1 hLev
  rcases nodes_head (R := R) with ⟨h1, h2⟩ | ⟨l, h1⟩
  · rw [HN.out] at h1
    have HT : Hid (tabC R d = 0) := by unfold Hid tabC; rw [if_pos h2]
    have hl0 : ns.length = 0 := by rw [h1]; rfl
    have hlb : ((ns.length : Int) == 0) = true := by rw [beq_iff_eq]; omega
    clear h1 h2
    go_wp2_with fail
    go_ret
    exact ⟨ret1 (int_eq (by rw [HRR.out, HT.out])), hb1⟩
  · have h2 := empty_height h1
    rw [HN.out] at h1
    have HT : Hid (tabC R d = costZ R d ⟨#[]⟩) := by unfold Hid tabC; rw [if_neg (by omega)]
    have hl0 : 0 < ns.length := by rw [h1]; simp
    have hlb : ((ns.length : Int) == 0) = false := by rw [beq_eq_false_iff_ne]; omega
    obtain ⟨g', rfl, hg1', hg2', hg3', hg4'⟩ := own_some hown2 hl0
    unfold maxLen at hg4'
    have c2 : w1.cell? ⟨g', 3, none⟩ = some (.int .i64 (costZ R d ⟨#[]⟩)) := by
      have hml : ns.length = (ns.map (nodeK R d)).length := by simp
      have hown3 := hown2
      rw [hml] at hown3
      have := (node_cells (i := 0) hown3 hg2' (Below.refl _ _) (by simp; omega)).2.2.2
      rw [nodeK_at R d ns hl0] at this
      have e : ns[0] = ⟨#[]⟩ := by simp [h1]
      rw [e] at this
      exact this
    clear h1 h2
    go_wp2_with fail
    go_ret
    exact ⟨ret1 (int_eq (by rw [HRR.out, HT.out])), hb1⟩
theorem tab_prC {s : ByteArray} {W d : Int} (h : prE s W d = 0) : prC s W d = tabC (ordR (tRts s W)) d.toNat := by
  have hS := same_ord (tRts s W)
  unfold prC tabC
  rw [if_pos h, height_same hS, cost_same hS]

theorem prE_arg {s : ByteArray} {W d : Int} (h : prArg s W d) : prE s W d = 2 := by unfold prE; rw [if_pos h]
theorem prE_no {s : ByteArray} {W d : Int} (h : ¬ prArg s W d) : prE s W d = tErr s W := by unfold prE; rw [if_neg h]
/-- readForDepth: the program's own test looks at the depth alone; a bad width with a depth within it is found by readTable. -/
theorem prE_table {s : ByteArray} {W d : Int} (h : ¬ (s.size ≤ 400 ∧ (d < 1 ∨ W < d))) : prE s W d = tErr s W := by
  by_cases h1 : prArg s W d
  · rw [prE_arg h1]
    obtain ⟨hs, h2⟩ := h1
    rw [(t_arg (W := W) hs (by omega)).2.1]
  · exact prE_no h1

set_option maxRecDepth 100000 in
theorem readForDepth_any (s : ByteArray) (W d : Int) (w : World) (hm : s.size ≤ maxLen) :
    Calls Tryd.prog 35 #[.string s, .int .i64 W, .int .i64 d] w fun e w' => ∃ ao n cap, e = .returned (.tuple #[.slice ao n cap, .int .i64 (prE s W d)]) ∧
      (prE s W d = 0 → n = (tRts s W).length ∧ w'.ownsRow w.heap.size 78 2 (.slice ao n cap) n (rc (tRts s W))) ∧ Below w.heap.size w w' := by
  have hm' : s.size ≤ 9223372036854775807 := by unfold maxLen at hm; omega
  by_cases h : s.size ≤ 400 ∧ (d < 1 ∨ W < d)
  · have HE : Hid (prE s W d = 2) := prE_arg ⟨h.1, by omega⟩
    obtain ⟨hs, hd⟩ := h
    clear hm
    by_cases hd1 : d < 1
    · clear hd
      go_enter Tryd.func35, Tryd.ntmps35
      go_wp2_with fail
      go_ret2
      rw [HE.out]
      exact ⟨none, 0, 0, rfl, by omega, Below.refl _ _⟩
    · have hd2 : W < d := by omega
      have g1 : decide (d < 1) = false := by rw [decide_eq_false_iff_not]; exact hd1
      have g2 : decide (W < d) = true := by rw [decide_eq_true_eq]; exact hd2
      clear hd
      go_enter Tryd.func35, Tryd.ntmps35
      go_wp2_with fail
      go_ret2
      rw [HE.out]
      exact ⟨none, 0, 0, rfl, by omega, Below.refl _ _⟩
  · have hE : prE s W d = tErr s W := prE_table h
    rw [hE]
    have HM : Hid (s.size ≤ maxLen) := hm
    by_cases hs : s.size ≤ 400
    · have hd1 : ¬ d < 1 := fun e => h ⟨hs, .inl e⟩
      have hd2 : ¬ W < d := fun e => h ⟨hs, .inr e⟩
      clear h hE hm
      go_enter Tryd.func35, Tryd.ntmps35
      go_wp2_with fail
      refine (readTable_any s W _ HM.out).mono ?_
      rintro e w1 ⟨ao, cap, rfl, hown, hb1⟩
      go_wp2_with fail
      go_ret2
      exact ⟨ao, _, cap, rfl, fun _ => ⟨rfl, hown⟩, hb1⟩
    · clear h hE hm
      go_enter Tryd.func35, Tryd.ntmps35
      go_wp2_with fail
      refine (readTable_any s W _ HM.out).mono ?_
      rintro e w1 ⟨ao, cap, rfl, hown, hb1⟩
      go_wp2_with fail
      go_ret2
      exact ⟨ao, _, cap, rfl, fun _ => ⟨rfl, hown⟩, hb1⟩

theorem prE_zero {s : ByteArray} {W d : Int} (h : prE s W d = 0) : tErr s W = 0 ∧ 1 ≤ d ∧ d ≤ W := by
  by_cases h1 : prArg s W d
  · rw [prE_arg h1] at h; omega
  · rw [prE_no h1] at h
    obtain ⟨hs, _⟩ := t_zero h
    refine ⟨h, ?_⟩
    unfold prArg at h1
    omega

set_option maxRecDepth 100000 in
theorem cost_fib (s : ByteArray) (W d : Int) (w : World) (hm : s.size ≤ maxLen) :
    Calls Tryd.prog 23 #[.string s, .int .i64 W, .int .i64 d] w fun e w' => e = .returned (.tuple #[.int .i64 (prC s W d), .int .i64 (prE s W d)]) ∧ Below w.heap.size w w' := by
  have HR := readForDepth_any s W d w hm
  by_cases he : prE s W d = 0
  · obtain ⟨h1, h2, h3⟩ := prE_zero he
    obtain ⟨hs, hW1, hW2, hlen⟩ := t_zero h1
    rw [tab_prC he, he]
    rw [he] at HR
    have HRR : Hid (Calls Tryd.prog 35 #[.string s, .int .i64 W, .int .i64 d] w fun e w' => ∃ ao cap, e = .returned (.tuple #[.slice ao (tRts s W).length cap, .int .i64 0]) ∧
      w'.ownsRow w.heap.size 78 2 (.slice ao (tRts s W).length cap) (tRts s W).length (rc (tRts s W)) ∧ Below w.heap.size w w') := by
      refine HR.mono ?_
      rintro e w' ⟨ao, n, cap, rfl, g2, g3⟩
      obtain ⟨rfl, g2⟩ := g2 rfl
      exact ⟨ao, cap, rfl, g2, g3⟩
    have HF : Hid (∀ r ∈ ordR (tRts s W), r.bits.size ≤ 12) := fun r hr => (ordR_fit (tRts_fit s W) r hr).1
    obtain ⟨k, rfl⟩ := Int.eq_ofNat_of_zero_le (show 0 ≤ d by omega)
    rw [Int.toNat_natCast]
    clear HR he h1 hm
    go_enter Tryd.func23, Tryd.ntmps23
    go_wp2_with fail
    refine HRR.out.mono ?_
    rintro e w1 ⟨ao, cap, rfl, hown, hb1⟩
    go_wp2_with fail
    refine (tableCost_any (tRts s W) k ao cap _ _ hlen HF.out (by omega) (by omega) hown).mono ?_
    rintro e w2 ⟨rfl, hb2⟩
    go_wp2_with fail
    go_ret2
    exact ⟨rfl, hb1.trans (hb2.mono hb1.size)⟩
  · have hC : prC s W d = 0 := by unfold prC; rw [if_neg he]
    rw [hC]
    have hEb : ((prE s W d : Int) != 0) = true := by rw [bne_iff_ne]; omega
    have HRR : Hid (Calls Tryd.prog 35 #[.string s, .int .i64 W, .int .i64 d] w fun e w' => ∃ ao n cap, e = .returned (.tuple #[.slice ao n cap, .int .i64 (prE s W d)]) ∧
      (prE s W d = 0 → n = (tRts s W).length ∧ w'.ownsRow w.heap.size 78 2 (.slice ao n cap) n (rc (tRts s W))) ∧ Below w.heap.size w w') := HR
    clear HR he hC hm
    go_enter Tryd.func23, Tryd.ntmps23
    go_wp2_with fail
    refine HRR.out.mono ?_
    rintro e w1 ⟨ao, n, cap, rfl, _, hb1⟩
    go_wp2_with fail
    go_ret2
    exact ⟨rfl, hb1⟩
end Go.Proofs.YtdfnmpmmkcpddaaDoor
/- What Deeper asks of a text: does some route have bits? -/
namespace Go.Proofs.YtdfnmpmmkcpddaaDoor

/-- A line that begins with a bit stands at i. -/
def starts (s : ByteArray) (i : Nat) : Bool := decide ((byt s i = 48 ∨ byt s i = 49) ∧ (i = 0 ∨ byt s (i - 1) = 10))
def longF (s : ByteArray) : Nat → Bool
  | 0 => false
  | i + 1 => longF s i || starts s i
theorem longF_iff {s : ByteArray} : ∀ {n : Nat}, longF s n = true ↔ ∃ i, i < n ∧ starts s i = true
  | 0 => by simp [longF]
  | n + 1 => by
    rw [longF, Bool.or_eq_true, longF_iff]
    constructor
    · rintro (⟨i, h1, h2⟩ | h)
      · exact ⟨i, by omega, h2⟩
      · exact ⟨n, by omega, h⟩
    · rintro ⟨i, h1, h2⟩
      by_cases e : i = n
      · exact .inr (by rw [← e]; exact h2)
      · exact .inl ⟨i, by omega, h2⟩

theorem nbits_at (s : ByteArray) : ∀ (w p j : Nat), j < nbits s w p → byt s (p + j) = 48 ∨ byt s (p + j) = 49
  | 0, _, _, h => by simp [nbits] at h
  | w + 1, p, j, h => by
    unfold nbits at h
    split at h
    · rename_i hc
      cases j with
      | zero => exact hc
      | succ j =>
        have := nbits_at s w (p + 1) j (by omega)
        rwa [show p + 1 + j = p + (j + 1) from by omega] at this
    · omega
theorem hopGo_at (s : ByteArray) : ∀ (f n p j : Nat), p ≤ j → j < (hopGo s f n p).2 → 48 ≤ byt s j ∧ byt s j ≤ 57
  | 0, _, _, _, h1, h2 => by simp only [hopGo] at h2; omega
  | f + 1, n, p, j, h1, h2 => by
    unfold hopGo at h2
    split at h2
    · rename_i hc
      by_cases e : j = p
      · rw [e]; omega
      · exact hopGo_at s f _ (p + 1) j (by omega) h2
    · simp only [] at h2; omega
/-- Within a line there is no line end. -/
theorem line_in {s : ByteArray} {w p j : Nat} (hok : lBad s w p = false) (h1 : p ≤ j) (h2 : j < lAt s w p) : byt s j ≠ 10 := by
  simp only [lBad, decide_eq_false_iff_not] at hok
  have hb : byt s (bEnd s w p) = 32 := by omega
  have hla : lAt s w p = (hopGo s 3 0 (bEnd s w p + 1)).2 := by unfold lAt; rw [if_neg (by omega)]
  rw [hla] at h2
  by_cases c1 : j < bEnd s w p
  · unfold bEnd at c1
    split at c1
    · have : j = p := by omega
      rw [this]; omega
    · have := nbits_at s w p (j - p) (by omega)
      rw [show p + (j - p) = j from by omega] at this
      omega
  · by_cases c2 : j = bEnd s w p
    · rw [c2, hb]; omega
    · have := hopGo_at s 3 0 (bEnd s w p + 1) j (by omega) h2
      omega
theorem line_end {s : ByteArray} {w p : Nat} (hok : lBad s w p = false) : byt s (lAt s w p) = 10 := by
  simp only [lBad, decide_eq_false_iff_not] at hok
  have hla : lAt s w p = (hopGo s 3 0 (bEnd s w p + 1)).2 := by unfold lAt; rw [if_neg (by omega)]
  rw [hla]; omega
theorem line_bits {s : ByteArray} {w p : Nat} (hw : 1 ≤ w) (hp : p ≤ s.size) : 1 ≤ (lRt s w p).bits.size ↔ (byt s p = 48 ∨ byt s p = 49) := by
  show 1 ≤ (bOf s w p).size ↔ _
  have hn : nbits s w p = 0 ∨ (byt s p = 48 ∨ byt s p = 49) := by
    by_cases h : nbits s w p = 0
    · exact .inl h
    · exact .inr (by have := nbits_at s w p 0 (by omega); simpa using this)
  have hn2 : (byt s p = 48 ∨ byt s p = 49) → 1 ≤ nbits s w p := fun h => by rw [nbits_succ h (by omega)]; omega
  have he := nbits_end s w p hp
  unfold bOf
  split
  · rename_i h42
    constructor
    · intro h; exact absurd h (by show ¬ 1 ≤ 0; omega)
    · omega
  · rw [ByteArray.size_extract]
    constructor
    · intro h
      rcases hn with h0 | h0
      · omega
      · exact h0
    · intro h; have := hn2 h; omega
/-- The lines' beginnings, and their bits. -/
theorem parse_starts {s : ByteArray} {w : Nat} (hw : 1 ≤ w) : ∀ {f p : Nat} {acc l : List Rt} {q : Nat}, s.size < f + p → p ≤ s.size → parse s w f p acc = (some l, q) →
    ∃ l', l = acc ++ l' ∧ (∀ i, p ≤ i → i < s.size → (i = p ∨ byt s (i - 1) = 10) → (byt s i = 48 ∨ byt s i = 49) → ∃ r ∈ l', 1 ≤ r.bits.size) ∧
      (∀ r ∈ l', 1 ≤ r.bits.size → ∃ i, p ≤ i ∧ i + 1 < s.size ∧ (i = p ∨ byt s (i - 1) = 10) ∧ (byt s i = 48 ∨ byt s i = 49)) ∧ (∀ r ∈ l', r.bits.size ≤ w)
  | 0, p, acc, l, q, hf, hp, _ => by omega
  | f + 1, p, acc, l, q, hf, hp, h => by
    unfold parse at h
    split at h
    · rename_i hc
      simp at h
      refine ⟨[], by simp [h.1], fun i h1 h2 => by omega, by simp, by simp⟩
    · rename_i hc
      split at h
      · simp at h
      · rename_i hb
        have hok : lBad s w p = false := by simpa using hb
        obtain ⟨hl1, hl2⟩ := lAt_lt s w p hok
        obtain ⟨l', e, k1, k2, k3⟩ := parse_starts hw (by omega) (by omega) h
        refine ⟨lRt s w p :: l', by rw [e]; simp, ?_, ?_, ?_⟩
        · intro i h1 h2 h3 h4
          by_cases c : i ≤ lAt s w p
          · have : i = p := by
              rcases h3 with h3 | h3
              · exact h3
              · by_cases e : i = p
                · exact e
                · exact absurd h3 (line_in hok (by omega) (by omega))
            exact ⟨lRt s w p, by simp, (line_bits hw hp).2 (by rw [← this]; exact h4)⟩
          · obtain ⟨r, hr, hr2⟩ := k1 i (by omega) h2 (by
              rcases h3 with h3 | h3
              · omega
              · exact .inr h3) h4
            exact ⟨r, by simp [hr], hr2⟩
        · intro r hr hr2
          rcases List.mem_cons.1 hr with rfl | hr
          · exact ⟨p, by omega, by omega, .inl rfl, (line_bits hw hp).1 hr2⟩
          · obtain ⟨i, h1, h2, h3, h4⟩ := k2 r hr hr2
            refine ⟨i, by omega, h2, ?_, h4⟩
            right
            rcases h3 with h3 | h3
            · rw [h3, show lAt s w p + 1 - 1 = lAt s w p from rfl]; exact line_end hok
            · exact h3
        · intro r hr
          rcases List.mem_cons.1 hr with rfl | hr
          · show (bOf s w p).size ≤ w
            unfold bOf; split
            · exact Nat.zero_le _
            · have := nbits_le s w p
              rw [ByteArray.size_extract]; omega
          · exact k3 r hr

/-- A table's text is long if, and only if, some route has bits. -/
theorem long_iff {s : ByteArray} {W : Nat} (h : tErr s W = 0) (hs : s.size ≤ 400) (hW1 : 1 ≤ W) (hW : W ≤ 12) : (longF s (s.size - 1) = true ↔ ∃ r ∈ tRts s W, 1 ≤ r.bits.size) ∧ ∀ r ∈ tRts s W, r.bits.size ≤ W := by
  cases ht : table s W with
  | mk o q =>
    cases o with
    | none => rw [(t_bad hs hW1 hW ht).2.1] at h; omega
    | some l =>
      by_cases hl : 24 < l.length
      · rw [(t_many hs hW1 hW ht hl).2.1] at h; omega
      · rw [(t_ok hs hW1 hW ht hl).1]
        obtain ⟨l', e, k1, k2, k3⟩ := parse_starts hW1 (by omega) (Nat.zero_le _) ht
        rw [List.nil_append] at e
        subst e
        refine ⟨?_, k3⟩
        rw [longF_iff]
        constructor
        · rintro ⟨i, h1, h2⟩
          simp only [starts, decide_eq_true_eq] at h2
          exact k1 i (by omega) (by omega) h2.2 h2.1
        · rintro ⟨r, hr, hr2⟩
          obtain ⟨i, h1, h2, h3, h4⟩ := k2 r hr hr2
          exact ⟨i, by omega, by simp only [starts, decide_eq_true_eq]; exact ⟨h4, h3⟩⟩
theorem lastOf_some {L : List Rt} {r : Rt} (hr : r ∈ L) : ∃ h, lastOf L r.bits = some h := by
  revert hr
  refine snoc_ind (p := fun L => r ∈ L → ∃ h, lastOf L r.bits = some h) ?_ ?_ L
  · intro h; simp at h
  · intro L x ih h
    rw [lastOf_snoc]
    by_cases e : x.bits = r.bits
    · rw [if_pos e]; exact ⟨_, rfl⟩
    · rw [if_neg e]
      rcases List.mem_append.1 h with h1 | h1
      · exact ih h1
      · rw [List.mem_singleton] at h1; rw [h1] at e; exact absurd rfl e
/-- The height of the whole table. -/
theorem height_long {L : List Rt} : 1 ≤ heightF (ordR L) ⟨#[]⟩ ↔ ∃ r ∈ L, 1 ≤ r.bits.size := by
  have hp : ∀ x : ByteArray, pre ⟨#[]⟩ x = true := fun x => pre_iff.2 List.nil_prefix
  constructor
  · intro h
    obtain ⟨r, hr, _, he⟩ := height_at h
    refine ⟨r, lastOf_mem ((ordR_mem L r).1 hr), ?_⟩
    have : (⟨#[]⟩ : ByteArray).size = 0 := rfl
    omega
  · rintro ⟨r, hr, h1⟩
    obtain ⟨x, hx, e⟩ : ∃ x ∈ ordR L, x.bits = r.bits := by
      have : ∃ h, lastOf L r.bits = some h := lastOf_some hr
      obtain ⟨h, hh⟩ := this
      exact ⟨⟨r.bits, h⟩, (ordR_mem L _).2 hh, rfl⟩
    have := heightF_ge hx (hp x.bits)
    have hz : (⟨#[]⟩ : ByteArray).size = 0 := rfl
    rw [e] at this
    omega
end Go.Proofs.YtdfnmpmmkcpddaaDoor
