/- The walks of the document's priced and Cost. -/
import Derived.Test.YtdfnmpmmkcpddaaDoorWalkV
import Derived.Test.YtdfnmpmmkcpddaaDoorLawF
namespace Go.Proofs.YtdfnmpmmkcpddaaDoor
open Go.RowKit

/-- P6's errors and the cost. -/
abbrev prArg (s : ByteArray) (W d : Int) : Prop := s.size ≤ 400 ∧ (W < 1 ∨ 12 < W ∨ d < 1 ∨ W < d)
def prE (s : ByteArray) (W d : Int) : Nat := if prArg s W d then 2 else tErr s W
def prC (s : ByteArray) (W d : Int) : Int := if prE s W d = 0 then (if heightF (dedup (tRts s W)) ⟨#[]⟩ = 0 then 0 else costZ (dedup (tRts s W)) d.toNat ⟨#[]⟩) else 0

theorem priced_arg (s : ByteArray) (W d : Int) (w : World) (h : prArg s W d) :
    Calls Tryd.prog 52 #[.string s, .int .i64 W, .int .i64 d] w fun e w' => e = .returned (.tuple #[.slice none 0 0, .int .i64 0, .int .i64 2]) ∧ w' = w := by
  obtain ⟨hs, h1⟩ := h
  by_cases hW1 : W < 1
  · clear h1
    go_enter Tryd.func52, Tryd.ntmps52
    go_wp2_with fail
    go_ret3
    exact ⟨rfl, rfl⟩
  by_cases hW2 : 12 < W
  · clear h1
    go_enter Tryd.func52, Tryd.ntmps52
    go_wp2_with fail
    go_ret3
    exact ⟨rfl, rfl⟩
  by_cases hd1 : d < 1
  · clear h1
    go_enter Tryd.func52, Tryd.ntmps52
    go_wp2_with fail
    go_ret3
    exact ⟨rfl, rfl⟩
  have hd2 : W < d := by omega
  clear h1
  go_enter Tryd.func52, Tryd.ntmps52
  go_wp2_with fail
  go_ret3
  exact ⟨rfl, rfl⟩
theorem prE_long {s : ByteArray} {W d : Int} (h : 400 < s.size) : prE s W d = tErr s W := by
  unfold prE; rw [if_neg]; rintro ⟨h1, _⟩; omega
theorem priced_long (s : ByteArray) (W d : Int) (w : World) (hm : s.size ≤ maxLen) (h : 400 < s.size) :
    Calls Tryd.prog 52 #[.string s, .int .i64 W, .int .i64 d] w fun e w' => e = .returned (.tuple #[.slice none 0 0, .int .i64 0, .int .i64 1]) ∧ w' = w := by
  have hm' : s.size ≤ maxLen := hm
  unfold maxLen at hm'
  go_enter Tryd.func52, Tryd.ntmps52
  go_wp2_with fail
  refine (read_long s W _ hm h).mono ?_
  rintro e w1 ⟨rfl, rfl⟩
  go_wp2_with fail
  go_ret3
  exact ⟨rfl, rfl⟩

set_option maxRecDepth 100000 in
set_option maxHeartbeats 1000000 in
theorem priced_walk (s : ByteArray) (W d : Nat) (w : World) (hs : s.size ≤ 400) (hW1 : 1 ≤ W) (hW : W ≤ 12) (hd1 : 1 ≤ d) (hd : d ≤ W) :
    Calls Tryd.prog 52 #[.string s, .int .i64 W, .int .i64 d] w fun e w' => ∃ ao n cap, e = .returned (.tuple #[.slice ao n cap, .int .i64 (prC s W d), .int .i64 (prE s W d)]) ∧
      (prE s W d = 0 → n = (dedup (tRts s W)).length ∧ w'.ownsRow w.heap.size 98 2 (.slice ao n cap) n (rc (dedup (tRts s W)))) ∧ Below w.heap.size w w' := by
  have hE : prE s W d = tErr s W := by unfold prE; rw [if_neg]; rintro ⟨_, h⟩; omega
  by_cases he : tErr s W = 0
  · have hEr : ((tErr s W : Int) != 0) = false := by rw [bne_eq_false_iff_eq]; omega
    have hdl := dedup_length (tRts s W)
    have hlen := (t_zero he).2.2.2
    have HC : Hid (prC s W d = if heightF (dedup (tRts s W)) ⟨#[]⟩ = 0 then 0 else costZ (dedup (tRts s W)) d ⟨#[]⟩) := by unfold Hid prC; rw [if_pos (hE.trans he)]; rfl
    have hF : ∀ r ∈ dedup (tRts s W), r.bits.size ≤ 12 := fun r hr => (dedup_fit (tRts_fit s W) r hr).1
    have HZ : Hid (tErr s W = 0) := he
    have HE : Hid (prE s W d = 0) := hE.trans he
    clear he hE
    go_enter Tryd.func52, Tryd.ntmps52
    go_wp2_with fail
    refine (read_any s W _ (by unfold maxLen; omega)).mono ?_
    rintro e w1 ⟨ao, cap, rfl, hown, hb1⟩
    obtain ⟨D, hD⟩ : ∃ D, dedup (tRts s W) = D := ⟨_, rfl⟩
    rw [hD] at hown hdl hF HC
    rw [hD]
    have HD : Hid (dedup (tRts s W) = D) := hD
    clear hD
    go_wp2_with fail
    refine (rheight_any ⟨#[]⟩ D ao cap _ _ (by omega) hF (by show 0 ≤ 12; omega) hown).mono ?_
    rintro e w2 ⟨rfl, rfl⟩
    by_cases hh : heightF D ⟨#[]⟩ = 0
    · have HC2 : Hid (prC s W d = 0) := by unfold Hid; rw [HC.out, if_pos hh]
      rw [hh]
      go_wp2_with fail
      go_ret3
      rw [HC2.out, HE.out, HD.out]
      exact ⟨ao, _, cap, ret3 rfl rfl (int_eq (by omega)), fun _ => ⟨rfl, hown⟩, hb1⟩
    · have HC2 : Hid (prC s W d = costZ D d ⟨#[]⟩) := by unfold Hid; rw [HC.out, if_neg hh]
      have hhe : ((heightF D ⟨#[]⟩ : Int) == 0) = false := by rw [beq_eq_false_iff_ne]; omega
      have HROOM : Hid (([] : List Kn).length + 1 + tc D ⟨#[]⟩ * 3 ^ heightF D ⟨#[]⟩ ≤ 100000000) := by
        unfold Hid
        have h1 := tc_le D ⟨#[]⟩
        have h2 := heightF_le (b := ⟨#[]⟩) hF
        have h3 : 3 ^ heightF D ⟨#[]⟩ ≤ 3 ^ 12 := Nat.pow_le_pow_right (by omega) (by omega)
        have h4 := Nat.mul_le_mul (show tc D ⟨#[]⟩ ≤ 24 by omega) h3
        simp only [List.length_nil]
        omega
      have hlt : ∀ g, ao = some g → g.block < w2.heap.size := by
        intro g hg
        subst hg
        exact (hown.lt g.block rfl).2
      go_wp2_with fail
      refine (cost_any D w2.heap.size ao cap (by omega) hF hlt d hd1 (by omega) ⟨#[]⟩ [] (.slice none 0 0) _ (by show 0 ≤ 12; omega) (heap_alloc_new w2 _) (own_base (hown.alloc _) (by omega)) (World.ownsRow_nil _ _ _ _) (fun x hx => by simp at hx) HROOM.out).mono ?_
      rintro e w3 ⟨rfl, ks', vk', hsm, hownk, _, _, hfr⟩
      have hown3 := low_row hlt (own_base (hown.alloc _) (Nat.zero_le _)) (World.ownsRow_nil _ _ _ _) hfr
      go_wp2_with fail
      go_ret3
      rw [HC2.out, HE.out, HD.out]
      have hz1 := hb1.size
      refine ⟨ao, _, cap, ret3 rfl rfl (int_eq (by omega)), fun _ => ⟨rfl, ?_⟩, (hb1.alloc hb1.size _).trans (hfr.below.mono hz1)⟩
      refine ⟨hown3.1, ?_⟩
      rcases hown.2 with hn | ⟨g, c, cur, hv, hbg, _⟩
      · exact .inl hn
      · rcases hown3.2 with hn | ⟨g', c', cur', hv', _, rest⟩
        · exact .inl hn
        · have : g' = g := by rw [hv] at hv'; simp at hv'; exact hv'.1.symm
          subst this
          exact .inr ⟨g', c', cur', hv', hbg, rest⟩
  · have hEr : ((tErr s W : Int) != 0) = true := by rw [bne_iff_ne]; omega
    have HC : Hid (prC s W d = 0) := by unfold Hid prC; rw [if_neg (by rw [hE]; exact he)]
    have HE : Hid (prE s W d = tErr s W) := hE
    have HZ : Hid (¬ tErr s W = 0) := he
    clear he hE
    go_enter Tryd.func52, Tryd.ntmps52
    go_wp2_with fail
    refine (read_any s W _ (by unfold maxLen; omega)).mono ?_
    rintro e w1 ⟨ao, cap, rfl, hown, hb1⟩
    go_wp2_with fail
    go_ret3
    rw [HC.out, HE.out]
    exact ⟨none, 0, 0, rfl, fun h => absurd h HZ.out, hb1⟩
set_option maxRecDepth 100000 in
set_option maxHeartbeats 1000000 in
theorem priced_any (s : ByteArray) (W d : Int) (w : World) (hm : s.size ≤ maxLen) :
    Calls Tryd.prog 52 #[.string s, .int .i64 W, .int .i64 d] w fun e w' => ∃ ao n cap, e = .returned (.tuple #[.slice ao n cap, .int .i64 (prC s W d), .int .i64 (prE s W d)]) ∧
      (prE s W d = 0 → n = (dedup (tRts s W)).length ∧ w'.ownsRow w.heap.size 98 2 (.slice ao n cap) n (rc (dedup (tRts s W)))) ∧ Below w.heap.size w w' := by
  by_cases h1 : 400 < s.size
  · have e1 := prE_long (W := W) (d := d) h1
    obtain ⟨_, e2, _⟩ := t_long (W := W) h1
    have e3 : prE s W d = 1 := by rw [e1, e2]
    have e4 : prC s W d = 0 := by unfold prC; rw [if_neg (by omega)]
    rw [e3, e4]
    refine (priced_long s W d w hm h1).mono ?_
    rintro e w1 ⟨rfl, rfl⟩
    exact ⟨none, 0, 0, rfl, fun h => by omega, Below.refl _ _⟩
  by_cases h2 : prArg s W d
  · have e3 : prE s W d = 2 := by unfold prE; rw [if_pos h2]
    have e4 : prC s W d = 0 := by unfold prC; rw [if_neg (by omega)]
    rw [e3, e4]
    refine (priced_arg s W d w h2).mono ?_
    rintro e w1 ⟨rfl, rfl⟩
    exact ⟨none, 0, 0, rfl, fun h => by omega, Below.refl _ _⟩
  have h3 : ¬ (W < 1 ∨ 12 < W ∨ d < 1 ∨ W < d) := fun h => h2 ⟨by omega, h⟩
  obtain ⟨W, rfl⟩ := Int.eq_ofNat_of_zero_le (show 0 ≤ W by omega)
  obtain ⟨d, rfl⟩ := Int.eq_ofNat_of_zero_le (show 0 ≤ d by omega)
  exact priced_walk s W d w (by omega) (by omega) (by omega) (by omega) (by omega)

theorem rcost_any (s : ByteArray) (W d : Int) (w : World) (hm : s.size ≤ maxLen) :
    Calls Tryd.prog 51 #[.string s, .int .i64 W, .int .i64 d] w fun e w' => e = .returned (.tuple #[.int .i64 (prC s W d), .int .i64 (prE s W d)]) ∧ Below w.heap.size w w' := by
  go_enter Tryd.func51, Tryd.ntmps51
  go_wp2_with fail
  refine (priced_any s W d _ hm).mono ?_
  rintro e w1 ⟨ao, n, cap, rfl, _, hb⟩
  go_wp2_with fail
  go_ret2
  exact ⟨rfl, hb⟩
end Go.Proofs.YtdfnmpmmkcpddaaDoor
