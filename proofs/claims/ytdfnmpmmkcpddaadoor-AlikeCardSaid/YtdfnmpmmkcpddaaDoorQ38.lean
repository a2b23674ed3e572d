import Derived.Test.YtdfnmpmmkcpddaaDoorQ32
import Derived.Test.YtdfnmpmmkcpddaaDoorQ35
import Derived.Test.YtdfnmpmmkcpddaaDoorQ37
import Derived.Test.YtdfnmpmmkcpddaaDoorQ13
/- Walked, Limits, Alike: the closed fact; Limits. -/
namespace Go.Proofs.YtdfnmpmmkcpddaaDoor
open Go.RowKit

def ex4 : ByteArray := ⟨#[48, 32, 49, 10, 49, 32, 50, 10]⟩
theorem ex4_err : prE ex4 ((4 : Nat) : Int) ((1 : Nat) : Int) = 0 := by decide +kernel
theorem ex4_hop : (bestF (addr 9 4) (tRts ex4 ((4 : Nat) : Int))).2 = 2 := by decide +kernel
theorem ex4_high : heightF (ordR (tRts ex4 ((4 : Nat) : Int))) ⟨#[]⟩ = 1 := by decide +kernel
theorem ex4_cost : prC ex4 ((4 : Nat) : Int) ((1 : Nat) : Int) = 2 := by decide +kernel
/-- The image of the document's example, walked. -/
theorem ex4_walk : ∃ m : ByteArray, m.size ≤ 20 ∧ cmpS cF ex4 4 1 99 = m ∧ cmpE cF ex4 4 1 99 = 0 ∧ lookE m 0 9 = 0 ∧ lookR m 0 9 = (2, 1) := by
  have he := ex4_err
  have hC := cF_comp (s := ex4) (W := 4) (D := 1) he
  have hb := hC.bytes
  rw [ex4_cost] at hb
  have hh := hC.hop 9 (by omega) (by decide)
  have hl := (cF_look (s := ex4) (W := 4) (D := 1) he (A := 9) (by omega) (by decide)).1
  have hE := cF_err (s := ex4) (W := 4) (D := 1) he 9
  rw [if_pos (by decide)] at hE
  have e1 : cmpE cF ex4 4 1 99 = 0 := by
    unfold cmpE
    rw [show prE ex4 4 1 = 0 from he, if_pos rfl, show (4 : Int).toNat = 4 from rfl, show (1 : Int).toNat = 1 from rfl]
    rw [if_neg (by show ¬ (99 : Int) < ((cF (ordR (tRts ex4 ((4 : Nat) : Int))) 4 1).size : Int); omega)]
  refine ⟨cF (ordR (tRts ex4 ((4 : Nat) : Int))) 4 1, by omega, ?_, e1, hE, ?_⟩
  · unfold cmpS; rw [if_pos e1]; rfl
  · refine Prod.ext ?_ ?_
    · rw [hh]; exact ex4_hop
    · rw [hl, treeF, if_neg (by rw [ex4_high]; omega), lookT, treeF, lookT]

/-- The cells of a step, behind calls. -/
theorem op_all {w0 w' : World} {B : Nat} {k W D L A : Int} {s : ByteArray} (hr : w0.heap[B]? = some (.cells #[.int .i64 k, .int .i64 W, .int .i64 D, .int .i64 L, .int .i64 A, .string s] 28 (0, 0))) (h : Below w0.heap.size w0 w') :
    w'.cell? ⟨B, 1, none⟩ = some (.int .i64 W) ∧ w'.cell? ⟨B, 2, none⟩ = some (.int .i64 D) ∧ w'.cell? ⟨B, 3, none⟩ = some (.int .i64 L) ∧ w'.cell? ⟨B, 4, none⟩ = some (.int .i64 A) ∧ w'.cell? ⟨B, 5, none⟩ = some (.string s) := by
  have hB : B < w0.heap.size := (Array.getElem?_eq_some_iff.1 hr).1
  refine ⟨?_, ?_, ?_, ?_, ?_⟩ <;> (rw [h.cell hB, cell_of_row _ _ _ _ _ _ hr]; rfl)

set_option maxRecDepth 100000 in
theorem lives_fact (w : World) (hE : Env w) : Calls Tryd.prog 18 #[] w fun e w' => e = .returned (.bool true) ∧ Below w.heap.size w w' := by
  obtain ⟨m, h1, h2, h3, h4, h5⟩ := ex4_walk
  have H1 := fun w => compile_fib ex4 4 1 99 w (by unfold maxLen; show 8 ≤ 2 ^ 63 - 1; omega) (by constructor <;> decide)
  rw [h2, h3] at H1
  unfold ex4 at H1
  have H2 := fun w => look_any m 0 9 w (by unfold maxLen; omega)
  rw [h4, h5] at H2
  have H1' : Hid (∀ w : World, Calls Tryd.prog 26 #[.string ⟨#[48, 32, 49, 10, 49, 32, 50, 10]⟩, .int .i64 4, .int .i64 1, .int .i64 99] w fun e w' => e = .returned (.tuple #[.string m, .int .i64 ((0 : Nat) : Int)]) ∧ Below w.heap.size w w') := H1
  have H2' : Hid (∀ w : World, Calls Tryd.prog 27 #[.string m, .int .i64 0, .int .i64 9] w fun e w' => e = .returned (.tuple #[.int .i64 ((2 : Nat) : Int), .int .i64 ((1 : Nat) : Int), .int .i64 ((0 : Nat) : Int)]) ∧ Below w.heap.size w w') := H2
  clear H1 H2 h1 h2 h3 h4 h5
  go_enter Tryd.func18, Tryd.ntmps18
  go_wp2_with fail
  refine (H1'.out _).mono ?_
  rintro e w1 ⟨rfl, hb1⟩
  go_wp2_with fail
  refine (H2'.out _).mono ?_
  rintro e w2 ⟨rfl, hb2⟩
  have hB2 := hb1.trans (hb2.mono hb1.size)
  go_wp2_with fail
  refine (priced_fact _ (hE.later hB2)).mono ?_
  rintro e w3 ⟨rfl, hb3⟩
  go_wp2_with (go_at_call 25; refine (num_any _ _).mono ?_; rintro e w4 ⟨rfl, rfl⟩)
  go_ret
  exact ⟨rfl, hB2.trans (hb3.mono hB2.size)⟩
end Go.Proofs.YtdfnmpmmkcpddaaDoor
/- Limits: the law. -/
namespace Go.Proofs.YtdfnmpmmkcpddaaDoor
open Go.RowKit

set_option maxRecDepth 100000 in
set_option maxHeartbeats 2000000 in
theorem limited_step (k W D L A : Int) (s : ByteArray) (w : World) (hm : s.size ≤ maxLen) (iL : InI64 L) :
    Calls Tryd.prog 20 #[opV k W D L A s] w fun e w' => e = .returned (.bool true) ∧ Below w.heap.size w w' := by
  have H1 := fun w => compile_fib s W D 1099511627776 w hm (by constructor <;> decide)
  have H2 := fun w => compile_fib s W D L w hm iL
  have hop := heap_alloc_new w (.cells #[.int .i64 k, .int .i64 W, .int .i64 D, .int .i64 L, .int .i64 A, .string s] 28)
  have HOP : Hid ((w.alloc (.cells #[.int .i64 k, .int .i64 W, .int .i64 D, .int .i64 L, .int .i64 A, .string s] 28)).heap[w.heap.size]? = some (.cells #[.int .i64 k, .int .i64 W, .int .i64 D, .int .i64 L, .int .i64 A, .string s] 28 (0, 0))) := hop
  clear hop
  obtain ⟨j1, j2⟩ := iL
  unfold opV
  by_cases he : prE s W D = 0
  · obtain ⟨h1, h2, h3⟩ := prE_zero he
    obtain ⟨hs, hW1, hW2, _⟩ := t_zero h1
    obtain ⟨W, rfl⟩ := Int.eq_ofNat_of_zero_le (show 0 ≤ W by omega)
    obtain ⟨D, rfl⟩ := Int.eq_ofNat_of_zero_le (show 0 ≤ D by omega)
    obtain ⟨n, _, _, _, _, hmx, hmn, _, _⟩ := cF_enc he
    obtain ⟨p1, p2⟩ := cmp_plenty he
    have e1 : cmpE cF s W D L = if L < (cF (ordR (tRts s W)) W D).size then 5 else 0 := by unfold cmpE; rw [if_pos he, Int.toNat_natCast, Int.toNat_natCast]
    have e2 : cmpS cF s W D L = if cmpE cF s W D L = 0 then cF (ordR (tRts s W)) W D else ⟨#[]⟩ := by unfold cmpS; rw [Int.toNat_natCast, Int.toNat_natCast]
    rw [p1, p2] at H1
    obtain ⟨m, hme⟩ : ∃ m, cF (ordR (tRts s W)) W D = m := ⟨_, rfl⟩
    rw [hme] at H1 e1 e2 hmx hmn
    have hful := ba_full (m := m) (by omega)
    have H1' : Hid (∀ w : World, Calls Tryd.prog 26 #[.string s, .int .i64 W, .int .i64 D, .int .i64 1099511627776] w fun e w' => e = .returned (.tuple #[.string m, .int .i64 ((0 : Nat) : Int)]) ∧ Below w.heap.size w w') := H1
    by_cases hL : L < m.size
    · rw [if_pos hL] at e1
      rw [e1, if_neg (by omega)] at e2
      rw [e1, e2] at H2
      have H2' : Hid (∀ w : World, Calls Tryd.prog 26 #[.string s, .int .i64 W, .int .i64 D, .int .i64 L] w fun e w' => e = .returned (.tuple #[.string ⟨#[]⟩, .int .i64 ((5 : Nat) : Int)]) ∧ Below w.heap.size w w') := H2
      clear H1 H2 he h1 h2 h3 hm p1 p2 hme e1 e2
      go_enter Tryd.func20, Tryd.ntmps20
      go_wp2_with fail
      refine (H1'.out _).mono ?_
      rintro e w1 ⟨rfl, hb1⟩
      obtain ⟨c1, c2, c3, c4, c5⟩ := op_all HOP.out hb1
      go_wp2_with fail
      refine (H2'.out _).mono ?_
      rintro e w2 ⟨rfl, hb2⟩
      obtain ⟨d1, d2, d3, d4, d5⟩ := op_all HOP.out (hb1.trans (hb2.mono hb1.size))
      have hB : Below w.heap.size w w2 := ((Below.refl _ _).alloc (Nat.le_refl _) _).trans ((hb1.mono (by simp)).trans (hb2.mono (by have := hb1.size; simp at this; omega)))
      go_wp2_with (go_at_call 25; refine (num_any _ _).mono ?_; rintro e w4 ⟨rfl, rfl⟩)
      go_ret
      exact ⟨rfl, hB⟩
    · rw [if_neg hL] at e1
      rw [e1, if_pos rfl] at e2
      rw [e1, e2] at H2
      have hd : decide (L < (m.size : Int)) = false := by rw [decide_eq_false_iff_not]; omega
      have H2' : Hid (∀ w : World, Calls Tryd.prog 26 #[.string s, .int .i64 W, .int .i64 D, .int .i64 L] w fun e w' => e = .returned (.tuple #[.string m, .int .i64 ((0 : Nat) : Int)]) ∧ Below w.heap.size w w') := H2
      clear H1 H2 he h1 h2 h3 hm p1 p2 hme e1 e2
      go_enter Tryd.func20, Tryd.ntmps20
      go_wp2_with fail
      refine (H1'.out _).mono ?_
      rintro e w1 ⟨rfl, hb1⟩
      obtain ⟨c1, c2, c3, c4, c5⟩ := op_all HOP.out hb1
      go_wp2_with fail
      refine (H2'.out _).mono ?_
      rintro e w2 ⟨rfl, hb2⟩
      obtain ⟨d1, d2, d3, d4, d5⟩ := op_all HOP.out (hb1.trans (hb2.mono hb1.size))
      have hB : Below w.heap.size w w2 := ((Below.refl _ _).alloc (Nat.le_refl _) _).trans ((hb1.mono (by simp)).trans (hb2.mono (by have := hb1.size; simp at this; omega)))
      go_wp2_with (go_at_call 25; refine (num_any _ _).mono ?_; rintro e w4 ⟨rfl, rfl⟩)
      go_ret
      exact ⟨rfl, hB⟩
  · obtain ⟨p1, p2⟩ := cmp_bad he 1099511627776
    obtain ⟨q1, q2⟩ := cmp_bad he L
    rw [p1, p2] at H1
    rw [q1, q2] at H2
    have hEb : ((prE s W D : Int) != 0) = true := by rw [bne_iff_ne]; omega
    obtain ⟨E, hEe⟩ : ∃ E, prE s W D = E := ⟨_, rfl⟩
    rw [hEe] at H1 H2 hEb
    have H1' : Hid (∀ w : World, Calls Tryd.prog 26 #[.string s, .int .i64 W, .int .i64 D, .int .i64 1099511627776] w fun e w' => e = .returned (.tuple #[.string ⟨#[]⟩, .int .i64 (E : Nat)]) ∧ Below w.heap.size w w') := H1
    have H2' : Hid (∀ w : World, Calls Tryd.prog 26 #[.string s, .int .i64 W, .int .i64 D, .int .i64 L] w fun e w' => e = .returned (.tuple #[.string ⟨#[]⟩, .int .i64 (E : Nat)]) ∧ Below w.heap.size w w') := H2
    clear H1 H2 he hm p1 p2 q1 q2 hEe
    go_enter Tryd.func20, Tryd.ntmps20
    go_wp2_with fail
    refine (H1'.out _).mono ?_
    rintro e w1 ⟨rfl, hb1⟩
    obtain ⟨c1, c2, c3, c4, c5⟩ := op_all HOP.out hb1
    go_wp2_with fail
    refine (H2'.out _).mono ?_
    rintro e w2 ⟨rfl, hb2⟩
    have hB : Below w.heap.size w w2 := ((Below.refl _ _).alloc (Nat.le_refl _) _).trans ((hb1.mono (by simp)).trans (hb2.mono (by have := hb1.size; simp at this; omega)))
    go_wp2_with (go_at_call 25; refine (num_any _ _).mono ?_; rintro e w4 ⟨rfl, rfl⟩)
    go_ret
    exact ⟨rfl, hB⟩

set_option maxRecDepth 100000 in
theorem limits_any (ao : Option Addr) (len cap : Nat) (w : World) (hs : Script w ao len) (hE : Env w) :
    Calls Tryd.prog 12 #[.slice ao len cap] w fun e w' => e = .returned (.bool true) ∧ Below w.heap.size w w' := by
  have HS : Hid (Script w ao len) := hs
  have HE : Hid (Env w) := hE
  clear hs hE
  go_enter Tryd.func12, Tryd.ntmps12
  go_wp2_with fail
  refine (lives_fact _ HE.out).mono ?_
  rintro e w0 ⟨rfl, hb0⟩
  go_wp2_with fail
  go_loopg [4] len (fun g x wr => ∃ i : Nat, x = .int .i64 i ∧ g + i = len ∧ Below w.heap.size w wr)
  case atStart => exact ⟨0, rfl, by omega, hb0⟩
  case round =>
    obtain ⟨i, rfl, hgi, hbel⟩ := hrel
    by_cases hlt : i < len
    · by_cases hmx : (i : Int) < 1152921504606846976
      · obtain ⟨b, off, k, W, D, L, A, s, rfl, hb, hat⟩ := HS.out i hlt
        obtain ⟨c0, c1, c2, c3, c4, c5, hm, i1, i2, i3, i4⟩ := hat.later hb hbel
        go_wp2_with fail
        refine (limited_step k W D L A s _ hm i3).mono ?_
        rintro e w1 ⟨rfl, hb1⟩
        go_wp2_with fail
        go_roundg (gk - 1)
        case measure => omega
        case rel => exact ⟨i + 1, int_eq (by omega), by omega, hbel.trans (hb1.mono hbel.size)⟩
      · go_wp2_with fail
        go_ret
        exact ⟨rfl, hbel⟩
    · go_wp2_with fail
      go_ret
      exact ⟨rfl, hbel⟩
end Go.Proofs.YtdfnmpmmkcpddaaDoor
/- Walked: the law. -/
namespace Go.Proofs.YtdfnmpmmkcpddaaDoor
open Go.RowKit

set_option maxRecDepth 100000 in
set_option maxHeartbeats 2000000 in
theorem walked_step (k W D L A : Int) (s : ByteArray) (w : World) (hm : s.size ≤ maxLen) :
    Calls Tryd.prog 19 #[opV k W D L A s] w fun e w' => e = .returned (.bool true) ∧ Below w.heap.size w w' := by
  have H0 := fun w => find_any s W A w hm
  have H1 := fun w => compile_fib s W D 1099511627776 w hm (by constructor <;> decide)
  have hop := heap_alloc_new w (.cells #[.int .i64 k, .int .i64 W, .int .i64 D, .int .i64 L, .int .i64 A, .string s] 28)
  have HOP : Hid ((w.alloc (.cells #[.int .i64 k, .int .i64 W, .int .i64 D, .int .i64 L, .int .i64 A, .string s] 28)).heap[w.heap.size]? = some (.cells #[.int .i64 k, .int .i64 W, .int .i64 D, .int .i64 L, .int .i64 A, .string s] 28 (0, 0))) := hop
  have hB0 : Below w.heap.size w (w.alloc (.cells #[.int .i64 k, .int .i64 W, .int .i64 D, .int .i64 L, .int .i64 A, .string s] 28)) := (Below.refl _ _).alloc (Nat.le_refl _) _
  have HB0 : Hid (Below w.heap.size w (w.alloc (.cells #[.int .i64 k, .int .i64 W, .int .i64 D, .int .i64 L, .int .i64 A, .string s] 28))) := hB0
  clear hop hB0
  unfold opV
  by_cases he : prE s W D = 0
  · obtain ⟨h1, h2, h3⟩ := prE_zero he
    obtain ⟨hs, hW1, hW2, _⟩ := t_zero h1
    obtain ⟨W, rfl⟩ := Int.eq_ofNat_of_zero_le (show 0 ≤ W by omega)
    obtain ⟨D, rfl⟩ := Int.eq_ofNat_of_zero_le (show 0 ≤ D by omega)
    obtain ⟨n0, _, _, _, _, hmx, hmn, _, _⟩ := cF_enc he
    obtain ⟨p1, p2⟩ := cmp_plenty he
    rw [p1, p2] at H1
    have hC := cF_comp he
    have hErr := cF_err he A
    have hNod := fun h0 h1 => (cF_look he (A := A) h0 h1).2
    obtain ⟨m, hme⟩ : ∃ m, cF (ordR (tRts s W)) W D = m := ⟨_, rfl⟩
    rw [hme] at H1 hmx hmn hC hErr hNod
    have H2 := fun w => look_any m 0 A w (by unfold maxLen; omega)
    have H3 := fun w => load_any m w (by unfold maxLen; omega)
    rw [hC.good, if_pos rfl] at H3
    have H1' : Hid (∀ w : World, Calls Tryd.prog 26 #[.string s, .int .i64 W, .int .i64 D, .int .i64 1099511627776] w fun e w' => e = .returned (.tuple #[.string m, .int .i64 ((0 : Nat) : Int)]) ∧ Below w.heap.size w w') := H1
    have H3' : Hid (∀ w : World, Calls Tryd.prog 29 #[.string m] w fun r w' => r = .returned (.int .i64 0) ∧ Below w.heap.size w w') := H3
    by_cases hA : 0 ≤ A ∧ A < ((2 ^ W : Nat) : Int)
    · have e1 : fErr s W A = 0 := by unfold fErr; rw [if_pos h1, Int.toNat_natCast, if_pos hA]
      have e2 : fHop s W A = (lookR m 0 A).1 := by unfold fHop; rw [if_pos h1, Int.toNat_natCast, if_pos hA, hC.hop A hA.1 hA.2]
      rw [if_pos hA] at hErr
      have hN := hNod hA.1 hA.2
      obtain ⟨l1, l2⟩ := look_mid (p := s) (q := s) hC.good A
      have H4 := fun w => look_any (s ++ m ++ s) s.size A w (by unfold maxLen; rw [ByteArray.size_append, ByteArray.size_append]; omega)
      rw [l1, l2, hErr] at H4
      rw [hErr] at H2
      rw [e1, e2] at H0
      obtain ⟨x, hx⟩ : ∃ x, (lookR m 0 A).1 = x := ⟨_, rfl⟩
      obtain ⟨y, hy⟩ : ∃ y, (lookR m 0 A).2 = y := ⟨_, rfl⟩
      rw [hx] at H0
      rw [hx, hy] at H2 H4
      rw [hy] at hN
      have H0' : Hid (∀ w : World, Calls Tryd.prog 28 #[.string s, .int .i64 W, .int .i64 A] w fun e w' => e = .returned (.tuple #[.int .i64 (x : Nat), .int .i64 ((0 : Nat) : Int)]) ∧ Below w.heap.size w w') := H0
      have H2' : Hid (∀ w : World, Calls Tryd.prog 27 #[.string m, .int .i64 0, .int .i64 A] w fun e w' => e = .returned (.tuple #[.int .i64 (x : Nat), .int .i64 (y : Nat), .int .i64 ((0 : Nat) : Int)]) ∧ Below w.heap.size w w') := H2
      have H4' : Hid (∀ w : World, Calls Tryd.prog 27 #[.string (s ++ m ++ s), .int .i64 s.size, .int .i64 A] w fun e w' => e = .returned (.tuple #[.int .i64 (x : Nat), .int .i64 (y : Nat), .int .i64 ((0 : Nat) : Int)]) ∧ Below w.heap.size w w') := H4
      clear H0 H1 H2 H3 H4 he h1 hm p1 p2 hme e1 e2 hErr hNod l1 l2 hx hy hC hA
      go_enter Tryd.func19, Tryd.ntmps19
      go_wp2_with fail
      refine (H0'.out _).mono ?_
      rintro e w1 ⟨rfl, hb1⟩
      obtain ⟨c1, c2, c3, c4, c5⟩ := op_all HOP.out hb1
      go_wp2_with fail
      refine (H1'.out _).mono ?_
      rintro e w2 ⟨rfl, hb2⟩
      have hb12 := hb1.trans (hb2.mono hb1.size)
      obtain ⟨d1, d2, d3, d4, d5⟩ := op_all HOP.out hb12
      go_wp2_with (go_at_call 25; refine (num_any _ _).mono ?_; rintro e w2 ⟨rfl, rfl⟩)
      refine (H2'.out _).mono ?_
      rintro e w3 ⟨rfl, hb3⟩
      have hb13 := hb12.trans (hb3.mono hb12.size)
      obtain ⟨f1, f2, f3, f4, f5⟩ := op_all HOP.out hb13
      go_wp2_with fail
      refine (H3'.out _).mono ?_
      rintro e w4 ⟨rfl, hb4⟩
      have hb14 := hb13.trans (hb4.mono hb13.size)
      obtain ⟨g1, g2, g3, g4, g5⟩ := op_all HOP.out hb14
      clear c1 c2 c3 c4 c5 d1 d2 d3 d4 d5 f1 f2 f3 f4 f5
      go_wp2_with (go_at_call 25; refine (num_any _ _).mono ?_; rintro e w4 ⟨rfl, rfl⟩)
      refine (H4'.out _).mono ?_
      rintro e w5 ⟨rfl, hb5⟩
      have hb15 := hb14.trans (hb5.mono hb14.size)
      obtain ⟨i1, i2, i3, i4, i5⟩ := op_all HOP.out hb15
      have hB : Below w.heap.size w w5 := HB0.out.trans (hb15.mono (by simp))
      go_wp2_with (go_at_call 25; refine (num_any _ _).mono ?_; rintro e w5 ⟨rfl, rfl⟩)
      go_ret
      exact ⟨rfl, hB⟩
    · have e1 : fErr s W A = 2 := by unfold fErr; rw [if_pos h1, Int.toNat_natCast, if_neg hA]
      rw [if_neg hA] at hErr
      have hl := look_none (s := m) (i := 0) (A := A) (by rw [hErr]; omega)
      rw [hErr, hl] at H2
      rw [e1] at H0
      obtain ⟨x, hx⟩ : ∃ x, fHop s W A = x := ⟨_, rfl⟩
      rw [hx] at H0
      have H0' : Hid (∀ w : World, Calls Tryd.prog 28 #[.string s, .int .i64 W, .int .i64 A] w fun e w' => e = .returned (.tuple #[.int .i64 (x : Nat), .int .i64 ((2 : Nat) : Int)]) ∧ Below w.heap.size w w') := H0
      have H2' : Hid (∀ w : World, Calls Tryd.prog 27 #[.string m, .int .i64 0, .int .i64 A] w fun e w' => e = .returned (.tuple #[.int .i64 ((0 : Nat) : Int), .int .i64 ((0 : Nat) : Int), .int .i64 ((2 : Nat) : Int)]) ∧ Below w.heap.size w w') := H2
      clear H0 H1 H2 H3 he h1 hm p1 p2 hme e1 hErr hNod hx hl hC hA
      go_enter Tryd.func19, Tryd.ntmps19
      go_wp2_with fail
      refine (H0'.out _).mono ?_
      rintro e w1 ⟨rfl, hb1⟩
      obtain ⟨c1, c2, c3, c4, c5⟩ := op_all HOP.out hb1
      go_wp2_with fail
      refine (H1'.out _).mono ?_
      rintro e w2 ⟨rfl, hb2⟩
      have hb12 := hb1.trans (hb2.mono hb1.size)
      obtain ⟨d1, d2, d3, d4, d5⟩ := op_all HOP.out hb12
      go_wp2_with (go_at_call 25; refine (num_any _ _).mono ?_; rintro e w2 ⟨rfl, rfl⟩)
      refine (H2'.out _).mono ?_
      rintro e w3 ⟨rfl, hb3⟩
      have hb13 := hb12.trans (hb3.mono hb12.size)
      go_wp2_with fail
      refine (H3'.out _).mono ?_
      rintro e w4 ⟨rfl, hb4⟩
      have hb14 := hb13.trans (hb4.mono hb13.size)
      have hB : Below w.heap.size w w4 := HB0.out.trans (hb14.mono (by simp))
      go_wp2_with (go_at_call 25; refine (num_any _ _).mono ?_; rintro e w4 ⟨rfl, rfl⟩)
      go_ret
      exact ⟨rfl, hB⟩
  · obtain ⟨p1, p2⟩ := cmp_bad he 1099511627776
    rw [p1, p2] at H1
    have H5 := fun w => cost_fib s W D w hm
    have hEb : ((prE s W D : Int) != 0) = true := by rw [bne_iff_ne]; omega
    obtain ⟨E, hEe⟩ : ∃ E, prE s W D = E := ⟨_, rfl⟩
    obtain ⟨C, hCe⟩ : ∃ C, prC s W D = C := ⟨_, rfl⟩
    obtain ⟨x, hx⟩ : ∃ x, fHop s W A = x := ⟨_, rfl⟩
    obtain ⟨y, hy⟩ : ∃ y, fErr s W A = y := ⟨_, rfl⟩
    rw [hx, hy] at H0
    rw [hEe] at H1 hEb
    rw [hEe, hCe] at H5
    have H0' : Hid (∀ w : World, Calls Tryd.prog 28 #[.string s, .int .i64 W, .int .i64 A] w fun e w' => e = .returned (.tuple #[.int .i64 (x : Nat), .int .i64 (y : Nat)]) ∧ Below w.heap.size w w') := H0
    have H1' : Hid (∀ w : World, Calls Tryd.prog 26 #[.string s, .int .i64 W, .int .i64 D, .int .i64 1099511627776] w fun e w' => e = .returned (.tuple #[.string ⟨#[]⟩, .int .i64 (E : Nat)]) ∧ Below w.heap.size w w') := H1
    have H5' : Hid (∀ w : World, Calls Tryd.prog 23 #[.string s, .int .i64 W, .int .i64 D] w fun e w' => e = .returned (.tuple #[.int .i64 C, .int .i64 (E : Nat)]) ∧ Below w.heap.size w w') := H5
    clear H0 H1 H5 he hm p1 p2 hEe hCe hx hy
    go_enter Tryd.func19, Tryd.ntmps19
    go_wp2_with fail
    refine (H0'.out _).mono ?_
    rintro e w1 ⟨rfl, hb1⟩
    obtain ⟨c1, c2, c3, c4, c5⟩ := op_all HOP.out hb1
    go_wp2_with fail
    refine (H1'.out _).mono ?_
    rintro e w2 ⟨rfl, hb2⟩
    have hb12 := hb1.trans (hb2.mono hb1.size)
    obtain ⟨d1, d2, d3, d4, d5⟩ := op_all HOP.out hb12
    go_wp2_with (go_at_call 25; refine (num_any _ _).mono ?_; rintro e w2 ⟨rfl, rfl⟩)
    refine (H5'.out _).mono ?_
    rintro e w3 ⟨rfl, hb3⟩
    have hb13 := hb12.trans (hb3.mono hb12.size)
    have hB : Below w.heap.size w w3 := HB0.out.trans (hb13.mono (by simp))
    go_wp2_with (go_at_call 25; refine (num_any _ _).mono ?_; rintro e w3 ⟨rfl, rfl⟩)
    go_ret
    exact ⟨rfl, hB⟩

set_option maxRecDepth 100000 in
theorem walked_any (ao : Option Addr) (len cap : Nat) (w : World) (hs : Script w ao len) (hE : Env w) :
    Calls Tryd.prog 11 #[.slice ao len cap] w fun e w' => e = .returned (.bool true) ∧ Below w.heap.size w w' := by
  have HS : Hid (Script w ao len) := hs
  have HE : Hid (Env w) := hE
  clear hs hE
  go_enter Tryd.func11, Tryd.ntmps11
  go_wp2_with fail
  refine (lives_fact _ HE.out).mono ?_
  rintro e w0 ⟨rfl, hb0⟩
  go_wp2_with fail
  go_loopg [4] len (fun g x wr => ∃ i : Nat, x = .int .i64 i ∧ g + i = len ∧ Below w.heap.size w wr)
  case atStart => exact ⟨0, rfl, by omega, hb0⟩
  case round =>
    obtain ⟨i, rfl, hgi, hbel⟩ := hrel
    by_cases hlt : i < len
    · by_cases hmx : (i : Int) < 1152921504606846976
      · obtain ⟨b, off, k, W, D, L, A, s, rfl, hb, hat⟩ := HS.out i hlt
        obtain ⟨c0, c1, c2, c3, c4, c5, hm, i1, i2, i3, i4⟩ := hat.later hb hbel
        go_wp2_with fail
        refine (walked_step k W D L A s _ hm).mono ?_
        rintro e w1 ⟨rfl, hb1⟩
        go_wp2_with fail
        go_roundg (gk - 1)
        case measure => omega
        case rel => exact ⟨i + 1, int_eq (by omega), by omega, hbel.trans (hb1.mono hbel.size)⟩
      · go_wp2_with fail
        go_ret
        exact ⟨rfl, hbel⟩
    · go_wp2_with fail
      go_ret
      exact ⟨rfl, hbel⟩
end Go.Proofs.YtdfnmpmmkcpddaaDoor
