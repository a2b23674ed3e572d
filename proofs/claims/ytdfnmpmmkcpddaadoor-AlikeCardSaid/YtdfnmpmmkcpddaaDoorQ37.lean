import Derived.Test.YtdfnmpmmkcpddaaDoorQ36
/- Deeper: the law's step. -/
namespace Go.Proofs.YtdfnmpmmkcpddaaDoor
open Go.RowKit

theorem pow_and {h : Nat} (h12 : h ≤ 12) : Go.bits BinOp.and IntKind.i64 ((2 ^ h : Nat) : Int) (((2 ^ h : Nat) : Int) - 1) = 0 := by
  have : h = 0 ∨ h = 1 ∨ h = 2 ∨ h = 3 ∨ h = 4 ∨ h = 5 ∨ h = 6 ∨ h = 7 ∨ h = 8 ∨ h = 9 ∨ h = 10 ∨ h = 11 ∨ h = 12 := by omega
  rcases this with rfl | rfl | rfl | rfl | rfl | rfl | rfl | rfl | rfl | rfl | rfl | rfl | rfl <;> decide +kernel

/-- What the three costs are to one another. -/
structure Three (W : Nat) (long : Bool) (one a all : Int) : Prop where
  no : long = false → one = 0 ∧ a = 0 ∧ all = 0
  yes : long = true → a ≤ one ∧ all ≤ a ∧ 2 ≤ all ∧ one ≤ ((2 ^ W : Nat) : Int) ∧ one ≤ 4096 ∧ Go.bits BinOp.and IntKind.i64 one (one - 1) = 0
theorem three {s : ByteArray} {W D : Nat} (h : prE s W D = 0) : prE s W 1 = 0 ∧ prE s W W = 0 ∧ Three W (longF s (s.size - 1)) (prC s W 1) (prC s W D) (prC s W W) := by
  obtain ⟨h1, h2, h3⟩ := prE_zero h
  obtain ⟨hs, hW1, hW2, hlen⟩ := t_zero h1
  have hW1' : 1 ≤ W := by omega
  have hW2' : W ≤ 12 := by omega
  have e1 : prE s W 1 = 0 := by rw [prE_table (by omega)]; exact h1
  have e2 : prE s W W = 0 := by rw [prE_table (by omega)]; exact h1
  refine ⟨e1, e2, ?_⟩
  rw [tab_prC h, tab_prC e1, tab_prC e2, Int.toNat_natCast, Int.toNat_natCast, show (1 : Int).toNat = 1 from rfl]
  obtain ⟨k1, k2⟩ := long_iff h1 hs hW1' hW2'
  have hF : ∀ r ∈ ordR (tRts s W), r.bits.size ≤ 12 := fun r hr => (ordR_fit (tRts_fit s W) r hr).1
  have hFW : ∀ r ∈ ordR (tRts s W), r.bits.size ≤ W := fun r hr => k2 r (lastOf_mem ((ordR_mem _ r).1 hr))
  constructor
  · intro hl
    have h0 : heightF (ordR (tRts s W)) ⟨#[]⟩ = 0 := by
      by_cases c : 1 ≤ heightF (ordR (tRts s W)) ⟨#[]⟩
      · have := k1.2 (height_long.1 c); rw [hl] at this; exact absurd this (by simp)
      · omega
    unfold tabC
    rw [if_pos h0, if_pos h0, if_pos h0]; exact ⟨rfl, rfl, rfl⟩
  · intro hl
    have h0 := height_long.2 (k1.1 hl)
    unfold tabC
    rw [if_neg (by omega), if_neg (by omega), if_neg (by omega)]
    have hh := heightF_le (b := ⟨#[]⟩) hFW
    have hz : (⟨#[]⟩ : ByteArray).size = 0 := rfl
    have hhW : heightF (ordR (tRts s W)) ⟨#[]⟩ ≤ W := by omega
    have b2 := (cost_bd hF W ⟨#[]⟩ hW1' h0).1
    have bo := (cost_bd hF 1 ⟨#[]⟩ (by omega) h0).2
    have c1 := cost_one hF h0
    refine ⟨cost_anti hF h0 (Nat.le_refl _) D (by omega), cost_anti hF h0 (show 1 ≤ D by omega) W (by omega), b2, ?_, bo, ?_⟩
    · rw [c1]; exact Int.ofNat_le.2 (Nat.pow_le_pow_right (by omega) hhW)
    · rw [c1]; exact pow_and (by omega)

/-- A step's cells, behind calls. -/
theorem op_cells {w w' : World} {k W D L A : Int} {s : ByteArray} (h : Below (w.heap.size + 1) (w.alloc (.cells #[.int .i64 k, .int .i64 W, .int .i64 D, .int .i64 L, .int .i64 A, .string s] 28)) w') :
    w'.cell? ⟨w.heap.size, 1, none⟩ = some (.int .i64 W) ∧ w'.cell? ⟨w.heap.size, 2, none⟩ = some (.int .i64 D) ∧ w'.cell? ⟨w.heap.size, 5, none⟩ = some (.string s) := by
  have hr := heap_alloc_new w (.cells #[.int .i64 k, .int .i64 W, .int .i64 D, .int .i64 L, .int .i64 A, .string s] 28)
  refine ⟨?_, ?_, ?_⟩ <;> (rw [h.cell (by show w.heap.size < w.heap.size + 1; omega), cell_of_row _ _ _ _ _ _ hr]; rfl)

set_option maxRecDepth 100000 in
set_option maxHeartbeats 2000000 in
theorem deeper_step (k W D L A : Int) (s : ByteArray) (w : World) (hm : s.size ≤ maxLen) (iW : InI64 W) (iD : InI64 D) :
    Calls Tryd.prog 17 #[opV k W D L A s] w fun e w' => e = .returned (.bool true) ∧ Below w.heap.size w w' := by
  unfold opV
  by_cases he : prE s W D = 0
  · obtain ⟨h1, h2, h3⟩ := prE_zero he
    obtain ⟨hs, hW1, hW2, _⟩ := t_zero h1
    obtain ⟨W, rfl⟩ := Int.eq_ofNat_of_zero_le (show 0 ≤ W by omega)
    obtain ⟨D, rfl⟩ := Int.eq_ofNat_of_zero_le (show 0 ≤ D by omega)
    obtain ⟨e1, e2, hT⟩ := three he
    have HA := fun w => cost_fib s W D w hm
    have HO := fun w => cost_fib s W 1 w hm
    have HL := fun w => cost_fib s W W w hm
    rw [he] at HA
    rw [e1] at HO
    rw [e2] at HL
    obtain ⟨a, ha⟩ : ∃ a, prC s W D = a := ⟨_, rfl⟩
    obtain ⟨o, ho⟩ : ∃ o, prC s W 1 = o := ⟨_, rfl⟩
    obtain ⟨l, hl⟩ : ∃ l, prC s W W = l := ⟨_, rfl⟩
    rw [ha] at HA hT
    rw [ho] at HO hT
    rw [hl] at HL hT
    have HA' : Hid (∀ w : World, Calls Tryd.prog 23 #[.string s, .int .i64 W, .int .i64 D] w fun e w' => e = .returned (.tuple #[.int .i64 a, .int .i64 ((0 : Nat) : Int)]) ∧ Below w.heap.size w w') := HA
    have HO' : Hid (∀ w : World, Calls Tryd.prog 23 #[.string s, .int .i64 W, .int .i64 1] w fun e w' => e = .returned (.tuple #[.int .i64 o, .int .i64 ((0 : Nat) : Int)]) ∧ Below w.heap.size w w') := HO
    have HL' : Hid (∀ w : World, Calls Tryd.prog 23 #[.string s, .int .i64 W, .int .i64 W] w fun e w' => e = .returned (.tuple #[.int .i64 l, .int .i64 ((0 : Nat) : Int)]) ∧ Below w.heap.size w w') := HL
    have HT : Hid (Three W (longF s (s.size - 1)) o a l) := hT
    clear HA HO HL ha ho hl hT he h1 e1 e2 hm iW iD h2 h3
    go_enter Tryd.func17, Tryd.ntmps17
    go_wp2_with fail
    refine (HA'.out _).mono ?_
    rintro e w1 ⟨rfl, hb1⟩
    have hz1 : w.heap.size < w1.heap.size := by have := hb1.size; simp at this; omega
    have hA1 := hb1.mono (show w.heap.size + 1 ≤ _ by simp)
    obtain ⟨a1, a2, a5⟩ := op_cells hA1
    go_wp2_with (go_at_call 25; refine (num_any _ _).mono ?_; rintro e w1 ⟨rfl, rfl⟩)
    refine (HO'.out _).mono ?_
    rintro e w2 ⟨rfl, hb2⟩
    have hz2 := hb2.size
    have hA2 := hA1.trans (hb2.mono (show w.heap.size + 1 ≤ _ by omega))
    obtain ⟨b1, b2, b5⟩ := op_cells hA2
    go_wp2_with fail
    refine (HL'.out _).mono ?_
    rintro e w3 ⟨rfl, hb3⟩
    have hz3 := hb3.size
    have hA3 := hA2.trans (hb3.mono (show w.heap.size + 1 ≤ _ by omega))
    obtain ⟨c1, c2, c5⟩ := op_cells hA3
    clear a1 a2 a5 b1 b2 b5
    have hB1 : Below w.heap.size w w1 := ((Below.refl _ _).alloc (Nat.le_refl _) _).trans (hb1.mono (by simp))
    have hB2 : Below w.heap.size w w2 := hB1.trans (hb2.mono (by omega))
    have hB3 : Below w.heap.size w w3 := hB2.trans (hb3.mono (by omega))
    go_wp2_with (go_at_call 25; refine (num_any _ _).mono ?_; rintro e w3 ⟨rfl, rfl⟩)
    go_loopg [10, 11] (s.size - 1) (fun g x y wr => ∃ (i : Nat) (q : Bool) (j : Nat), x = .bool q ∧ y = .int .i64 i ∧ g + i = s.size - 1 ∧ wr = w3.drewN j ∧ Hid (q = longF s i))
    case atStart => exact ⟨0, false, 0, rfl, rfl, by omega, rfl, rfl⟩
    case round =>
      obtain ⟨i, q, j, rfl, rfl, hgi, rfl, HQ⟩ := hrel
      by_cases hlt : i + 1 < s.size
      · have hi : i < s.size := by omega
        have hii : (i : Int) < (s.size : Int) := by omega
        have HST : Hid (longF s (i + 1) = (q || starts s i)) := by unfold Hid; rw [longF, HQ.out]
        have HC : Hid (byt s i = (s[i]'hi).toNat) := byt_in hi
        cases q with
        | true =>
          have HS : Hid (true = longF s (i + 1)) := by unfold Hid; rw [HST.out]; rfl
          go_wp2_with fail
          try go_quiet (fail)
          go_wp2_with fail
          go_roundg (gk - 1)
          case measure => omega
          case rel => exact ⟨i + 1, true, _, rfl, int_eq (by omega), by omega, rfl, HS⟩
        | false =>
          by_cases h48 : (s[i]'hi).toNat = 48
          · have hb48 : (((s[i]'hi).toNat : Int) == 48) = true := by rw [beq_iff_eq]; omega
            by_cases h0 : i = 0
            · have HS : Hid (true = longF s (i + 1)) := by unfold Hid; rw [HST.out, Bool.false_or, starts]; exact (decide_eq_true ⟨.inl (by rw [HC.out]; exact h48), .inl h0⟩).symm
              have hb0 : ((i : Int) == 0) = true := by rw [beq_iff_eq]; omega
              clear h0 h48
              go_wp2_with fail
              try go_quiet (fail)
              go_wp2_with fail
              go_roundg (gk - 1)
              case measure => omega
              case rel => exact ⟨i + 1, true, _, rfl, int_eq (by omega), by omega, rfl, HS⟩
            · have hpi : i - 1 < s.size := by omega
              have hsub : (i : Int) - 1 = ((i - 1 : Nat) : Int) := by omega
              have hpi2 : ((i - 1 : Nat) : Int) < (s.size : Int) := by omega
              have HD : Hid (byt s (i - 1) = (s[i - 1]'hpi).toNat) := byt_in hpi
              have hb0 : ((i : Int) == 0) = false := by rw [beq_eq_false_iff_ne]; omega
              by_cases h10 : (s[i - 1]'hpi).toNat = 10
              · have HS : Hid (true = longF s (i + 1)) := by unfold Hid; rw [HST.out, starts, HC.out, HD.out]; simp [h48, h10]
                have hb10 : (((s[i - 1]'hpi).toNat : Int) == 10) = true := by rw [beq_iff_eq]; omega
                clear h10 h48
                go_wp2_with fail
                try go_quiet (fail)
                go_wp2_with fail
                go_roundg (gk - 1)
                case measure => omega
                case rel => exact ⟨i + 1, true, _, rfl, int_eq (by omega), by omega, rfl, HS⟩
              · have HS : Hid (false = longF s (i + 1)) := by unfold Hid; rw [HST.out, starts, HC.out, HD.out]; simp [h48, h10, h0]
                have hb10 : (((s[i - 1]'hpi).toNat : Int) == 10) = false := by rw [beq_eq_false_iff_ne]; omega
                clear h10 h48
                go_wp2_with fail
                try go_quiet (fail)
                go_wp2_with fail
                go_roundg (gk - 1)
                case measure => omega
                case rel => exact ⟨i + 1, false, _, rfl, int_eq (by omega), by omega, rfl, HS⟩
          · have hb48 : (((s[i]'hi).toNat : Int) == 48) = false := by rw [beq_eq_false_iff_ne]; omega
            by_cases h49 : (s[i]'hi).toNat = 49
            · have hb49 : (((s[i]'hi).toNat : Int) == 49) = true := by rw [beq_iff_eq]; omega
              by_cases h0 : i = 0
              · have HS : Hid (true = longF s (i + 1)) := by unfold Hid; rw [HST.out, Bool.false_or, starts]; exact (decide_eq_true ⟨.inr (by rw [HC.out]; exact h49), .inl h0⟩).symm
                have hb0 : ((i : Int) == 0) = true := by rw [beq_iff_eq]; omega
                clear h0 h48 h49
                go_wp2_with fail
                try go_quiet (fail)
                go_wp2_with fail
                go_roundg (gk - 1)
                case measure => omega
                case rel => exact ⟨i + 1, true, _, rfl, int_eq (by omega), by omega, rfl, HS⟩
              · have hpi : i - 1 < s.size := by omega
                have hsub : (i : Int) - 1 = ((i - 1 : Nat) : Int) := by omega
                have hpi2 : ((i - 1 : Nat) : Int) < (s.size : Int) := by omega
                have HD : Hid (byt s (i - 1) = (s[i - 1]'hpi).toNat) := byt_in hpi
                have hb0 : ((i : Int) == 0) = false := by rw [beq_eq_false_iff_ne]; omega
                by_cases h10 : (s[i - 1]'hpi).toNat = 10
                · have HS : Hid (true = longF s (i + 1)) := by unfold Hid; rw [HST.out, starts, HC.out, HD.out]; simp [h49, h10]
                  have hb10 : (((s[i - 1]'hpi).toNat : Int) == 10) = true := by rw [beq_iff_eq]; omega
                  clear h10 h48 h49
                  go_wp2_with fail
                  try go_quiet (fail)
                  go_wp2_with fail
                  go_roundg (gk - 1)
                  case measure => omega
                  case rel => exact ⟨i + 1, true, _, rfl, int_eq (by omega), by omega, rfl, HS⟩
                · have HS : Hid (false = longF s (i + 1)) := by unfold Hid; rw [HST.out, starts, HC.out, HD.out]; simp [h49, h10, h0]
                  have hb10 : (((s[i - 1]'hpi).toNat : Int) == 10) = false := by rw [beq_eq_false_iff_ne]; omega
                  clear h10 h48 h49
                  go_wp2_with fail
                  try go_quiet (fail)
                  go_wp2_with fail
                  go_roundg (gk - 1)
                  case measure => omega
                  case rel => exact ⟨i + 1, false, _, rfl, int_eq (by omega), by omega, rfl, HS⟩
            · have hb49 : (((s[i]'hi).toNat : Int) == 49) = false := by rw [beq_eq_false_iff_ne]; omega
              have HS : Hid (false = longF s (i + 1)) := by unfold Hid; rw [HST.out, starts, HC.out]; simp [h48, h49]
              clear h48 h49
              go_wp2_with fail
              try go_quiet (fail)
              go_wp2_with fail
              go_roundg (gk - 1)
              case measure => omega
              case rel => exact ⟨i + 1, false, _, rfl, int_eq (by omega), by omega, rfl, HS⟩
      · have hin : i = s.size - 1 := by omega
        rw [← hin] at HT
        obtain ⟨tn, ty⟩ := HT.out
        cases q with
        | false =>
          obtain ⟨rfl, rfl, rfl⟩ := tn HQ.out.symm
          clear tn ty HT
          go_wp2_with fail
          go_ret
          exact ⟨rfl, below_drewN hB3 _⟩
        | true =>
          obtain ⟨t1, t2, t3, t4, t5, t6⟩ := ty HQ.out.symm
          clear tn ty HT
          obtain ⟨p1, p3, p4⟩ := wrap_pow (W := W) (by omega)
          go_wp2_with fail
          go_ret
          exact ⟨rfl, below_drewN hB3 _⟩
  · have hC : prC s W D = 0 := by unfold prC; rw [if_neg he]
    have HA := fun w => cost_fib s W D w hm
    rw [hC] at HA
    have hEb : ((prE s W D : Int) != 0) = true := by rw [bne_iff_ne]; omega
    have HA' : Hid (∀ w : World, Calls Tryd.prog 23 #[.string s, .int .i64 W, .int .i64 D] w fun e w' => e = .returned (.tuple #[.int .i64 0, .int .i64 (prE s W D)]) ∧ Below w.heap.size w w') := HA
    clear HA he hC hm iW iD
    go_enter Tryd.func17, Tryd.ntmps17
    go_wp2_with fail
    refine (HA'.out _).mono ?_
    rintro e w1 ⟨rfl, hb1⟩
    go_wp2_with (go_at_call 25; refine (num_any _ _).mono ?_; rintro e w1 ⟨rfl, rfl⟩)
    go_ret
    exact ⟨rfl, ((Below.refl _ _).alloc (Nat.le_refl _) _).trans (hb1.mono (by simp))⟩

set_option maxRecDepth 100000 in
theorem deeper_any (ao : Option Addr) (len cap : Nat) (w : World) (hs : Script w ao len) (hE : Env w) :
    Calls Tryd.prog 7 #[.slice ao len cap] w fun e w' => e = .returned (.bool true) ∧ Below w.heap.size w w' := by
  have HS : Hid (Script w ao len) := hs
  have HE : Hid (Env w) := hE
  clear hs hE
  go_enter Tryd.func7, Tryd.ntmps7
  go_wp2_with fail
  refine (priced_fact _ HE.out).mono ?_
  rintro e w0 ⟨rfl, hb0⟩
  go_wp2_with fail
  go_loopg [4] len (fun g x wr => ∃ i : Nat, x = .int .i64 i ∧ g + i = len ∧ Below w.heap.size w wr)
  case atStart => exact ⟨0, rfl, by omega, hb0⟩
  case round =>
    obtain ⟨i, rfl, hgi, hbel⟩ := hrel
    by_cases hlt : i < len
    · by_cases hmx : (i : Int) < 1152921504606846976
      · obtain ⟨b, off, k, W, D, L, A, s, rfl, hb, hat⟩ := HS.out i hlt
        obtain ⟨c0, c1, c2, c3, c4, c5, hm, i1, i2, i3, i4⟩ := hat.later hb hbel
        go_wp2_with fail
        refine (deeper_step k W D L A s _ hm i1 i2).mono ?_
        rintro e w1 ⟨rfl, hb1⟩
        go_wp2_with fail
        go_roundg (gk - 1)
        case measure => omega
        case rel => exact ⟨i + 1, int_eq (by omega), by omega, hbel.trans (hb1.mono hbel.size)⟩
      · go_wp2_with fail
        go_ret
        exact ⟨rfl, hbel⟩
    · go_wp2_with fail
      go_ret
      exact ⟨rfl, hbel⟩
end Go.Proofs.YtdfnmpmmkcpddaaDoor
