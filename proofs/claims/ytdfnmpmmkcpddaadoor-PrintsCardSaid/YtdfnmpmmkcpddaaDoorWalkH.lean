/- The walks of Find: beginnings, addresses. -/
import Derived.Test.YtdfnmpmmkcpddaaDoorWalkC
import Derived.Test.YtdfnmpmmkcpddaaDoorWalkG
import Derived.Test.YtdfnmpmmkcpddaaDoorSpecB
import Derived.Laws.IdiomStrings
namespace Go.Proofs.YtdfnmpmmkcpddaaDoor
open Go.RowKit

theorem beginsWith_any (a b : ByteArray) (w : World) :
    Calls Tryd.prog 69 #[.string a, .string b] w fun e w' => e = .returned (.bool (pre b a)) ∧ w' = w := by
  by_cases h : b.size ≤ a.size
  · have hp := pre_yes h
    go_enter Tryd.func69, Tryd.ntmps69
    go_wp2
    go_ret
    exact ⟨rfl, rfl⟩
  · rw [pre_no h]
    go_enter Tryd.func69, Tryd.ntmps69
    go_wp2
    go_ret
    exact ⟨rfl, rfl⟩
theorem begins_any (b a : ByteArray) (w : World) :
    Calls Tryd.prog 81 #[.string b, .string a] w fun e w' => e = .returned (.bool (pre b a)) ∧ w' = w := by
  by_cases h : b.size ≤ a.size
  · have hp := pre_yes h
    go_enter Tryd.func81, Tryd.ntmps81
    go_wp2
    go_ret
    exact ⟨rfl, rfl⟩
  · rw [pre_no h]
    go_enter Tryd.func81, Tryd.ntmps81
    go_wp2
    go_ret
    exact ⟨rfl, rfl⟩

theorem isAddress_yes (a : Int) (W : Nat) (w : World) (hW : W ≤ 12) (h0 : 0 ≤ a) (h1 : a < ((2 ^ W : Nat) : Int)) :
    Calls Tryd.prog 44 #[.int .i64 a, .int .i64 W] w fun e w' => e = .returned (.bool true) ∧ w' = w := by
  obtain ⟨p1, p3, p4⟩ := wrap_pow hW
  go_enter Tryd.func44, Tryd.ntmps44
  go_wp2_with fail
  go_ret
  exact ⟨ret1 (bool_eq (by simpa using h1)), rfl⟩
theorem isAddress_no (a : Int) (W : Nat) (w : World) (hW : W ≤ 12) (h : ¬ (0 ≤ a ∧ a < ((2 ^ W : Nat) : Int))) :
    Calls Tryd.prog 44 #[.int .i64 a, .int .i64 W] w fun e w' => e = .returned (.bool false) ∧ w' = w := by
  obtain ⟨p1, p3, p4⟩ := wrap_pow hW
  by_cases h0 : 0 ≤ a
  · have h1 : ¬ a < ((2 ^ W : Nat) : Int) := fun h1 => h ⟨h0, h1⟩
    clear h
    go_enter Tryd.func44, Tryd.ntmps44
    go_wp2_with fail
    go_ret
    exact ⟨ret1 (bool_eq (by simpa using h1)), rfl⟩
  · clear h
    go_enter Tryd.func44, Tryd.ntmps44
    go_wp2_with fail
    go_ret
    exact ⟨rfl, rfl⟩

theorem addressBits_any (a W : Nat) (w : World) (ha : a < 4096) (hW : W ≤ 12) :
    Calls Tryd.prog 46 #[.int .i64 a, .int .i64 W] w fun e w' => e = .returned (.string (addr a W)) ∧ w' = w := by
  go_enter Tryd.func46, Tryd.ntmps46
  go_wp2_with fail
  go_loopg [5, 6, 7] W (fun g x r y wr => ∃ (i q : Nat) (b : ByteArray), wr = w ∧ x = .string b ∧ r = .int .i64 q ∧ y = .int .i64 i ∧ g + i = W ∧ q < 4096 ∧ b.size = i ∧ Hid (b = addr a i) ∧ Hid (q = a / 2 ^ i))
  case atStart => exact ⟨0, a, _, rfl, rfl, rfl, rfl, by omega, ha, rfl, rfl, by unfold Hid; simp⟩
  case round =>
    obtain ⟨i, q, b, rfl, rfl, rfl, rfl, hg, hq, hb, HB, HQ⟩ := hrel
    by_cases hlt : i < W
    · have hq2 : q / 2 = a / 2 ^ (i + 1) := by rw [HQ.out, Nat.div_div_eq_div_mul, Nat.pow_succ]
      have HQ2 : Hid (q / 2 = a / 2 ^ (i + 1)) := hq2
      clear hq2
      by_cases hd : q % 2 = 1
      · have hdb : (((q : Int) % 2) == 1) = true := by rw [beq_iff_eq]; omega
        have HD : Hid (q % 2 = 1) := hd
        clear hd
        go_wp2_with fail
        go_roundg (gk - 1)
        case measure => omega
        case rel => exact ⟨i + 1, q / 2, _, rfl, rfl, int_eq (by omega), int_eq (by omega), by omega, by omega, by rw [size_cons, hb], addr_succ HB (by rw [← HQ.out, HD.out]; rfl), HQ2⟩
      · have hd0 : q % 2 = 0 := by omega
        have hdb : (((q : Int) % 2) == 1) = false := by rw [beq_eq_false_iff_ne]; omega
        have HD : Hid (q % 2 = 0) := hd0
        clear hd hd0
        go_wp2_with fail
        go_roundg (gk - 1)
        case measure => omega
        case rel => exact ⟨i + 1, q / 2, _, rfl, rfl, int_eq (by omega), int_eq (by omega), by omega, by omega, by rw [size_cons, hb], addr_succ HB (by rw [← HQ.out, HD.out]; rfl), HQ2⟩
    · go_wp2_with fail
      go_ret
      have : i = W := by omega
      subst this
      exact ⟨ret1 (str_eq HB), rfl⟩

set_option maxRecDepth 100000 in
theorem rbitsA_any (a W : Nat) (w : World) (_ha : a < 4096) (hW : W ≤ 12) :
    Calls Tryd.prog 55 #[.int .i64 a, .int .i64 W] w fun e w' => e = .returned (.string (addr a W)) ∧ Below w.heap.size w w' := by
  go_enter Tryd.func55, Tryd.ntmps55
  go_wp2_with fail
  go_loopg [5, 6] W (fun g x y wr => ∃ (i : Nat) (b : ByteArray), x = .string b ∧ y = .int .i64 i ∧ g + i = W ∧ b.size = i ∧ Hid (b = addr a i) ∧ Below w.heap.size w wr)
  case atStart => exact ⟨0, _, rfl, rfl, by omega, rfl, rfl, Below.refl _ _⟩
  case round =>
    obtain ⟨i, b, rfl, rfl, hg, hb, HB, hbel⟩ := hrel
    by_cases hlt : i < W
    · obtain ⟨d, hd⟩ : ∃ d : Nat, d = a / 2 ^ i % 2 := ⟨_, rfl⟩
      have hd1 : d ≤ 1 := by omega
      have hbd : Go.bits BinOp.and IntKind.i64 ((a : Int) / 2 ^ i) 1 = (d : Int) := by
        rw [i64_and1, hd]
        rw [Int.natCast_emod, Int.natCast_ediv, Int.natCast_pow]; rfl
      have HD : Hid (d = a / 2 ^ i % 2) := hd
      clear hd
      have hcv : (convert 107 9 (Value.slice (some ⟨wr.heap.size, 0, none⟩) 1 1)).run Tryd.prog (wr.alloc (Obj.cells #[Value.int IntKind.u8 (48 + (d : Int))] 5)) = .ok (.string ⟨#[dg d]⟩) (wr.alloc (Obj.cells #[Value.int IntKind.u8 (48 + (d : Int))] 5)) := by
        refine run_convert_bytes_back (P := Tryd.prog) _ 107 9 5 ⟨wr.heap.size, 0, none⟩ 1 [dg d] Tryd.underlying107 Tryd.underlying5 Tryd.underlying9 ?_
        intro j hj
        have : j = 0 := by simp at hj; exact hj
        subst this
        simp [Addr.add, dg_toNat hd1]
      go_wp2_with fail
      go_roundg (gk - 1)
      case measure => omega
      case rel => exact ⟨i + 1, _, rfl, int_eq (by omega), by omega, by rw [size_cons, hb], addr_succ HB (by rw [← HD.out]), hbel.alloc hbel.size _⟩
    · go_wp2_with fail
      go_ret
      have : i = W := by omega
      subst this
      exact ⟨ret1 (str_eq HB), hbel⟩
end Go.Proofs.YtdfnmpmmkcpddaaDoor
