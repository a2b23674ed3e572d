import Derived.Test.YtdfnmpmmkcpddaaDoorQ19
import Derived.Test.YtdfnmpmmkcpddaaDoorQ35
/- Deeper: the closed fact, and the step. -/
namespace Go.Proofs.YtdfnmpmmkcpddaaDoor
open Go.RowKit

def ex1 : ByteArray := ⟨#[48, 48, 48, 48, 32, 49, 10, 49, 49, 49, 49, 32, 49, 10]⟩
def ex2 : ByteArray := ⟨#[49, 32, 50, 10, 48, 32, 49, 10, 42, 32, 51, 10, 49, 32, 52, 10]⟩
def ex3 : ByteArray := ⟨#[42, 32, 51, 10, 48, 32, 49, 10, 49, 32, 52, 10]⟩
theorem ex1_err : prE ex1 4 2 = 0 := by decide +kernel
theorem ex1_cost : prC ex1 4 2 = 12 := by decide +kernel
theorem ex2_err : tErr ex2 4 = 0 := by decide +kernel
theorem ex2_ord : ordR (tRts ex2 4) = [⟨⟨#[]⟩, 3⟩, ⟨⟨#[48]⟩, 1⟩, ⟨⟨#[49]⟩, 4⟩] := by kernel_rfl
theorem ex2_text : pText ex2 4 = ex3 := by
  have d1 : Lib.decDigits 1 = [49] := by unfold Lib.decDigits; rw [dif_pos (by omega)]; rfl
  have d3 : Lib.decDigits 3 = [51] := by unfold Lib.decDigits; rw [dif_pos (by omega)]; rfl
  have d4 : Lib.decDigits 4 = [52] := by unfold Lib.decDigits; rw [dif_pos (by omega)]; rfl
  unfold pText
  rw [ex2_ord]
  simp only [textB, List.foldl_cons, List.foldl_nil, lineB, decB, d1, d3, d4]
  decide +kernel

theorem priced_fact (w : World) (hE : Env w) : Calls Tryd.prog 16 #[] w fun e w' => e = .returned (.bool true) ∧ Below w.heap.size w w' := by
  have H1 := cost_fib ex1 4 2
  have H2 := fun w hE => print_any ex2 4 w (by unfold maxLen; show 16 ≤ 2 ^ 63 - 1; omega) hE
  rw [ex1_cost, ex1_err] at H1
  rw [ex2_text, ex2_err] at H2
  unfold ex1 at H1
  unfold ex2 ex3 at H2
  go_enter Tryd.func16, Tryd.ntmps16
  go_wp2_with fail
  refine (H1 _ (by unfold maxLen; show 14 ≤ 2 ^ 63 - 1; omega)).mono ?_
  rintro e w1 ⟨rfl, hb1⟩
  go_wp2_with fail
  refine (H2 _ (hE.later hb1)).mono ?_
  rintro e w2 ⟨rfl, hb2⟩
  go_wp2_with (go_at_call 25; refine (num_any _ _).mono ?_; rintro e w3 ⟨rfl, rfl⟩)
  go_ret
  exact ⟨rfl, hb1.trans (hb2.mono hb1.size)⟩
end Go.Proofs.YtdfnmpmmkcpddaaDoor
