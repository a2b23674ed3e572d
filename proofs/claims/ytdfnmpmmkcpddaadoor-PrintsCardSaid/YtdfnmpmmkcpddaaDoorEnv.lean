/- What the rows' listed variables give: the library's table of powers of ten. -/
import Derived.Test.YtdfnmpmmkcpddaaDoorRows
import Derived.Test.YtdfnmpmmkcpddaaDoorBase
import Derived.Lib.AppendIntMem
import Derived.Lib.LaidTab
import Derived.Stop.LaidErr
import Derived.MakeChecks
namespace Go.Proofs.YtdfnmpmmkcpddaaDoor
open Go.RowKit

/-- The table that strconv reads, in a world. -/
def Env (w : World) : Prop := Lib.TabIs Tryd.prog w "internal/strconv.uint64pow10" .u64 Lib.pow10Tab
theorem Env.later {w w' : World} (h : Env w) (hb : Below w.heap.size w w') : Env w' := Lib.tabBelow_of_tabIs h w' hb
theorem Env.alloc {w : World} (h : Env w) (o : Obj) : Env (w.alloc o) := h.later ((Below.refl _ _).alloc (Nat.le_refl _) o)

theorem gPow : ∃ g t n e, Tryd.prog.globalNamed "internal/strconv.uint64pow10" = some g ∧ (Tryd.prog.globals[g]?).map (·.type) = some t ∧ Tryd.prog.underlying t = some (.array n e) ∧ Tryd.prog.underlying e = some (.int .u64) ∧ Tryd.prog.cellsOf e = 1 ∧ Tryd.prog.cellsOf t = n := by
  refine ⟨_, 139, 20, 132, rfl, by kernel_rfl, Tryd.underlying139, Tryd.underlying132, by kernel_rfl, by kernel_rfl⟩

theorem env_of_laid {W : World} (h : laidMetH Tryd.prog Rows.checksRow.laid W) : Env W := by
  rw [MakeChecks.laidMetH_plain _ _ _ (by kernel_rfl)] at h
  obtain ⟨g, t, n, e, h1, h2, h3, h4, h5, h6⟩ := gPow
  exact Lib.tabIs_of_head (rest := []) h1 h2 h3 h4 h5 h6 (show laidMet Tryd.prog (("internal/strconv.uint64pow10", Lib.tabData .u64 Lib.pow10Tab) :: []) W from h.tail.tail)
end Go.Proofs.YtdfnmpmmkcpddaaDoor
