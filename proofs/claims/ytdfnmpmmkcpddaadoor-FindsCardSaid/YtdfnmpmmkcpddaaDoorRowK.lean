/- What every row of this seat wants: the script opened, the world of the witness. -/
import Derived.Test.YtdfnmpmmkcpddaaDoorLawB
import Derived.ProofKit
import Derived.OpenShut
import Derived.ShutString
import Derived.ChangeOld
import Derived.Deep.Slices
import Derived.Deep.DeepHandedRow
import Derived.LaidMore
namespace Go.Proofs.YtdfnmpmmkcpddaaDoor
open Go.ChangeShapes Go.WideShapes Go.ChangeAt Go.RowKit

theorem own : ownKnob Tryd.prog.godebug = none := by kernel_rfl
theorem laidOut : laidOutB Tryd.prog = true := by kernel_rfl
theorem cellsOp : Tryd.prog.cellsOf 28 = 6 := by kernel_rfl
theorem cellsInt : Tryd.prog.cellsOf 3 = 1 := by kernel_rfl
theorem cellsStr : Tryd.prog.cellsOf 9 = 1 := by kernel_rfl

theorem inI64 {x : Int} (h : (Lit.int .i64 x).wf = true) : InI64 x := by
  simp [Lit.wf, IntKind.min, IntKind.max, IntKind.signed, IntKind.bits] at h
  exact ⟨by omega, by omega⟩

section
variable {H : Type} {enc : TypeId × Value → H} {w : World} {base : Nat} {spare : Nat → Bool} {held : Bool}


set_option maxRecDepth 100000 in
theorem op_open {b off n : Nat} {cs : List Value} {x : DataW H × List MemPlace} (hc : w.cells? base ⟨b, off, none⟩ 6 = some cs) (h : DataW.trod enc Tryd.prog w base spare held n 28 cs = some x) :
    ∃ (k W D L A : Int) (s : ByteArray), OpAt w b off k W D L A s := by
  obtain ⟨_, hlen, hcell⟩ := World.cells?_some hc
  obtain ⟨xs, m, _, _, _, hxl, hf⟩ := DataW.trod_struct Tryd.underlying28 h
  match cs, hlen with
  | [v0, v1, v2, v3, v4, v5], _ =>
    match xs, hxl with
    | [y0, y1, y2, y3, y4, y5], _ =>
      have g0 : DataW.trod enc Tryd.prog w base spare held m 3 (List.take (Tryd.prog.cellsOf 3) (List.drop 0 [v0, v1, v2, v3, v4, v5])) = some y0 := hf 0 _ rfl
      rw [cellsInt] at g0
      have g1 : DataW.trod enc Tryd.prog w base spare held m 3 (List.take (Tryd.prog.cellsOf 3) (List.drop 1 [v0, v1, v2, v3, v4, v5])) = some y1 := hf 1 _ rfl
      rw [cellsInt] at g1
      have g2 : DataW.trod enc Tryd.prog w base spare held m 3 (List.take (Tryd.prog.cellsOf 3) (List.drop 2 [v0, v1, v2, v3, v4, v5])) = some y2 := hf 2 _ rfl
      rw [cellsInt] at g2
      have g3 : DataW.trod enc Tryd.prog w base spare held m 3 (List.take (Tryd.prog.cellsOf 3) (List.drop 3 [v0, v1, v2, v3, v4, v5])) = some y3 := hf 3 _ rfl
      rw [cellsInt] at g3
      have g4 : DataW.trod enc Tryd.prog w base spare held m 3 (List.take (Tryd.prog.cellsOf 3) (List.drop 4 [v0, v1, v2, v3, v4, v5])) = some y4 := hf 4 _ rfl
      rw [cellsInt] at g4
      have g5 : DataW.trod enc Tryd.prog w base spare held m 9 (List.take (Tryd.prog.cellsOf 9) (List.drop 5 [v0, v1, v2, v3, v4, v5])) = some y5 := hf 5 _ rfl
      rw [cellsStr] at g5
      obtain ⟨k, e0, _, w0⟩ := DataW.trod_int Tryd.underlying3 g0
      obtain ⟨W, e1, _, w1⟩ := DataW.trod_int Tryd.underlying3 g1
      obtain ⟨D, e2, _, w2⟩ := DataW.trod_int Tryd.underlying3 g2
      obtain ⟨L, e3, _, w3⟩ := DataW.trod_int Tryd.underlying3 g3
      obtain ⟨A, e4, _, w4⟩ := DataW.trod_int Tryd.underlying3 g4
      obtain ⟨s, e5, _, w5⟩ := DataW.trod_string Tryd.underlying9 g5
      simp at e0 e1 e2 e3 e4 e5
      subst e0 e1 e2 e3 e4 e5
      have c0 := hcell 0 (by omega)
      have c1 := hcell 1 (by omega)
      have c2 := hcell 2 (by omega)
      have c3 := hcell 3 (by omega)
      have c4 := hcell 4 (by omega)
      have c5 := hcell 5 (by omega)
      simp [Addr.add] at c0 c1 c2 c3 c4 c5
      exact ⟨k, W, D, L, A, s, c0, c1, c2, c3, c4, c5, w5, inI64 w1, inI64 w2, inI64 w3, inI64 w4⟩


set_option maxRecDepth 100000 in
theorem script_open {fuel : Nat} {ao : Option Addr} {len cap : Nat} {x : DataW H × List MemPlace} (h : DataW.trod enc Tryd.prog w base spare held fuel 22 [.slice ao len cap] = some x) : Script w ao len := by
  intro i hi
  rcases Deep.open_slice Tryd.underlying22 h with ⟨hcs, _⟩ | ⟨a, len', cap', m, n, D, Pl, hcs, _, hl, _, hmm, _, hx⟩
  · simp at hcs; omega
  · simp only [List.cons.injEq, Value.slice.injEq, and_true] at hcs
    obtain ⟨rfl, rfl, rfl⟩ := hcs
    obtain ⟨cs0, hc0, _⟩ := hx 0 (by rw [hmm]; split <;> omega)
    obtain ⟨cs', hc, ht⟩ := hx i (by rw [hmm]; split <;> omega)
    rw [cellsOp] at hc hc0
    obtain ⟨b, off, spot⟩ := a
    have h0 := (World.cells?_some hc0)
    have hs : spot = none := by
      have hc1 := h0.2.2 0 (by omega)
      rw [List.getElem?_eq_getElem (by omega)] at hc1
      simpa [Addr.add] using World.cell?_spot hc1
    subst hs
    rw [add_plain] at hc
    obtain ⟨k, W, D, L, A, s, hat⟩ := op_open hc ht
    exact ⟨b, off, k, W, D, L, A, s, rfl, World.block_lt_of_cell? w _ hat.1, hat⟩
end

end Go.Proofs.YtdfnmpmmkcpddaaDoor
