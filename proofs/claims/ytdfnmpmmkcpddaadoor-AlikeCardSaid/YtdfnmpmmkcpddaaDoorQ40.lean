import Derived.Test.YtdfnmpmmkcpddaaDoorQ39
import Derived.StillTailTactics
/- Alike: the law's loop. -/
namespace Go.Proofs.YtdfnmpmmkcpddaaDoor
open Go.RowKit

/-- A step in a block of its own. -/
def Ob (w : World) (B : Nat) (k W D L A : Int) (s : ByteArray) : Prop := w.heap[B]? = some (.cells #[.int .i64 k, .int .i64 W, .int .i64 D, .int .i64 L, .int .i64 A, .string s] 28 (0, 0))
section
variable {w : World} {B : Nat} {k W D L A : Int} {s : ByteArray}
theorem Ob.cells (h : Ob w B k W D L A s) : w.cell? ⟨B, 0, none⟩ = some (.int .i64 k) ∧ w.cell? ⟨B, 1, none⟩ = some (.int .i64 W) ∧ w.cell? ⟨B, 2, none⟩ = some (.int .i64 D) ∧ w.cell? ⟨B, 3, none⟩ = some (.int .i64 L) ∧ w.cell? ⟨B, 4, none⟩ = some (.int .i64 A) ∧ w.cell? ⟨B, 5, none⟩ = some (.string s) := by
  refine ⟨?_, ?_, ?_, ?_, ?_, ?_⟩ <;> (rw [cell_of_row w B _ _ _ _ h]; rfl)
theorem Ob.free (h : Ob w B k W D L A s) (j : Nat) : w.frozen? ⟨B, j, none⟩ = false := frozen_of_row w B j _ _ h
theorem Ob.lt (h : Ob w B k W D L A s) : B < w.heap.size := (Array.getElem?_eq_some_iff.1 h).1
theorem Ob.below {w' : World} (h : Ob w B k W D L A s) (hb : Below w.heap.size w w') : Ob w' B k W D L A s := (hb.block B h.lt).trans h
theorem Ob.new (w : World) (k W D L A : Int) (s : ByteArray) : Ob (w.alloc (.cells #[.int .i64 k, .int .i64 W, .int .i64 D, .int .i64 L, .int .i64 A, .string s] 28)) w.heap.size k W D L A s := heap_alloc_new w _
theorem Ob.set0 (h : Ob w B k W D L A s) (x : Int) : Ob (w.setCell ⟨B, 0, none⟩ (.int .i64 x)) B x W D L A s := heap_setCell_same w B 0 _ _ _ h
theorem Ob.set1 (h : Ob w B k W D L A s) (x : Int) : Ob (w.setCell ⟨B, 1, none⟩ (.int .i64 x)) B k x D L A s := heap_setCell_same w B 1 _ _ _ h
theorem Ob.set2 (h : Ob w B k W D L A s) (x : Int) : Ob (w.setCell ⟨B, 2, none⟩ (.int .i64 x)) B k W x L A s := heap_setCell_same w B 2 _ _ _ h
theorem Ob.set3 (h : Ob w B k W D L A s) (x : Int) : Ob (w.setCell ⟨B, 3, none⟩ (.int .i64 x)) B k W D x A s := heap_setCell_same w B 3 _ _ _ h
theorem Ob.set4 (h : Ob w B k W D L A s) (x : Int) : Ob (w.setCell ⟨B, 4, none⟩ (.int .i64 x)) B k W D L x s := heap_setCell_same w B 4 _ _ _ h
theorem Ob.set5 (h : Ob w B k W D L A s) (x : ByteArray) : Ob (w.setCell ⟨B, 5, none⟩ (.string x)) B k W D L A x := heap_setCell_same w B 5 _ _ _ h
end

set_option maxRecDepth 100000 in
set_option maxHeartbeats 2000000 in
theorem alike_any (ao : Option Addr) (len cap : Nat) (w : World) (hs : Script w ao len) (hE : Env w) :
    Calls Tryd.prog 13 #[.slice ao len cap] w fun e w' => e = .returned (.bool true) ∧ Below w.heap.size w w' := by
  have HS : Hid (Script w ao len) := hs
  have HE : Hid (Env w) := hE
  clear hs hE
  go_enter Tryd.func13, Tryd.ntmps13
  go_wp2_with fail
  refine (lives_fact _ HE.out).mono ?_
  rintro e w0 ⟨rfl, hb0⟩
  go_wp2_with fail
  have hz0 := hb0.size
  go_loopg [5] len (fun g x wr => ∃ (i : Nat) (k' W' D' L' A' : Int) (q : ByteArray), x = .int .i64 i ∧ g + i = len ∧ q.size ≤ maxLen ∧ Ob wr w0.heap.size k' W' D' L' A' q ∧ Below w.heap.size w wr)
  case atStart => exact ⟨0, 0, 0, 0, 0, 0, ⟨#[]⟩, rfl, by omega, Nat.zero_le _, Ob.new w0 0 0 0 0 0 ⟨#[]⟩, hb0.alloc hz0 _⟩
  case round =>
    obtain ⟨i, k', W', D', L', A', q, rfl, hgi, hqm, hob, hbel⟩ := hrel
    by_cases hlt : i < len
    · by_cases hmx : (i : Int) < 1152921504606846976
      · obtain ⟨b, off, k, W, D, L, A, s, rfl, hb, hat⟩ := HS.out i hlt
        obtain ⟨c0, c1, c2, c3, c4, c5, hm, i1, i2, i3, i4⟩ := hat.later hb hbel
        obtain ⟨o0, o1, o2, o3, o4, o5⟩ := hob.cells
        have hzr := hob.lt
        have e0 : ({ heap := wr.heap, tape := wr.tape, drawn := wr.drawn + 1, os := wr.os, output := wr.output } : World).cell? ⟨b, off + i * 6, none⟩ = some (.int .i64 k) := c0
        have e1 : ({ heap := wr.heap, tape := wr.tape, drawn := wr.drawn + 1, os := wr.os, output := wr.output } : World).cell? ⟨b, off + i * 6 + 1, none⟩ = some (.int .i64 W) := c1
        have e2 : ({ heap := wr.heap, tape := wr.tape, drawn := wr.drawn + 1, os := wr.os, output := wr.output } : World).cell? ⟨b, off + i * 6 + 2, none⟩ = some (.int .i64 D) := c2
        have e3 : ({ heap := wr.heap, tape := wr.tape, drawn := wr.drawn + 1, os := wr.os, output := wr.output } : World).cell? ⟨b, off + i * 6 + 3, none⟩ = some (.int .i64 L) := c3
        have e4 : ({ heap := wr.heap, tape := wr.tape, drawn := wr.drawn + 1, os := wr.os, output := wr.output } : World).cell? ⟨b, off + i * 6 + 4, none⟩ = some (.int .i64 A) := c4
        have e5 : ({ heap := wr.heap, tape := wr.tape, drawn := wr.drawn + 1, os := wr.os, output := wr.output } : World).cell? ⟨b, off + i * 6 + 5, none⟩ = some (.string s) := c5
        have p0 : ({ heap := wr.heap, tape := wr.tape, drawn := wr.drawn + 1, os := wr.os, output := wr.output } : World).cell? ⟨w0.heap.size, 0, none⟩ = some (.int .i64 k') := o0
        have p1 : ({ heap := wr.heap, tape := wr.tape, drawn := wr.drawn + 1, os := wr.os, output := wr.output } : World).cell? ⟨w0.heap.size, 1, none⟩ = some (.int .i64 W') := o1
        have p2 : ({ heap := wr.heap, tape := wr.tape, drawn := wr.drawn + 1, os := wr.os, output := wr.output } : World).cell? ⟨w0.heap.size, 2, none⟩ = some (.int .i64 D') := o2
        have p3 : ({ heap := wr.heap, tape := wr.tape, drawn := wr.drawn + 1, os := wr.os, output := wr.output } : World).cell? ⟨w0.heap.size, 3, none⟩ = some (.int .i64 L') := o3
        have p4 : ({ heap := wr.heap, tape := wr.tape, drawn := wr.drawn + 1, os := wr.os, output := wr.output } : World).cell? ⟨w0.heap.size, 4, none⟩ = some (.int .i64 A') := o4
        have p5 : ({ heap := wr.heap, tape := wr.tape, drawn := wr.drawn + 1, os := wr.os, output := wr.output } : World).cell? ⟨w0.heap.size, 5, none⟩ = some (.string q) := o5
        have hdr : Below wr.heap.size wr wr.drew := below_drewN (Below.refl _ _) 1
        go_wp2_with fail
        go_still_tail 5, (by kernel_rfl)
        go_wp2_with fail
        refine (alike_step k W D L A s k' W' D' L' A' q _ hm hqm (HE.out.later (hbel.trans (hdr.mono hbel.size)))).mono ?_
        rintro e w1 ⟨rfl, hb1⟩
        have hb1' : Below wr.heap.size wr w1 := hdr.trans hb1
        have hbel1 := hbel.trans (hb1'.mono hbel.size)
        have ob1 := hob.below hb1'
        obtain ⟨f0, f1, f2, f3, f4, f5, _⟩ := hat.later hb hbel1
        have g0 := ob1.cells.1
        have z0 := ob1.free 0
        have ob2 := ob1.set0 k
        have g1 := ob2.cells.2.1
        have z1 := ob2.free 1
        have ob3 := ob2.set1 W
        have g2 := ob3.cells.2.2.1
        have z2 := ob3.free 2
        have ob4 := ob3.set2 D
        have g3 := ob4.cells.2.2.2.1
        have z3 := ob4.free 3
        have ob5 := ob4.set3 L
        have g4 := ob5.cells.2.2.2.2.1
        have z4 := ob5.free 4
        have ob6 := ob5.set4 A
        have g5 := ob6.cells.2.2.2.2.2
        have z5 := ob6.free 5
        have ob7 := ob6.set5 s
        have hbel7 := (((((hbel1.setCell (p := ⟨w0.heap.size, 0, none⟩) hz0 (.int .i64 k)).setCell (p := ⟨w0.heap.size, 1, none⟩) hz0 (.int .i64 W)).setCell (p := ⟨w0.heap.size, 2, none⟩) hz0 (.int .i64 D)).setCell (p := ⟨w0.heap.size, 3, none⟩) hz0 (.int .i64 L)).setCell (p := ⟨w0.heap.size, 4, none⟩) hz0 (.int .i64 A)).setCell (p := ⟨w0.heap.size, 5, none⟩) hz0 (.string s)
        clear c0 c1 c2 c3 c4 c5 o0 o1 o2 o3 o4 o5 e0 e1 e2 e3 e4 e5 p0 p1 p2 p3 p4 p5
        go_wp2_with fail
        go_roundg (gk - 1)
        case measure => omega
        case rel => exact ⟨i + 1, k, W, D, L, A, s, int_eq (by omega), by omega, hm, ob7, hbel7⟩
      · go_wp2_with fail
        go_ret
        exact ⟨rfl, hbel⟩
    · go_wp2_with fail
      go_ret
      exact ⟨rfl, hbel⟩
end Go.Proofs.YtdfnmpmmkcpddaaDoor
