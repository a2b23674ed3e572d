/- UpTo: every step of a script. -/
import Derived.Test.YtdfnmpmmkcpddaaDoorLawA
namespace Go.Proofs.YtdfnmpmmkcpddaaDoor
open Go.RowKit

/-- A step's six cells. -/
def OpAt (w : World) (b off : Nat) (k W D L A : Int) (s : ByteArray) : Prop :=
  w.cell? ⟨b, off, none⟩ = some (.int .i64 k) ∧ w.cell? ⟨b, off + 1, none⟩ = some (.int .i64 W) ∧ w.cell? ⟨b, off + 2, none⟩ = some (.int .i64 D) ∧ w.cell? ⟨b, off + 3, none⟩ = some (.int .i64 L) ∧
  w.cell? ⟨b, off + 4, none⟩ = some (.int .i64 A) ∧ w.cell? ⟨b, off + 5, none⟩ = some (.string s) ∧ s.size ≤ maxLen ∧ InI64 W ∧ InI64 D ∧ InI64 L ∧ InI64 A
/-- A script in memory. -/
def Script (w : World) (ao : Option Addr) (len : Nat) : Prop := ∀ i, i < len → ∃ (b off : Nat) (k W D L A : Int) (s : ByteArray), ao = some ⟨b, off, none⟩ ∧ b < w.heap.size ∧ OpAt w b (off + i * 6) k W D L A s

theorem OpAt.later {w w' : World} {b off : Nat} {k W D L A : Int} {s : ByteArray} (h : OpAt w b off k W D L A s) (hb : b < w.heap.size) (hbel : Below w.heap.size w w') : OpAt w' b off k W D L A s := by
  obtain ⟨h0, h1, h2, h3, h4, h5, r⟩ := h
  exact ⟨(hbel.cell hb).trans h0, (hbel.cell hb).trans h1, (hbel.cell hb).trans h2, (hbel.cell hb).trans h3, (hbel.cell hb).trans h4, (hbel.cell hb).trans h5, r⟩

set_option maxRecDepth 100000 in
theorem upTo_any (lo hi : Int) (ao : Option Addr) (len cap : Nat) (w : World) (hp : Plays lo hi) (hE : Env w) (hs : Script w ao len) :
    Calls Tryd.prog 15 #[.slice ao len cap, .int .i64 lo, .int .i64 hi] w fun e w' => e = .returned (.int .i64 (-1)) ∧ Below w.heap.size w w' := by
  have HP : Hid (Plays lo hi) := hp
  have HE : Hid (Env w) := hE
  have HS : Hid (Script w ao len) := hs
  clear hp hs hE
  go_enter Tryd.func15, Tryd.ntmps15
  go_wp2_with fail
  go_loopg [7] len (fun g x wr => ∃ i : Nat, x = .int .i64 i ∧ g + i = len ∧ Below w.heap.size w wr)
  case atStart => exact ⟨0, rfl, by omega, Below.refl _ _⟩
  case round =>
    obtain ⟨i, rfl, hgi, hbel⟩ := hrel
    by_cases hlt : i < len
    · by_cases hmx : (i : Int) < 1152921504606846976
      · obtain ⟨b, off, k, W, D, L, A, s, rfl, hb, hat⟩ := HS.out i hlt
        obtain ⟨c0, c1, c2, c3, c4, c5, hm, i1, i2, i3, i4⟩ := hat.later hb hbel
        by_cases hk : lo ≤ k ∧ k ≤ hi
        · obtain ⟨hk1, hk2⟩ := hk
          go_wp2_with fail
          refine (HP.out k W D L A s _ hk1 hk2 hm i1 i2 i3 i4 ((HE.out.later hbel).alloc _)).mono ?_
          rintro e w1 ⟨rfl, hb1⟩
          go_wp2_with fail
          go_roundg (gk - 1)
          case measure => omega
          case rel =>
            have := hbel.size
            exact ⟨i + 1, int_eq (by omega), by omega, (hbel.alloc this _).trans (hb1.mono (by simp; omega))⟩
        · by_cases hk1 : lo ≤ k
          · have hk2 : ¬ k ≤ hi := fun h => hk ⟨hk1, h⟩
            clear hk
            go_wp2_with fail
            go_roundg (gk - 1)
            case measure => omega
            case rel => exact ⟨i + 1, int_eq (by omega), by omega, hbel.alloc hbel.size _⟩
          · clear hk
            go_wp2_with fail
            go_roundg (gk - 1)
            case measure => omega
            case rel => exact ⟨i + 1, int_eq (by omega), by omega, hbel.alloc hbel.size _⟩
      · go_wp2_with fail
        go_ret
        exact ⟨rfl, hbel⟩
    · go_wp2_with fail
      go_ret
      exact ⟨rfl, hbel⟩

/-- A law of the kinds from lo to hi. -/
theorem checks_any (ao : Option Addr) (len cap : Nat) (w : World) (hs : Script w ao len) (hE : Env w) :
    Calls Tryd.prog 3 #[.slice ao len cap] w fun e w' => e = .returned (.bool true) ∧ Below w.heap.size w w' := by
  have HS : Hid (Script w ao len) := hs
  clear hs
  go_enter Tryd.func3, Tryd.ntmps3
  go_wp2_with fail
  refine (upTo_any 1 1 ao len cap _ plays_check hE HS.out).mono ?_
  rintro e w1 ⟨rfl, hb1⟩
  go_wp2_with fail
  go_ret
  exact ⟨rfl, hb1⟩
end Go.Proofs.YtdfnmpmmkcpddaaDoor
