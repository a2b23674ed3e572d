/- The law's own functions: num, tables, plays at Check. -/
import Derived.Test.YtdfnmpmmkcpddaaDoorWalkC
import Derived.Test.YtdfnmpmmkcpddaaDoorWalkG
import Derived.Test.YtdfnmpmmkcpddaaDoorEnv
namespace Go.Proofs.YtdfnmpmmkcpddaaDoor
open Go.RowKit

theorem num_any (n : Int) (w : World) : Calls Tryd.prog 25 #[.int .i64 n] w fun e w' => e = .returned (.int .i64 n) ∧ w' = w := by
  go_enter Tryd.func25, Tryd.ntmps25
  go_wp2
  go_ret
  exact ⟨rfl, rfl⟩

theorem check_any (s : ByteArray) (W : Int) (w : World) (hm : s.size ≤ maxLen) :
    Calls Tryd.prog 30 #[.string s, .int .i64 W] w fun e w' => e = .returned (.tuple #[.int .i64 (tErr s W), .int .i64 (tAt s W)]) ∧ Below w.heap.size w w' := by
  go_enter Tryd.func30, Tryd.ntmps30
  go_wp2_with fail
  refine (readTable_any s W _ hm).mono ?_
  rintro e w1 ⟨ao, cap, rfl, _, hb⟩
  go_wp2_with fail
  go_ret2
  exact ⟨rfl, hb⟩
theorem rcheck_any (s : ByteArray) (W : Int) (w : World) (hm : s.size ≤ maxLen) :
    Calls Tryd.prog 48 #[.string s, .int .i64 W] w fun e w' => e = .returned (.tuple #[.int .i64 (tErr s W), .int .i64 (tAt s W)]) ∧ Below w.heap.size w w' := by
  go_enter Tryd.func48, Tryd.ntmps48
  go_wp2_with fail
  refine (read_any s W _ hm).mono ?_
  rintro e w1 ⟨ao, cap, rfl, _, hb⟩
  go_wp2_with fail
  go_ret2
  exact ⟨rfl, hb⟩

/-- A step, as a value. -/
def opV (k W D L A : Int) (s : ByteArray) : Value := .agg #[.int .i64 k, .int .i64 W, .int .i64 D, .int .i64 L, .int .i64 A, .string s]

theorem bcell {W w1 : World} (hb : Below W.heap.size W w1) : (∀ b o, b < W.heap.size → w1.cell? ⟨b, o, none⟩ = W.cell? ⟨b, o, none⟩) ∧ (∀ b o, b < W.heap.size → w1.frozen? ⟨b, o, none⟩ = W.frozen? ⟨b, o, none⟩) :=
  ⟨fun b o h => hb.cell (p := ⟨b, o, none⟩) h, fun b o h => hb.frozen (p := ⟨b, o, none⟩) h⟩

theorem tables_check (W D L A : Int) (s : ByteArray) (w : World) (hm : s.size ≤ maxLen) :
    Calls Tryd.prog 31 #[opV 1 W D L A s] w fun e w' => e = .returned (.bool true) ∧ Below w.heap.size w w' := by
  unfold opV
  go_enter Tryd.func31, Tryd.ntmps31
  go_wp2_with fail
  refine (check_any s W _ hm).mono ?_
  rintro e w1 ⟨rfl, hb1⟩
  obtain ⟨hc, _⟩ := bcell hb1
  have hz : w.heap.size < w1.heap.size := by have := hb1.size; simp at this; omega
  go_wp2_with fail
  refine (rcheck_any s W _ hm).mono ?_
  rintro e w2 ⟨rfl, hb2⟩
  go_wp2_with (go_at_call 25; refine (num_any _ _).mono ?_; rintro e w3 ⟨rfl, rfl⟩)
  go_ret
  refine ⟨rfl, ?_⟩
  have h1 : Below w.heap.size w w1 := ((Below.refl _ _).alloc (Nat.le_refl _) _).trans (hb1.mono (by simp))
  exact h1.trans (hb2.mono (by omega))

/-- A number of Go's int. -/
def InI64 (x : Int) : Prop := -9223372036854775808 ≤ x ∧ x ≤ 9223372036854775807

/-- Every step of a kind from lo to hi is as the document says. -/
def Plays (lo hi : Int) : Prop := ∀ (k W D L A : Int) (s : ByteArray) (w : World), lo ≤ k → k ≤ hi → s.size ≤ maxLen → InI64 W → InI64 D → InI64 L → InI64 A → Env w →
  Calls Tryd.prog 22 #[opV k W D L A s] w fun e w' => e = .returned (.bool true) ∧ Below w.heap.size w w'

theorem plays_tab (k W D L A : Int) (s : ByteArray) (w : World) (hk : k = 1 ∨ k = 2 ∨ k = 3 ∨ k = 4) (hE : Env w)
    (ht : ∀ w, Env w → Calls Tryd.prog 31 #[opV k W D L A s] w fun e w' => e = .returned (.bool true) ∧ Below w.heap.size w w') :
    Calls Tryd.prog 22 #[opV k W D L A s] w fun e w' => e = .returned (.bool true) ∧ Below w.heap.size w w' := by
  have HT : Hid (∀ w, Env w → Calls Tryd.prog 31 #[opV k W D L A s] w fun e w' => e = .returned (.bool true) ∧ Below w.heap.size w w') := ht
  clear ht
  unfold opV at HT ⊢
  rcases hk with rfl | rfl | rfl | rfl
  all_goals
    go_enter Tryd.func22, Tryd.ntmps22
    go_wp2_with fail
    refine (HT.out _ (hE.alloc _)).mono ?_
    rintro e w1 ⟨rfl, hb1⟩
    go_wp2_with fail
    go_ret
    exact ⟨rfl, ((Below.refl _ _).alloc (Nat.le_refl _) _).trans (hb1.mono (by simp))⟩

theorem plays_check : Plays 1 1 := by
  intro k W D L A s w h1 h2 hm _ _ _ _ hE
  obtain rfl : k = 1 := by omega
  exact plays_tab 1 W D L A s w (.inl rfl) hE fun w _ => tables_check W D L A s w hm
end Go.Proofs.YtdfnmpmmkcpddaaDoor
