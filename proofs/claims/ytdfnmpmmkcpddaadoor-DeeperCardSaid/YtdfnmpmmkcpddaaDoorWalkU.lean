/- The walk of the document's cost: the memory of costs. -/
import Derived.Test.YtdfnmpmmkcpddaaDoorWalkO
import Derived.Test.YtdfnmpmmkcpddaaDoorSpecL
namespace Go.Proofs.YtdfnmpmmkcpddaaDoor
open Go.RowKit

/-- The sums lie in block B. -/
def Sm (w : World) (B : Nat) (vl vk : Value) : Prop := w.heap[B]? = some (.cells #[vl, vk] 102 (0, 0))
section
variable {w : World} {B : Nat} {vl vk : Value}
theorem Sm.cells (h : Sm w B vl vk) : w.cell? ⟨B, 0, none⟩ = some vl ∧ w.cell? ⟨B, 1, none⟩ = some vk := by
  refine ⟨?_, ?_⟩ <;> (rw [cell_of_row w B _ _ _ _ h]; rfl)
theorem Sm.free (h : Sm w B vl vk) (j : Nat) : w.frozen? ⟨B, j, none⟩ = false := frozen_of_row w B j _ _ h
theorem Sm.setK (h : Sm w B vl vk) (u : Value) : Sm (w.setCell ⟨B, 1, none⟩ u) B vl u := heap_setCell_same w B 1 _ _ _ h
theorem Sm.lt (h : Sm w B vl vk) : B < w.heap.size := (Array.getElem?_eq_some_iff.1 h).1
theorem Sm.kept {w' : World} {row : Option Nat} (h : Sm w B vl vk) (hg : w.grownBy w' row) (hne : some B ≠ row) : Sm w' B vl vk := (hg.block B h.lt hne).trans h
theorem Sm.below {w' : World} (h : Sm w B vl vk) (hb : Below w.heap.size w w') : Sm w' B vl vk := (hb.block B h.lt).trans h
end

/-- A cost that is known. -/
structure Kn where
  b : ByteArray
  k : Nat
  n : Int
def kc1 (x : Kn) : List Value := [.string x.b, .int .i64 (x.k : Nat), .int .i64 x.n]
def kc (l : List Kn) : List Value := l.flatMap kc1
theorem kc_snoc (l : List Kn) (x : Kn) : kc (l ++ [x]) = kc l ++ [.string x.b, .int .i64 (x.k : Nat), .int .i64 x.n] := by simp [kc, kc1]
theorem kc_cons (x : Kn) (l : List Kn) : kc (x :: l) = .string x.b :: .int .i64 (x.k : Nat) :: .int .i64 x.n :: kc l := by simp [kc, kc1]
theorem kc_at : ∀ (l : List Kn) (i : Nat) (x : Kn), l[i]? = some x → (kc l)[i * 3]? = some (.string x.b) ∧ (kc l)[i * 3 + 1]? = some (.int .i64 (x.k : Nat)) ∧ (kc l)[i * 3 + 2]? = some (.int .i64 x.n)
  | y :: l, 0, x, h => by simp at h; subst h; rw [kc_cons]; exact ⟨rfl, rfl, rfl⟩
  | y :: l, i + 1, x, h => by
    have := kc_at l i x (by simpa using h)
    rw [kc_cons, show (i + 1) * 3 = i * 3 + 1 + 1 + 1 from by omega, show i * 3 + 1 + 1 + 1 + 1 = (i * 3 + 1) + 1 + 1 + 1 from by omega, show i * 3 + 1 + 1 + 1 + 2 = (i * 3 + 2) + 1 + 1 + 1 from by omega]
    simpa using this
  | [], i, x, h => by simp at h

/-- All that is known is right. -/
def Right (D : List Rt) (l : List Kn) : Prop := ∀ x ∈ l, x.n = costZ D x.k x.b
theorem Right.snoc {D : List Rt} {l : List Kn} (h : Right D l) {x : Kn} (hx : x.n = costZ D x.k x.b) : Right D (l ++ [x]) := by
  intro y hy
  rcases List.mem_append.1 hy with h1 | h1
  · exact h y h1
  · rw [List.mem_singleton] at h1; rw [h1]; exact hx

/-- What a call of cost leaves alone. -/
structure Fr (B : Nat) (w : World) (vk : Value) (w' : World) (vk' : Value) : Prop where
  below : Below B w w'
  block : ∀ k, k < w.heap.size → k ≠ B → vk.ownBlock ≠ some k → w'.heap[k]? = w.heap[k]?
  own : ∀ k, vk'.ownBlock = some k → vk.ownBlock = some k ∨ w.heap.size ≤ k
theorem Fr.refl (B : Nat) (w : World) (vk : Value) : Fr B w vk w vk := ⟨Below.refl _ _, fun _ _ _ _ => rfl, fun _ h => .inl h⟩
theorem Fr.trans {B : Nat} {w w' w'' : World} {v v' v'' : Value} (h : Fr B w v w' v') (k : Fr B w' v' w'' v'') : Fr B w v w'' v'' := by
  have hs := h.below.size
  refine ⟨h.below.trans k.below, fun i hi hB hv => ?_, fun i hi => ?_⟩
  · rw [k.block i (by omega) hB ?_, h.block i hi hB hv]
    intro e
    rcases h.own i e with h1 | h1
    · exact hv h1
    · omega
  · rcases k.own i hi with h1 | h1
    · exact h.own i h1
    · exact .inr (by omega)
theorem Fr.more {B : Nat} {w w' : World} {v : Value} (hB : B < w.heap.size) (h : Below w.heap.size w w') : Fr B w v w' v :=
  ⟨h.mono (by omega), fun k hk _ _ => h.block k hk, fun _ h => .inl h⟩
theorem Fr.row {B : Nat} {w w' : World} {v v' : Value} (h : Fr B w v w' v') {base : Nat} {e : TypeId} {size : Nat} {u : Value} {n : Nat} {xs : List Value} (hown : w.ownsRow base e size u n xs) (hne : ∀ k, u.ownBlock = some k → k ≠ B ∧ v.ownBlock ≠ some k) : w'.ownsRow base e size u n xs := by
  refine ⟨hown.1, ?_⟩
  rcases hown.2 with hn | ⟨g, cap, cur, rfl, hb, hgg, rest⟩
  · exact .inl hn
  · obtain ⟨h1, h2⟩ := hne g rfl
    refine .inr ⟨g, cap, cur, rfl, hb, ?_, rest⟩
    rw [h.block g (Array.getElem?_eq_some_iff.1 hgg).1 h1 h2]
    exact hgg

theorem Tryd.infoKnown : (Tryd.prog.info? 123).map (fun i => (i.zero, i.size, i.bytes)) = some (some (.agg #[.string ⟨#[]⟩, .int .i64 0, .int .i64 0]), 3, 32) := by kernel_rfl
end Go.Proofs.YtdfnmpmmkcpddaaDoor
