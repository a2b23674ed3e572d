/- The strides that the program takes: of those that cost the least, the first. -/
import Derived.Test.YtdfnmpmmkcpddaaDoorSpecM
namespace Go.Proofs.YtdfnmpmmkcpddaaDoor

/-- One more stride. -/
theorem least_one {R : List Rt} {b : ByteArray} {k : Nat} {f : ByteArray → Int} (hk : 1 ≤ k) : leastF R b k f 1 = sumS R b f 1 := by
  rw [leastF_succ, if_neg (by omega), if_pos (.inl (by show (-1 : Int) < 0; omega))]
theorem least_more {R : List Rt} {b : ByteArray} {k t : Nat} {f : ByteArray → Int} (hk : 1 ≤ k) (ht : 2 ≤ t) (h2 : 2 ≤ leastF R b k f (t - 1)) : leastF R b k f t = if sumS R b f t < leastF R b k f (t - 1) then sumS R b f t else leastF R b k f (t - 1) := by
  obtain ⟨s, rfl⟩ : ∃ s, t = s + 1 := ⟨t - 1, by omega⟩
  rw [show s + 1 - 1 = s from rfl] at *
  rw [leastF_succ, if_neg (by omega)]
  by_cases h : sumS R b f (s + 1) < leastF R b k f s
  · rw [if_pos (.inr h), if_pos h]
  · rw [if_neg (by omega), if_neg h]
theorem sum_low {R : List Rt} {b : ByteArray} {k t : Nat} (hS : ∀ r ∈ R, r.bits.size ≤ 12) (hk : 1 ≤ k) (ht : 1 ≤ t) : 2 ≤ sumS R b (costZ R k) t := by
  have h := (sum_bd (f := costZ R k) (l := underF R b t) (z := ((2 ^ t : Nat) : Int)) fun c hc => cost_bd hS k c hk (under_height hc)).1
  have hp2 : 2 ^ 1 ≤ (2 ^ t : Nat) := Nat.pow_le_pow_right (by omega) ht
  unfold sumS
  omega
/-- The first of the strides up to t that cost the least. -/
def argF (R : List Rt) (b : ByteArray) (f : ByteArray → Int) : Nat → Nat
  | 0 => 1
  | t + 1 => if t = 0 then 1 else if sumS R b f (t + 1) < sumS R b f (argF R b f t) then t + 1 else argF R b f t
theorem argF_bd (R : List Rt) (b : ByteArray) (f : ByteArray → Int) : ∀ t, 1 ≤ argF R b f t ∧ argF R b f t ≤ max t 1
  | 0 => by simp [argF]
  | t + 1 => by
    have ih := argF_bd R b f t
    rw [argF]
    split
    · omega
    · split <;> omega
theorem argF_one (R : List Rt) (b : ByteArray) (f : ByteArray → Int) : argF R b f 1 = 1 := rfl
theorem argF_more {R : List Rt} {b : ByteArray} {f : ByteArray → Int} {t : Nat} (ht : 2 ≤ t) : argF R b f t = if sumS R b f t < sumS R b f (argF R b f (t - 1)) then t else argF R b f (t - 1) := by
  obtain ⟨s, rfl⟩ : ∃ s, t = s + 1 := ⟨t - 1, by omega⟩
  rw [argF, if_neg (by omega)]; rfl
theorem argF_least {R : List Rt} {b : ByteArray} {k : Nat} (hS : ∀ r ∈ R, r.bits.size ≤ 12) (hk : 1 ≤ k) : ∀ t, 1 ≤ t → leastF R b k (costZ R k) t = sumS R b (costZ R k) (argF R b (costZ R k) t)
  | 0, h => by omega
  | t + 1, _ => by
    by_cases h : t = 0
    · subst h; rw [least_one hk]; rfl
    · have ih := argF_least (b := b) hS hk t (by omega)
      have h2 : 2 ≤ leastF R b k (costZ R k) t := by rw [ih]; exact sum_low hS hk (argF_bd R b _ t).1
      have h3 := least_more (R := R) (b := b) (t := t + 1) (f := costZ R k) hk (by omega) h2
      rw [show t + 1 - 1 = t from rfl, ih] at h3
      rw [h3, argF, if_neg h]
      split <;> rfl
/-- The stride of a node. -/
def chF (R : List Rt) (k : Nat) (b : ByteArray) : Nat := if k ≤ 1 then heightF R b else argF R b (costZ R (k - 1)) (heightF R b)
theorem chF_one (R : List Rt) (b : ByteArray) : chF R 1 b = heightF R b := rfl
theorem chF_succ (R : List Rt) {k : Nat} (b : ByteArray) (hk : 1 ≤ k) : chF R (k + 1) b = argF R b (costZ R k) (heightF R b) := by
  rw [chF, if_neg (by omega)]; rfl
theorem chF_bd (R : List Rt) (k : Nat) {b : ByteArray} (h : 1 ≤ heightF R b) : 1 ≤ chF R k b ∧ chF R k b ≤ heightF R b := by
  unfold chF
  split
  · omega
  · have := argF_bd R b (costZ R (k - 1)) (heightF R b); omega
theorem chF_cost {R : List Rt} (hS : ∀ r ∈ R, r.bits.size ≤ 12) {k : Nat} {b : ByteArray} (h : 1 ≤ heightF R b) : okS R b k (chF R (k + 1) b) ∧ costZ R (k + 1) b = sumS R b (costZ R k) (chF R (k + 1) b) := by
  by_cases hk : k = 0
  · subst hk
    rw [chF_one, cost_one hS h, sumS, under_none]
    exact ⟨.inl under_none, rfl⟩
  · rw [chF_succ R b (by omega)]
    refine ⟨.inr (by omega), ?_⟩
    rw [costZ]
    exact argF_least hS (by omega) _ h
end Go.Proofs.YtdfnmpmmkcpddaaDoor
