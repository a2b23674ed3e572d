/- The plain functions of images: as the program reads them; and a part of an image. -/
import Derived.Test.YtdfnmpmmkcpddaaDoorSpecJ
import Derived.Test.YtdfnmpmmkcpddaaDoorBase
namespace Go.Proofs.YtdfnmpmmkcpddaaDoor

/-- The byte at a place, 0 outside; the number of two. -/
def bz (s : ByteArray) (p : Nat) : Nat := if p < s.size then byt s p else 0
def nz (s : ByteArray) (p : Nat) : Nat := 256 * bz s p + bz s (p + 1)
/-- How many of the first n bits are 1. -/
def crF (r : ByteArray) : Nat → Nat
  | 0 => 0
  | j + 1 => crF r j + bz r (j / 8) / 2 ^ (j % 8) % 2

theorem bz_in {s : ByteArray} {p : Nat} (h : p < s.size) : bz s p = byt s p := by simp [bz, h]
theorem bz_out {s : ByteArray} {p : Nat} (h : ¬ p < s.size) : bz s p = 0 := by simp [bz, h]
theorem bz_lt (s : ByteArray) (p : Nat) : bz s p < 256 := by
  unfold bz; split
  · rename_i h; rw [byt_in h]; exact (s[p]'h).toNat_lt
  · omega
theorem nz_in {s : ByteArray} {p : Nat} (h : p + 1 < s.size) : nz s p = b2 s p := by
  rw [nz, b2, bz_in (by omega), bz_in h]
theorem nz_le (s : ByteArray) (p : Nat) : nz s p ≤ 65535 := by
  have := bz_lt s p
  have := bz_lt s (p + 1)
  unfold nz; omega
theorem crF_le (r : ByteArray) : ∀ n, crF r n ≤ n
  | 0 => Nat.le_refl _
  | n + 1 => by have := crF_le r n; unfold crF; omega

theorem crF_ones {s : ByteArray} {p m : Nat} (h : p + 1 + m ≤ s.size) : ∀ n, n ≤ 8 * m → crF (s.extract (p + 1) (p + 1 + m)) n = onesF s p n
  | 0, _ => rfl
  | j + 1, hj => by
    have hlt : j / 8 < m := by omega
    have hsz : (s.extract (p + 1) (p + 1 + m)).size = m := by rw [ByteArray.size_extract]; omega
    rw [crF, onesF, crF_ones h j (by omega), bz_in (by rw [hsz]; exact hlt), byt_extract h hlt]
    unfold setF
    simp only [decide_eq_true_eq]
    split <;> omega
theorem ones_one (s : ByteArray) (p : Nat) : onesF s p 1 = if setF s p 0 = true then 1 else 0 := by
  simp [onesF]

theorem spare_iff (s : ByteArray) (p : Nat) : ∀ f j, spareF s p f j = true ↔ onesF s p (j + f) = onesF s p j
  | 0, j => by simp [spareF]
  | f + 1, j => by
    have h1 := onesF_mono s p (show j + 1 ≤ j + 1 + f by omega)
    have h2 := spare_iff s p f (j + 1)
    rw [spareF, show j + (f + 1) = j + 1 + f from by omega]
    by_cases h : setF s p j = true
    · rw [if_pos h]
      rw [onesF, if_pos h] at h1
      simp; omega
    · rw [if_neg h, h2]
      rw [show onesF s p (j + 1) = onesF s p j from by rw [onesF, if_neg h]]
theorem pow_eight {t : Nat} : 2 ^ t < 8 ∧ (2 ^ t + 7) / 8 = 1 ∨ 8 ≤ 2 ^ t ∧ 8 * ((2 ^ t + 7) / 8) = 2 ^ t := by
  by_cases h : t < 3
  · left
    have : t = 0 ∨ t = 1 ∨ t = 2 := by omega
    rcases this with rfl | rfl | rfl <;> simp
  · right
    obtain ⟨k, rfl⟩ : ∃ k, t = k + 3 := ⟨t - 3, by omega⟩
    have : 0 < 2 ^ k := Nat.pow_pos (by omega)
    rw [Nat.pow_add, show 2 ^ 3 = 8 from rfl]
    omega
theorem spare_all (s : ByteArray) (p t : Nat) : onesF s p (8 * ((2 ^ t + 7) / 8)) = onesF s p (2 ^ t) ↔ spareF s p (8 - 2 ^ t) (2 ^ t) = true := by
  rcases pow_eight (t := t) with ⟨h1, h2⟩ | ⟨h1, h2⟩
  · rw [spare_iff, h2, show 2 ^ t + (8 - 2 ^ t) = 8 * 1 from by omega]
  · rw [h2, show 8 - 2 ^ t = 0 from by omega]; simp [spareF]

/-- A beginning of the bytes. -/
theorem byt_cut {s : ByteArray} {e k : Nat} (he : e ≤ s.size) (hk : k < e) : byt (s.extract 0 e) k = byt s k := by
  have := byt_extract (s := s) (i := 0) (n := e) (k := k) (by omega) hk
  rwa [Nat.zero_add, Nat.zero_add] at this
theorem b2_cut {s : ByteArray} {e p : Nat} (he : e ≤ s.size) (hp : p + 1 < e) : b2 (s.extract 0 e) p = b2 s p := by
  rw [b2, b2, byt_cut he (by omega), byt_cut he hp]
theorem sumF_cut {s : ByteArray} {e : Nat} (he : e ≤ s.size) : ∀ n, n ≤ e → sumF (s.extract 0 e) n = sumF s n
  | 0, _ => rfl
  | n + 1, h => by rw [sumF, sumF, sumF_cut he n (by omega), byt_cut he (by omega)]
theorem setF_cut {s : ByteArray} {e p j : Nat} (he : e ≤ s.size) (h : p + 1 + j / 8 < e) : setF (s.extract 0 e) p j = setF s p j := by
  unfold setF; rw [byt_cut he h]
theorem onesF_cut {s : ByteArray} {e p : Nat} (he : e ≤ s.size) : ∀ n, p + 1 + (n + 7) / 8 ≤ e → onesF (s.extract 0 e) p n = onesF s p n
  | 0, _ => rfl
  | n + 1, h => by rw [onesF, onesF, onesF_cut he n (by omega), setF_cut he (by omega)]
theorem spareF_cut {s : ByteArray} {e p : Nat} (he : e ≤ s.size) (h : p + 1 < e) : ∀ f j, j + f ≤ 8 ∨ f = 0 → spareF (s.extract 0 e) p f j = spareF s p f j
  | 0, _, _ => rfl
  | f + 1, j, hj => by
    rw [spareF, spareF, setF_cut he (by omega), spareF_cut he h f (j + 1) (by omega)]
theorem nodeF_cut {s : ByteArray} {e p b : Nat} (he : e ≤ s.size) : nodeF (s.extract 0 e) p e b = nodeF s p e b := by
  by_cases h1 : p < e
  · have ht := byt_cut he h1
    have hE : entF (s.extract 0 e) p = entF s p := by rw [entF, entF, ht]
    by_cases h2 : entF s p ≤ e
    · have hp : 0 < 2 ^ byt s p := Nat.pow_pos (by omega)
      have h3 : p + 1 + (2 ^ byt s p + 7) / 8 ≤ e := h2
      rw [nodeF, nodeF, hE, ht, setF_cut he (by omega), spareF_cut he (by omega) _ _ (by omega), onesF_cut he _ h3]
    · rw [nodeF, nodeF, hE, ht]; simp [h2]
  · rw [nodeF, nodeF]; simp [h1]
theorem all_congr {k : Nat} {f g : Nat → Bool} (h : ∀ i, i < k → f i = g i) : (List.range k).all f = (List.range k).all g := by
  rw [Bool.eq_iff_iff, List.all_eq_true, List.all_eq_true]
  constructor
  · intro a i hi; rw [← h i (List.mem_range.1 hi)]; exact a i hi
  · intro a i hi; rw [h i (List.mem_range.1 hi)]; exact a i hi
theorem goodF_cut {s : ByteArray} {e : Nat} (he : e ≤ s.size) : ∀ n p b, p + 1 < e → goodF (s.extract 0 e) e n p b = goodF s e n p b
  | 0, p, b, h => by rw [goodF, goodF, b2_cut he h]
  | n + 1, p, b, h => by
    rw [goodF, goodF, b2_cut he h]
    cases hn : nodeF s (p + b2 s p - 1000) e b with
    | false => rw [nodeF_cut he, hn]; simp
    | true =>
      have hn' := hn
      simp only [nodeF, Bool.and_eq_true, decide_eq_true_eq] at hn'
      obtain ⟨⟨⟨⟨⟨h1, h2⟩, h3⟩, _⟩, _⟩, h4⟩ := hn'
      rw [nodeF_cut he, hn, byt_cut he h1, onesF_cut he _ h3, show entF (s.extract 0 e) (p + b2 s p - 1000) = entF s (p + b2 s p - 1000) from by rw [entF, entF, byt_cut he h1]]
      congr 2
      refine all_congr fun i hi => ?_
      exact goodF_cut he n _ _ (by omega)
theorem nodeF_more {s : ByteArray} {p e e' b : Nat} (h : nodeF s p e b = true) (he : e ≤ e') : nodeF s p e' b = true := by
  simp only [nodeF, Bool.and_eq_true, decide_eq_true_eq] at h ⊢
  obtain ⟨⟨⟨⟨⟨h1, h2⟩, h3⟩, h5⟩, h6⟩, h4⟩ := h
  exact ⟨⟨⟨⟨⟨by omega, h2⟩, by omega⟩, h5⟩, h6⟩, by omega⟩
end Go.Proofs.YtdfnmpmmkcpddaaDoor
