import Derived.Test.YtdfnmpmmkcpddaaDoorQ24
import Derived.Test.YtdfnmpmmkcpddaaDoorQ14
import Derived.Test.YtdfnmpmmkcpddaaDoorQ20
import Derived.Test.YtdfnmpmmkcpddaaDoorQ02
/- What an entry of the program's image leads to, as plain bytes. -/
namespace Go.Proofs.YtdfnmpmmkcpddaaDoor

theorem ch_least {R : List Rt} (hS : ∀ r ∈ R, r.bits.size ≤ 12) : Least R (chF R) := by
  intro k b h
  obtain ⟨h1, h2⟩ := chF_bd R (k + 1) h
  obtain ⟨h3, h4⟩ := chF_cost hS (k := k) h
  exact ⟨h1, h2, h3, h4⟩

def o1 (n : Nat) : ByteArray := ⟨#[UInt8.ofNat n]⟩
/-- A number as two bytes. -/
def u2 (n : Nat) : ByteArray := o1 (n / 256) ++ o1 (n % 256)
theorem o1_size (n : Nat) : (o1 n).size = 1 := rfl
theorem u2_size (n : Nat) : (u2 n).size = 2 := rfl
/-- What an entry leads to: a hop, or a node's bytes; the nodes on the longest way. -/
structure Tg where
  h : Nat
  m : ByteArray
  d : Nat
/-- Slot j begins a run. -/
def begF (kid : Nat → Tg) : Nat → Prop
  | 0 => True
  | j + 1 => kid j ≠ kid (j + 1)
open Classical in
/-- One target for each run. -/
noncomputable def tsF (kid : Nat → Tg) : Nat → List Tg
  | 0 => []
  | j + 1 => if begF kid j then tsF kid j ++ [kid j] else tsF kid j
open Classical in
/-- Byte q of the runs, behind n slots. -/
noncomputable def runF (kid : Nat → Tg) : Nat → Nat → Nat
  | 0, _ => 0
  | n + 1, q => if begF kid n ∧ q = n / 8 then runF kid n q + 2 ^ (n % 8) else runF kid n q
noncomputable def runL (kid : Nat → Tg) (n z : Nat) : List Nat := (List.range z).map (runF kid n)
noncomputable def runB (kid : Nat → Tg) (n z : Nat) : ByteArray := ⟨((runL kid n z).map UInt8.ofNat).toArray⟩
/-- The nodes' bytes. -/
def layN : List Tg → ByteArray
  | [] => ⟨#[]⟩
  | x :: l => x.m ++ layN l
/-- Entry i. -/
def entV (l : List Tg) (i : Nat) : Nat := match l[i]? with
  | some x => if x.m.size = 0 then x.h else 1000 + (l.length - i) * 2 + (layN (l.take i)).size
  | none => 0
def entP (l : List Tg) : Nat → ByteArray
  | 0 => ⟨#[]⟩
  | i + 1 => entP l i ++ u2 (entV l i)
def layF (l : List Tg) : ByteArray := entP l l.length ++ layN l
def maxD (kid : Nat → Tg) (n : Nat) : Nat := maxN (fun j => (kid j).d) n
noncomputable def mkNode (s : Nat) (kid : Nat → Tg) : Tg := ⟨0, o1 s ++ runB kid (2 ^ s) ((2 ^ s + 7) / 8) ++ layF (tsF kid (2 ^ s)), maxD kid (2 ^ s) + 1⟩
def leafG (R : List Rt) (b : ByteArray) : Tg := ⟨(bestF b R).2, ⟨#[]⟩, 0⟩
noncomputable def tgF (R : List Rt) : Nat → ByteArray → Tg
  | 0, b => leafG R b
  | k + 1, b => if heightF R b = 0 then leafG R b else mkNode (chF R (k + 1) b) fun j => tgF R k (kidB b (chF R (k + 1) b) j)
/-- The image. -/
noncomputable def bodyF (R : List Rt) (W D : Nat) : ByteArray := ⟨#[70, 73]⟩ ++ o1 W ++ o1 (tgF R D ⟨#[]⟩).d ++ u2 (6 + (layF [tgF R D ⟨#[]⟩]).size + 2) ++ layF [tgF R D ⟨#[]⟩]
noncomputable def cF (R : List Rt) (W D : Nat) : ByteArray := bodyF R W D ++ u2 (sumF (bodyF R W D) (bodyF R W D).size)

theorem tsF_yes {kid : Nat → Tg} {j : Nat} (h : begF kid j) : tsF kid (j + 1) = tsF kid j ++ [kid j] := by rw [tsF, if_pos h]
theorem tsF_no {kid : Nat → Tg} {j : Nat} (h : ¬ begF kid j) : tsF kid (j + 1) = tsF kid j := by rw [tsF, if_neg h]
theorem ts_last {kid : Nat → Tg} : ∀ j, (tsF kid (j + 1)).getLast? = some (kid j)
  | 0 => by rw [tsF_yes (show begF kid 0 from trivial)]; rfl
  | j + 1 => by
    by_cases h : begF kid (j + 1)
    · rw [tsF_yes h]; simp
    · rw [tsF_no h, ts_last j]
      have : kid j = kid (j + 1) := Classical.byContradiction h
      rw [this]
theorem ts_len {kid : Nat → Tg} : ∀ n, (tsF kid n).length ≤ n
  | 0 => Nat.le_refl _
  | n + 1 => by
    have := ts_len (kid := kid) n
    rw [tsF]; split
    · simp; omega
    · omega
theorem ts_pos {kid : Nat → Tg} (j : Nat) : 1 ≤ (tsF kid (j + 1)).length := by
  have := ts_last (kid := kid) j
  cases h : tsF kid (j + 1) with
  | nil => rw [h] at this; simp at this
  | cons x l => simp
theorem ts_pre {kid : Nat → Tg} {j : Nat} : ∀ {n : Nat}, j ≤ n → tsF kid j <+: tsF kid n
  | 0, h => by rw [show j = 0 from by omega]; exact List.prefix_refl _
  | n + 1, h => by
    by_cases e : j = n + 1
    · rw [e]; exact List.prefix_refl _
    · refine (ts_pre (show j ≤ n by omega)).trans ?_
      rw [tsF]; split
      · exact List.prefix_append _ _
      · exact List.prefix_refl _
/-- Slot j's entry. -/
theorem ts_at {kid : Nat → Tg} {n j : Nat} (h : j < n) : (tsF kid n)[(tsF kid (j + 1)).length - 1]? = some (kid j) := by
  obtain ⟨t, ht⟩ := ts_pre (kid := kid) (show j + 1 ≤ n by omega)
  have h1 := ts_pos (kid := kid) j
  have h2 := ts_last (kid := kid) j
  rw [List.getLast?_eq_getElem?] at h2
  rw [← ht, List.getElem?_append_left (by omega), h2]

theorem run_yes {kid : Nat → Tg} {n : Nat} (h : begF kid n) : runF kid (n + 1) (n / 8) = runF kid n (n / 8) + 2 ^ (n % 8) := by rw [runF, if_pos ⟨h, rfl⟩]
theorem run_else {kid : Nat → Tg} {n q : Nat} (h : ¬ (begF kid n ∧ q = n / 8)) : runF kid (n + 1) q = runF kid n q := by rw [runF, if_neg h]
/-- A byte of the runs has only bits of slots that came. -/
theorem run_lt {kid : Nat → Tg} : ∀ n q, runF kid n q < 2 ^ (min 8 (n - 8 * q))
  | 0, q => by simp [runF]
  | n + 1, q => by
    have ih := run_lt (kid := kid) n q
    rw [runF]
    split
    · rename_i h
      obtain ⟨_, rfl⟩ := h
      rw [show min 8 (n - 8 * (n / 8)) = n % 8 from by omega] at ih
      rw [show min 8 (n + 1 - 8 * (n / 8)) = n % 8 + 1 from by omega, Nat.pow_succ]
      omega
    · exact Nat.lt_of_lt_of_le ih (Nat.pow_le_pow_right (by omega) (by omega))
theorem run_now {kid : Nat → Tg} (n : Nat) : runF kid n (n / 8) < 2 ^ (n % 8) := by
  have := run_lt (kid := kid) n (n / 8)
  rwa [show min 8 (n - 8 * (n / 8)) = n % 8 from by omega] at this
theorem run_256 {kid : Nat → Tg} (n q : Nat) : runF kid n q < 256 :=
  Nat.lt_of_lt_of_le (run_lt n q) (by have : 2 ^ min 8 (n - 8 * q) ≤ 2 ^ 8 := Nat.pow_le_pow_right (by omega) (by omega); simpa using this)
theorem bit_low {a p t : Nat} (h : t < p) : (a + 2 ^ p) / 2 ^ t % 2 = a / 2 ^ t % 2 := by
  obtain ⟨d, rfl⟩ : ∃ d, p = t + (d + 1) := ⟨p - t - 1, by omega⟩
  rw [Nat.pow_add, Nat.add_mul_div_left _ _ (Nat.pow_pos (by omega)), Nat.pow_succ]
  omega
theorem bit_at {a p : Nat} (h : a < 2 ^ p) : (a + 2 ^ p) / 2 ^ p % 2 = 1 := by
  rw [Nat.add_div_right _ (Nat.pow_pos (by omega)), Nat.div_eq_of_lt h]
/-- Its bits are the runs' beginnings. -/
theorem run_bit {kid : Nat → Tg} : ∀ n j, runF kid n (j / 8) / 2 ^ (j % 8) % 2 = 1 ↔ j < n ∧ begF kid j
  | 0, j => by simp [runF]
  | n + 1, j => by
    have ih := run_bit (kid := kid) n j
    by_cases hj : j = n
    · subst hj
      have hlt := run_now (kid := kid) j
      by_cases hb : begF kid j
      · rw [run_yes hb, bit_at hlt]; simp [hb]
      · rw [run_else (fun h => hb h.1), ih]; simp [hb]
    · rw [runF]
      split
      · rename_i h
        obtain ⟨_, hq⟩ := h
        by_cases hlt : j < n
        · rw [hq] at ih ⊢
          rw [bit_low (by omega), ih]
          constructor
          · rintro ⟨_, h⟩; exact ⟨by omega, h⟩
          · rintro ⟨_, h⟩; exact ⟨hlt, h⟩
        · have h1 := run_now (kid := kid) n
          have hm : n % 8 + 1 ≤ j % 8 := by omega
          have h2 : 2 ^ (n % 8 + 1) ≤ 2 ^ (j % 8) := Nat.pow_le_pow_right (by omega) hm
          rw [hq, Nat.div_eq_of_lt (by rw [Nat.pow_succ] at h2; omega)]
          constructor
          · intro h; simp at h
          · rintro ⟨h, _⟩; omega
      · rw [ih]
        constructor
        · rintro ⟨_, h⟩; exact ⟨by omega, h⟩
        · rintro ⟨_, h⟩; exact ⟨by omega, h⟩
theorem runB_size (kid : Nat → Tg) (n z : Nat) : (runB kid n z).size = z := by
  show ((runL kid n z).map UInt8.ofNat).toArray.size = z
  simp [runL]
end Go.Proofs.YtdfnmpmmkcpddaaDoor
/- The plain functions of images: as the program reads them; and a part of an image. -/
namespace Go.Proofs.YtdfnmpmmkcpddaaDoor

/-- The byte at a place, 0 outside; the number of two. -/
def bz (s : ByteArray) (p : Nat) : Nat := if p < s.size then byt s p else 0
def nz (s : ByteArray) (p : Nat) : Nat := 256 * bz s p + bz s (p + 1)
/-- How many of the first n bits are 1. -/
def crF (r : ByteArray) : Nat → Nat
  | 0 => 0
  | j + 1 => crF r j + bz r (j / 8) / 2 ^ (j % 8) % 2

theorem bz_in {s : ByteArray} {p : Nat} (h : p < s.size) : bz s p = byt s p := by simp [bz, h]
theorem bz_out {s : ByteArray} {p : Nat} (h : ¬ p < s.size) : bz s p = 0 := by simp [bz, h]
theorem bz_lt (s : ByteArray) (p : Nat) : bz s p < 256 := by
  unfold bz; split
  · rename_i h; rw [byt_in h]; exact (s[p]'h).toNat_lt
  · omega
theorem nz_in {s : ByteArray} {p : Nat} (h : p + 1 < s.size) : nz s p = b2 s p := by
  rw [nz, b2, bz_in (by omega), bz_in h]
theorem nz_le (s : ByteArray) (p : Nat) : nz s p ≤ 65535 := by
  have := bz_lt s p
  have := bz_lt s (p + 1)
  unfold nz; omega
theorem crF_le (r : ByteArray) : ∀ n, crF r n ≤ n
  | 0 => Nat.le_refl _
  | n + 1 => by have := crF_le r n; unfold crF; omega

theorem crF_ones {s : ByteArray} {p m : Nat} (h : p + 1 + m ≤ s.size) : ∀ n, n ≤ 8 * m → crF (s.extract (p + 1) (p + 1 + m)) n = onesF s p n
  | 0, _ => rfl
  | j + 1, hj => by
    have hlt : j / 8 < m := by omega
    have hsz : (s.extract (p + 1) (p + 1 + m)).size = m := by rw [ByteArray.size_extract]; omega
    rw [crF, onesF, crF_ones h j (by omega), bz_in (by rw [hsz]; exact hlt), byt_extract h hlt]
    unfold setF
    simp only [decide_eq_true_eq]
    split <;> omega
theorem ones_one (s : ByteArray) (p : Nat) : onesF s p 1 = if setF s p 0 = true then 1 else 0 := by
  simp [onesF]

theorem spare_iff (s : ByteArray) (p : Nat) : ∀ f j, spareF s p f j = true ↔ onesF s p (j + f) = onesF s p j
  | 0, j => by simp [spareF]
  | f + 1, j => by
    have h1 := onesF_mono s p (show j + 1 ≤ j + 1 + f by omega)
    have h2 := spare_iff s p f (j + 1)
    rw [spareF, show j + (f + 1) = j + 1 + f from by omega]
    by_cases h : setF s p j = true
    · rw [if_pos h]
      rw [onesF, if_pos h] at h1
      simp; omega
    · rw [if_neg h, h2]
      rw [show onesF s p (j + 1) = onesF s p j from by rw [onesF, if_neg h]]
theorem pow_eight {t : Nat} : 2 ^ t < 8 ∧ (2 ^ t + 7) / 8 = 1 ∨ 8 ≤ 2 ^ t ∧ 8 * ((2 ^ t + 7) / 8) = 2 ^ t := by
  by_cases h : t < 3
  · left
    have : t = 0 ∨ t = 1 ∨ t = 2 := by omega
    rcases this with rfl | rfl | rfl <;> simp
  · right
    obtain ⟨k, rfl⟩ : ∃ k, t = k + 3 := ⟨t - 3, by omega⟩
    have : 0 < 2 ^ k := Nat.pow_pos (by omega)
    rw [Nat.pow_add, show 2 ^ 3 = 8 from rfl]
    omega
theorem spare_all (s : ByteArray) (p t : Nat) : onesF s p (8 * ((2 ^ t + 7) / 8)) = onesF s p (2 ^ t) ↔ spareF s p (8 - 2 ^ t) (2 ^ t) = true := by
  rcases pow_eight (t := t) with ⟨h1, h2⟩ | ⟨h1, h2⟩
  · rw [spare_iff, h2, show 2 ^ t + (8 - 2 ^ t) = 8 * 1 from by omega]
  · rw [h2, show 8 - 2 ^ t = 0 from by omega]; simp [spareF]

/-- A beginning of the bytes. -/
theorem byt_cut {s : ByteArray} {e k : Nat} (he : e ≤ s.size) (hk : k < e) : byt (s.extract 0 e) k = byt s k := by
  have := byt_extract (s := s) (i := 0) (n := e) (k := k) (by omega) hk
  rwa [Nat.zero_add, Nat.zero_add] at this
theorem b2_cut {s : ByteArray} {e p : Nat} (he : e ≤ s.size) (hp : p + 1 < e) : b2 (s.extract 0 e) p = b2 s p := by
  rw [b2, b2, byt_cut he (by omega), byt_cut he hp]
theorem sumF_cut {s : ByteArray} {e : Nat} (he : e ≤ s.size) : ∀ n, n ≤ e → sumF (s.extract 0 e) n = sumF s n
  | 0, _ => rfl
  | n + 1, h => by rw [sumF, sumF, sumF_cut he n (by omega), byt_cut he (by omega)]
theorem setF_cut {s : ByteArray} {e p j : Nat} (he : e ≤ s.size) (h : p + 1 + j / 8 < e) : setF (s.extract 0 e) p j = setF s p j := by
  unfold setF; rw [byt_cut he h]
theorem onesF_cut {s : ByteArray} {e p : Nat} (he : e ≤ s.size) : ∀ n, p + 1 + (n + 7) / 8 ≤ e → onesF (s.extract 0 e) p n = onesF s p n
  | 0, _ => rfl
  | n + 1, h => by rw [onesF, onesF, onesF_cut he n (by omega), setF_cut he (by omega)]
theorem spareF_cut {s : ByteArray} {e p : Nat} (he : e ≤ s.size) (h : p + 1 < e) : ∀ f j, j + f ≤ 8 ∨ f = 0 → spareF (s.extract 0 e) p f j = spareF s p f j
  | 0, _, _ => rfl
  | f + 1, j, hj => by
    rw [spareF, spareF, setF_cut he (by omega), spareF_cut he h f (j + 1) (by omega)]
theorem nodeF_cut {s : ByteArray} {e p b : Nat} (he : e ≤ s.size) : nodeF (s.extract 0 e) p e b = nodeF s p e b := by
  by_cases h1 : p < e
  · have ht := byt_cut he h1
    have hE : entF (s.extract 0 e) p = entF s p := by rw [entF, entF, ht]
    by_cases h2 : entF s p ≤ e
    · have hp : 0 < 2 ^ byt s p := Nat.pow_pos (by omega)
      have h3 : p + 1 + (2 ^ byt s p + 7) / 8 ≤ e := h2
      rw [nodeF, nodeF, hE, ht, setF_cut he (by omega), spareF_cut he (by omega) _ _ (by omega), onesF_cut he _ h3]
    · rw [nodeF, nodeF, hE, ht]; simp [h2]
  · rw [nodeF, nodeF]; simp [h1]
theorem all_congr {k : Nat} {f g : Nat → Bool} (h : ∀ i, i < k → f i = g i) : (List.range k).all f = (List.range k).all g := by
  rw [Bool.eq_iff_iff, List.all_eq_true, List.all_eq_true]
  constructor
  · intro a i hi; rw [← h i (List.mem_range.1 hi)]; exact a i hi
  · intro a i hi; rw [h i (List.mem_range.1 hi)]; exact a i hi
theorem goodF_cut {s : ByteArray} {e : Nat} (he : e ≤ s.size) : ∀ n p b, p + 1 < e → goodF (s.extract 0 e) e n p b = goodF s e n p b
  | 0, p, b, h => by rw [goodF, goodF, b2_cut he h]
  | n + 1, p, b, h => by
    rw [goodF, goodF, b2_cut he h]
    cases hn : nodeF s (p + b2 s p - 1000) e b with
    | false => rw [nodeF_cut he, hn]; simp
    | true =>
      have hn' := hn
      simp only [nodeF, Bool.and_eq_true, decide_eq_true_eq] at hn'
      obtain ⟨⟨⟨⟨⟨h1, h2⟩, h3⟩, _⟩, _⟩, h4⟩ := hn'
      rw [nodeF_cut he, hn, byt_cut he h1, onesF_cut he _ h3, show entF (s.extract 0 e) (p + b2 s p - 1000) = entF s (p + b2 s p - 1000) from by rw [entF, entF, byt_cut he h1]]
      congr 2
      refine all_congr fun i hi => ?_
      exact goodF_cut he n _ _ (by omega)
theorem nodeF_more {s : ByteArray} {p e e' b : Nat} (h : nodeF s p e b = true) (he : e ≤ e') : nodeF s p e' b = true := by
  simp only [nodeF, Bool.and_eq_true, decide_eq_true_eq] at h ⊢
  obtain ⟨⟨⟨⟨⟨h1, h2⟩, h3⟩, h5⟩, h6⟩, h4⟩ := h
  exact ⟨⟨⟨⟨⟨by omega, h2⟩, by omega⟩, h5⟩, h6⟩, by omega⟩
end Go.Proofs.YtdfnmpmmkcpddaaDoor
/- Bytes that lie in an image: the program's image holds the table's tree. -/
namespace Go.Proofs.YtdfnmpmmkcpddaaDoor

theorem byt_left {a b : ByteArray} {k : Nat} (h : k < a.size) : byt (a ++ b) k = byt a k := by
  rw [byt_list, byt_list, ByteArray.data_append, Array.toList_append, List.getElem?_append_left (by exact h)]
theorem byt_rest (a b : ByteArray) (k : Nat) : byt (a ++ b) (a.size + k) = byt b k := by
  have hl : a.data.toList.length = a.size := rfl
  rw [byt_list, byt_list, ByteArray.data_append, Array.toList_append, List.getElem?_append_right (by rw [hl]; omega), hl, Nat.add_sub_cancel_left]
/-- The bytes x lie in m at p. -/
def At (m : ByteArray) (p : Nat) (x : ByteArray) : Prop := ∀ i, i < x.size → byt m (p + i) = byt x i
theorem At.left {m x y : ByteArray} {p : Nat} (h : At m p (x ++ y)) : At m p x := fun i hi => by
  rw [h i (by rw [ByteArray.size_append]; omega), byt_left hi]
theorem At.right {m x y : ByteArray} {p : Nat} (h : At m p (x ++ y)) : At m (p + x.size) y := fun i hi => by
  rw [Nat.add_assoc, h (x.size + i) (by rw [ByteArray.size_append]; omega), byt_rest]
theorem At.self (m : ByteArray) : At m 0 m := fun i _ => by rw [Nat.zero_add]
theorem At.more {m x : ByteArray} {p : Nat} (h : At m p x) (hp : p + x.size ≤ m.size) (y : ByteArray) : At (m ++ y) p x := fun i hi => by
  rw [byt_left (by omega)]; exact h i hi
theorem byt_o1 {n : Nat} (h : n < 256) : byt (o1 n) 0 = n := by
  rw [byt_in (by rw [o1_size]; omega)]
  show (UInt8.ofNat n).toNat = n
  simp; omega
theorem At.one {m : ByteArray} {p n : Nat} (h : At m p (o1 n)) (hn : n < 256) : byt m p = n := by
  have := h 0 (by rw [o1_size]; omega)
  rwa [byt_o1 hn] at this
theorem At.two {m : ByteArray} {p n : Nat} (h : At m p (u2 n)) (hn : n < 65536) : b2 m p = n := by
  have h1 := At.one (At.left h) (by omega)
  have h2 := At.one (At.right h) (by omega)
  rw [o1_size] at h2
  unfold b2; rw [h1, h2]; omega

theorem layN_app : ∀ l l' : List Tg, layN (l ++ l') = layN l ++ layN l'
  | [], l' => by simp only [List.nil_append, layN]; exact ba_ext (by simp [ByteArray.data_append])
  | x :: l, l' => by rw [List.cons_append, layN, layN, layN_app l l', ByteArray.append_assoc]
theorem entP_size (l : List Tg) : ∀ i, (entP l i).size = 2 * i
  | 0 => rfl
  | i + 1 => by rw [entP, ByteArray.size_append, entP_size l i, u2_size]; omega
theorem layF_size (l : List Tg) : (layF l).size = 2 * l.length + (layN l).size := by rw [layF, ByteArray.size_append, entP_size]
theorem At.ent {m : ByteArray} {P : Nat} {l : List Tg} {i : Nat} : ∀ {n : Nat}, At m P (entP l n) → i < n → At m (P + 2 * i) (u2 (entV l i))
  | 0, _, h => by omega
  | n + 1, h, hi => by
    rw [entP] at h
    by_cases e : i = n
    · have := At.right h
      rw [entP_size] at this
      rw [e]; exact this
    · exact At.ent (At.left h) (by omega)
theorem layN_at {l : List Tg} {i : Nat} {x : Tg} (h : l[i]? = some x) : layN l = layN (l.take i) ++ (x.m ++ layN (l.drop (i + 1))) := by
  obtain ⟨hi, e⟩ := List.getElem?_eq_some_iff.1 h
  have : l = l.take i ++ x :: l.drop (i + 1) := by rw [← e, List.getElem_cons_drop, List.take_append_drop]
  conv => lhs; rw [this]
  rw [layN_app, layN]
/-- The entry at p holds a target. -/
def Holds (m : ByteArray) (e p : Nat) (x : Tg) : Prop := if x.m.size = 0 then b2 m p = x.h else ∃ q, p + 2 ≤ q ∧ b2 m p = 1000 + (q - p) ∧ At m q x.m ∧ q + x.m.size ≤ e
theorem lay_holds {m : ByteArray} {e P : Nat} {l : List Tg} (h : At m P (layF l)) (he : P + (layF l).size ≤ e) (hb : (layF l).size ≤ 60000) (hh : ∀ x ∈ l, x.h ≤ 250) {i : Nat} {x : Tg} (hi : l[i]? = some x) : Holds m e (P + 2 * i) x := by
  obtain ⟨hil, ex⟩ := List.getElem?_eq_some_iff.1 hi
  have hx := hh x (by rw [← ex]; exact List.getElem_mem hil)
  have h1 := At.ent (i := i) (At.left h) hil
  have h2 := At.right h
  rw [layN_at hi] at h2
  have h3 := At.left (At.right h2)
  have hsz := layF_size l
  rw [layN_at hi, ByteArray.size_append, ByteArray.size_append] at hsz
  rw [entP_size] at h3
  unfold Holds
  have hv : entV l i = if x.m.size = 0 then x.h else 1000 + (l.length - i) * 2 + (layN (l.take i)).size := by unfold entV; rw [hi]
  split
  · rename_i h0
    rw [if_pos h0] at hv
    rw [hv] at h1
    exact At.two h1 (by omega)
  · rename_i h0
    rw [if_neg h0] at hv
    rw [hv] at h1
    refine ⟨P + 2 * l.length + (layN (l.take i)).size, by omega, ?_, h3, by omega⟩
    rw [At.two h1 (by omega)]
    omega

theorem byt_run {kid : Nat → Tg} {n z q : Nat} (h : q < z) : byt (runB kid n z) q = runF kid n q := by
  have e : (runB kid n z).data.toList[q]? = some (UInt8.ofNat (runF kid n q)) := by
    show ((runL kid n z).map UInt8.ofNat).toArray.toList[q]? = _
    simp [runL, h]
  rw [byt_list, e]
  have := run_256 (kid := kid) n q
  simp; omega
/-- The runs' bits in the image. -/
theorem set_run {m : ByteArray} {kid : Nat → Tg} {q n z j : Nat} (h : At m (q + 1) (runB kid n z)) (hj : j / 8 < z) : setF m q j = true ↔ j < n ∧ begF kid j := by
  unfold setF
  rw [decide_eq_true_eq, h (j / 8) (by rw [runB_size]; exact hj), byt_run hj, run_bit]
theorem ones_ts {m : ByteArray} {kid : Nat → Tg} {q n z : Nat} (h : At m (q + 1) (runB kid n z)) : ∀ j, j ≤ n → j ≤ 8 * z → onesF m q j = (tsF kid j).length
  | 0, _, _ => rfl
  | j + 1, h1, h2 => by
    have ih := ones_ts h j (by omega) (by omega)
    have hs := set_run h (j := j) (by omega)
    rw [onesF, tsF, ih]
    by_cases hb : begF kid j
    · rw [if_pos (hs.2 ⟨by omega, hb⟩), if_pos hb]; simp
    · rw [if_neg (fun e => hb (hs.1 e).2), if_neg hb]
theorem spare_run {m : ByteArray} {kid : Nat → Tg} {q n z : Nat} (h : At m (q + 1) (runB kid n z)) : ∀ f j, n ≤ j → j + f ≤ 8 * z → spareF m q f j = true
  | 0, _, _, _ => rfl
  | f + 1, j, h1, h2 => by
    have hs := set_run h (j := j) (by omega)
    rw [spareF, if_neg (fun e => by have := (hs.1 e).1; omega)]
    exact spare_run h f (j + 1) (by omega) (by omega)

theorem ts_mem {kid : Nat → Tg} {x : Tg} : ∀ {n : Nat}, x ∈ tsF kid n → ∃ j, j < n ∧ x = kid j
  | 0, h => by simp [tsF] at h
  | n + 1, h => by
    by_cases hb : begF kid n
    · rw [tsF_yes hb] at h
      rcases List.mem_append.1 h with h | h
      · obtain ⟨j, h1, h2⟩ := ts_mem h
        exact ⟨j, by omega, h2⟩
      · exact ⟨n, by omega, List.mem_singleton.1 h⟩
    · rw [tsF_no hb] at h
      obtain ⟨j, h1, h2⟩ := ts_mem h
      exact ⟨j, by omega, h2⟩
theorem ts_bytes {kid : Nat → Tg} : ∀ n, 2 * (tsF kid n).length + (layN (tsF kid n)).size ≤ 2 * n + sumN (fun j => (kid j).m.size) n
  | 0 => Nat.zero_le _
  | n + 1 => by
    have ih := ts_bytes (kid := kid) n
    rw [sumN]
    by_cases hb : begF kid n
    · have e : (layN [kid n]).size = (kid n).m.size := by simp only [layN, ByteArray.size_append]; rfl
      rw [tsF_yes hb, layN_app, ByteArray.size_append, List.length_append, e]
      simp only [List.length_cons, List.length_nil]
      omega
    · rw [tsF_no hb]; omega
theorem sumN_mono {g f : Nat → Nat} : ∀ {n : Nat}, (∀ j, j < n → g j ≤ f j) → sumN g n ≤ sumN f n
  | 0, _ => Nat.le_refl _
  | n + 1, h => by
    have h1 := sumN_mono (g := g) (f := f) (n := n) fun j hj => h j (by omega)
    have h2 := h n (by omega)
    rw [sumN, sumN]; omega
theorem mkNode_size (s : Nat) (kid : Nat → Tg) : (mkNode s kid).m.size = 1 + (2 ^ s + 7) / 8 + (layF (tsF kid (2 ^ s))).size := by
  show (o1 s ++ runB kid (2 ^ s) ((2 ^ s + 7) / 8) ++ layF (tsF kid (2 ^ s))).size = _
  rw [ByteArray.size_append, ByteArray.size_append, o1_size, runB_size]
theorem tg_bytes {R : List Rt} : ∀ k b, (tgF R k b).m.size ≤ bytesT (treeF R (chF R) k b)
  | 0, b => Nat.zero_le _
  | k + 1, b => by
    by_cases h : heightF R b = 0
    · rw [tgF, if_pos h]; exact Nat.zero_le _
    · rw [tgF, if_neg h, treeF, if_neg h, mkNode_size, layF_size, bytesT]
      have h1 := ts_bytes (kid := fun j => tgF R k (kidB b (chF R (k + 1) b) j)) (2 ^ chF R (k + 1) b)
      have h2 := sumN_mono (n := 2 ^ chF R (k + 1) b) (g := fun j => (tgF R k (kidB b (chF R (k + 1) b) j)).m.size) (f := fun j => bytesT (treeF R (chF R) k (kidB b (chF R (k + 1) b) j))) fun j _ => tg_bytes k _
      omega
theorem tg_depth {R : List Rt} : ∀ k b, (tgF R k b).d = depthT (treeF R (chF R) k b)
  | 0, b => rfl
  | k + 1, b => by
    by_cases h : heightF R b = 0
    · rw [tgF, if_pos h, treeF, if_pos h]; rfl
    · rw [tgF, if_neg h, treeF, if_neg h, depthT]
      show maxN (fun j => (tgF R k (kidB b (chF R (k + 1) b) j)).d) (2 ^ chF R (k + 1) b) + 1 = _
      rw [show (fun j => (tgF R k (kidB b (chF R (k + 1) b) j)).d) = fun j => depthT (treeF R (chF R) k (kidB b (chF R (k + 1) b) j)) from funext fun j => tg_depth k _]
theorem tg_hop {R : List Rt} (hH : ∀ r ∈ R, r.hop ≤ 250) : ∀ k b, (tgF R k b).h ≤ 250
  | 0, b => best_hop hH b
  | k + 1, b => by
    by_cases h : heightF R b = 0
    · rw [tgF, if_pos h]; exact best_hop hH b
    · rw [tgF, if_neg h]; exact Nat.zero_le _
/-- No node takes more than 5 * 4096 bytes. -/
theorem tg_small {R : List Rt} (hB : Bits R) (hS : ∀ r ∈ R, r.bits.size ≤ 12) (hH : ∀ r ∈ R, r.hop ≤ 250) (k : Nat) (b : ByteArray) : (tgF R k b).m.size ≤ 20480 := by
  have h1 := tg_bytes (R := R) k b
  have hL := ch_least hS
  by_cases h : heightF R b = 0 ∨ k = 0
  · have : bytesT (treeF R (chF R) k b) = 0 := by
      rcases h with h | h
      · rw [treeF_leaf h]; rfl
      · subst h; rfl
    omega
  · have h2 := bytes_slots _ _ _ (tree_fit hS hH hL k b)
    have h3 := tree_slots hB hL k b (by omega) (by omega)
    have h4 := cost_bd hS k b (by omega) (by omega)
    omega
/-- An entry that holds a target holds the tree. -/
theorem tg_enc {R : List Rt} (hB : Bits R) (hS : ∀ r ∈ R, r.bits.size ≤ 12) (hH : ∀ r ∈ R, r.hop ≤ 250) {m : ByteArray} {e : Nat} : ∀ k b p, Holds m e p (tgF R k b) → Enc m e (treeF R (chF R) k b) p
  | 0, b, p, h => h
  | k + 1, b, p, h => by
    have hsm := tg_small hB hS hH (k + 1) b
    by_cases h0 : heightF R b = 0
    · rw [treeF_leaf h0]
      rw [tgF, if_pos h0] at h
      exact h
    · have hch := chF_bd R (k + 1) (b := b) (by omega)
      have hh := heightF_le (b := b) hS
      rw [tgF, if_neg h0] at h hsm
      rw [treeF, if_neg h0]
      obtain ⟨s, hs⟩ : ∃ s, chF R (k + 1) b = s := ⟨_, rfl⟩
      rw [hs] at h hsm hch ⊢
      obtain ⟨kid, hk⟩ : ∃ kid, (fun j => tgF R k (kidB b s j)) = kid := ⟨_, rfl⟩
      have hkid : ∀ j, kid j = tgF R k (kidB b s j) := fun j => by rw [← hk]
      rw [hk] at h hsm
      clear hk
      have hsz := mkNode_size s kid
      have hp1 : 1 ≤ 2 ^ s := Nat.pow_pos (by omega)
      unfold Holds at h
      rw [if_neg (by omega)] at h
      obtain ⟨q, h1, h2, h3, h4⟩ := h
      have e1 : p + b2 m p - 1000 = q := by omega
      have a1 : At m q (o1 s) := At.left (At.left h3)
      have a2 : At m (q + 1) (runB kid (2 ^ s) ((2 ^ s + 7) / 8)) := At.right (At.left h3)
      have a3 := At.right h3
      rw [ByteArray.size_append, o1_size, runB_size] at a3
      have b1 := At.one a1 (by omega)
      have hpe := pow_eight (t := s)
      have h8 : 2 ^ s ≤ 8 * ((2 ^ s + 7) / 8) := by omega
      have hones := fun j (hj : j ≤ 2 ^ s) => ones_ts a2 j hj (by omega)
      have hent : entF m q = q + 1 + (2 ^ s + 7) / 8 := by unfold entF; rw [b1]
      have hls := layF_size (tsF kid (2 ^ s))
      show _ ∧ _ ∧ _ ∧ _
      rw [e1]
      refine ⟨by omega, b1, ?_, fun j hj => ?_⟩
      · unfold nodeF
        rw [b1, hent, hones _ (Nat.le_refl _)]
        simp only [Bool.and_eq_true, decide_eq_true_eq]
        refine ⟨⟨⟨⟨⟨by omega, by omega, Nat.le_refl _⟩, by omega⟩, (set_run a2 (by omega)).2 ⟨by omega, trivial⟩⟩, ?_⟩, by omega⟩
        refine spare_run a2 _ _ (Nat.le_refl _) ?_
        omega
      · rw [hent, hones _ (by omega)]
        have := lay_holds (e := e) (l := tsF kid (2 ^ s)) (P := q + (1 + (2 ^ s + 7) / 8)) a3 (by omega) (by omega) (fun x hx => by
          obtain ⟨i, _, rfl⟩ := ts_mem hx
          rw [hkid]; exact tg_hop hH k _) (ts_at hj)
        rw [hkid] at this
        rw [← Nat.add_assoc] at this
        exact tg_enc hB hS hH k _ _ this
end Go.Proofs.YtdfnmpmmkcpddaaDoor
