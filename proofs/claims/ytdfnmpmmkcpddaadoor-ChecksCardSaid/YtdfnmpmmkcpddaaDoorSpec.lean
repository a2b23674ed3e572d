/- The plain functions: what a table's text is, read line by line. No Go in sight. -/
import GoSem.Claim
namespace Go.Proofs.YtdfnmpmmkcpddaaDoor

/-- The byte at place k; 256 where there is none. -/
def byt (s : ByteArray) (k : Nat) : Nat := if h : k < s.size then (s[k]'h).toNat else 256

theorem byt_in {s : ByteArray} {k : Nat} (h : k < s.size) : byt s k = (s[k]'h).toNat := by simp [byt, h]
theorem byt_out {s : ByteArray} {k : Nat} (h : ¬ k < s.size) : byt s k = 256 := by simp [byt, h]
theorem byt_le (s : ByteArray) (k : Nat) : byt s k ≤ 256 := by
  unfold byt; split
  · rename_i h; have := (s[k]'h).toNat_lt; omega
  · omega
theorem byt_lt_size {s : ByteArray} {k : Nat} (h : byt s k < 256) : k < s.size := by
  by_cases hk : k < s.size
  · exact hk
  · rw [byt_out hk] at h; omega

/-- How many digits 0 and 1 stand from p on, w at most. -/
def nbits (s : ByteArray) : Nat → Nat → Nat
  | 0, _ => 0
  | w + 1, p => if byt s p = 48 ∨ byt s p = 49 then nbits s w (p + 1) + 1 else 0

/-- The hop at p: the digits as long as they are a hop; the place behind. -/
def hopGo (s : ByteArray) : Nat → Nat → Nat → Nat × Nat
  | 0, n, p => (n, p)
  | f + 1, n, p => if 48 ≤ byt s p ∧ byt s p ≤ 57 ∧ 1 ≤ 10 * n + (byt s p - 48) ∧ 10 * n + (byt s p - 48) ≤ 250 then hopGo s f (10 * n + (byt s p - 48)) (p + 1) else (n, p)

theorem nbits_le (s : ByteArray) : ∀ (w p : Nat), nbits s w p ≤ w
  | 0, _ => Nat.le_refl _
  | w + 1, p => by
    unfold nbits; split
    · have := nbits_le s w (p + 1); omega
    · omega
theorem nbits_end (s : ByteArray) : ∀ (w p : Nat), p ≤ s.size → p + nbits s w p ≤ s.size
  | 0, _, h => by simpa [nbits] using h
  | w + 1, p, h => by
    unfold nbits; split
    · have hp : p < s.size := byt_lt_size (by omega)
      have := nbits_end s w (p + 1) (by omega); omega
    · omega
theorem hopGo_end (s : ByteArray) : ∀ (f n p : Nat), p ≤ s.size → (hopGo s f n p).2 ≤ s.size ∧ p ≤ (hopGo s f n p).2
  | 0, _, _, h => by simp only [hopGo]; omega
  | f + 1, n, p, h => by
    unfold hopGo; split
    · have hp : p < s.size := byt_lt_size (by omega)
      have := hopGo_end s f (10 * n + (byt s p - 48)) (p + 1) (by omega); omega
    · simp only []; omega
theorem hopGo_le (s : ByteArray) : ∀ (f n p : Nat), n ≤ 250 → (hopGo s f n p).1 ≤ 250
  | 0, _, _, h => by simpa [hopGo] using h
  | f + 1, n, p, h => by
    unfold hopGo; split
    · rename_i hc; exact hopGo_le s f _ _ hc.2.2.2
    · exact h

/-- A route: its bits, its hop. -/
structure Rt where
  bits : ByteArray
  hop : Nat

/-- The place behind a line's bits. -/
def bEnd (s : ByteArray) (w p : Nat) : Nat := if byt s p = 42 then p + 1 else p + nbits s w p
/-- A line's bits. -/
def bOf (s : ByteArray) (w p : Nat) : ByteArray := if byt s p = 42 then (⟨#[]⟩ : ByteArray) else s.extract p (p + nbits s w p)

theorem bEnd_le (s : ByteArray) (w p : Nat) (h : p ≤ s.size) : bEnd s w p ≤ s.size ∧ p ≤ bEnd s w p := by
  unfold bEnd; split
  · have hp : p < s.size := byt_lt_size (by omega)
    omega
  · have := nbits_end s w p h; omega

/-- A line that begins at p is none. -/
def lBad (s : ByteArray) (w p : Nat) : Bool := decide (bEnd s w p = p ∨ byt s (bEnd s w p) ≠ 32 ∨ (hopGo s 3 0 (bEnd s w p + 1)).1 = 0 ∨ byt s (hopGo s 3 0 (bEnd s w p + 1)).2 ≠ 10)
/-- The place of its fault, or of its line end. -/
def lAt (s : ByteArray) (w p : Nat) : Nat := if bEnd s w p = p ∨ byt s (bEnd s w p) ≠ 32 then bEnd s w p else (hopGo s 3 0 (bEnd s w p + 1)).2
/-- Its route. -/
def lRt (s : ByteArray) (w p : Nat) : Rt := ⟨bOf s w p, (hopGo s 3 0 (bEnd s w p + 1)).1⟩

theorem lAt_le (s : ByteArray) (w p : Nat) (h : p ≤ s.size) : lAt s w p ≤ s.size ∧ p ≤ lAt s w p := by
  have hb := bEnd_le s w p h
  unfold lAt; split
  · omega
  · rename_i hc
    have hp : bEnd s w p < s.size := byt_lt_size (by omega)
    have := hopGo_end s 3 0 (bEnd s w p + 1) (by omega); omega
theorem lAt_lt (s : ByteArray) (w p : Nat) (hok : lBad s w p = false) : lAt s w p < s.size ∧ p + 2 < lAt s w p + 1 := by
  simp only [lBad, decide_eq_false_iff_not] at hok
  have h1 : byt s (bEnd s w p) = 32 := by omega
  have h2 : byt s (hopGo s 3 0 (bEnd s w p + 1)).2 = 10 := by omega
  have hq : bEnd s w p < s.size := byt_lt_size (by omega)
  have he : (hopGo s 3 0 (bEnd s w p + 1)).2 < s.size := byt_lt_size (by omega)
  have hp : p ≤ bEnd s w p := by unfold bEnd; split <;> omega
  have h3 := hopGo_end s 3 0 (bEnd s w p + 1) (by omega)
  unfold lAt; rw [if_neg (by omega)]; omega

/-- A table's lines from p on: how many there are, or the place of the first fault: with fuel. -/
def parse (s : ByteArray) (w : Nat) : Nat → Nat → List Rt → Option (List Rt) × Nat
  | 0, _, acc => (some acc, 0)
  | f + 1, p, acc => if s.size ≤ p then (some acc, 0) else if lBad s w p then (none, lAt s w p) else parse s w f (lAt s w p + 1) (acc ++ [lRt s w p])

theorem parse_done {s : ByteArray} {w f p : Nat} {acc : List Rt} (hf : s.size < f + p) (h : s.size ≤ p) : parse s w f p acc = (some acc, 0) := by
  cases f with
  | zero => rfl
  | succ f => unfold parse; rw [if_pos h]
theorem parse_bad {s : ByteArray} {w f p : Nat} {acc : List Rt} (hf : s.size < f + p) (h : p < s.size) (hb : lBad s w p = true) : parse s w f p acc = (none, lAt s w p) := by
  cases f with
  | zero => omega
  | succ f => unfold parse; rw [if_neg (by omega), if_pos hb]
theorem parse_step {s : ByteArray} {w f p : Nat} {acc : List Rt} (hf : s.size < f + p) (h : p < s.size) (hb : lBad s w p = false) :
    ∃ f', s.size < f' + (lAt s w p + 1) ∧ parse s w f p acc = parse s w f' (lAt s w p + 1) (acc ++ [lRt s w p]) := by
  cases f with
  | zero => omega
  | succ f =>
    have := lAt_lt s w p hb
    refine ⟨f, by omega, ?_⟩
    conv => lhs; unfold parse
    rw [if_neg (by omega), if_neg (by simp [hb])]

/-- The whole text. -/
def table (s : ByteArray) (w : Nat) : Option (List Rt) × Nat := parse s w (s.size + 1) 0 []

theorem nbits_succ {s : ByteArray} {w p : Nat} (h : byt s p = 48 ∨ byt s p = 49) (hw : 0 < w) : nbits s w p = nbits s (w - 1) (p + 1) + 1 := by
  cases w with
  | zero => omega
  | succ w => conv => lhs; unfold nbits
              rw [if_pos h]; rfl
theorem nbits_stop {s : ByteArray} {w p : Nat} (h : ¬ (byt s p = 48 ∨ byt s p = 49)) : nbits s w p = 0 := by
  cases w with
  | zero => rfl
  | succ w => unfold nbits; rw [if_neg h]

theorem rb_step {s : ByteArray} {W p n : Nat} (hlt : n < W) (h : byt s (p + n) = 48 ∨ byt s (p + n) = 49) (H : nbits s W p = n + nbits s (W - n) (p + n)) : nbits s W p = (n + 1) + nbits s (W - (n + 1)) (p + (n + 1)) := by
  rw [H, nbits_succ h (by omega), show W - n - 1 = W - (n + 1) from by omega, show p + n + 1 = p + (n + 1) from by omega]; omega
theorem rb_stop {s : ByteArray} {W p n : Nat} (h : ¬ (byt s (p + n) = 48 ∨ byt s (p + n) = 49)) (H : nbits s W p = n + nbits s (W - n) (p + n)) : nbits s W p = n := by
  rw [H, nbits_stop h]; rfl
theorem rb_full {s : ByteArray} {W p n : Nat} (hn : n ≤ W) (h : ¬ n < W) (H : nbits s W p = n + nbits s (W - n) (p + n)) : nbits s W p = n := by
  rw [H, show W - n = 0 from by omega]; rfl

theorem hopGo_step {s : ByteArray} {f n p : Nat} (hf : 0 < f) (h : 48 ≤ byt s p ∧ byt s p ≤ 57 ∧ 1 ≤ 10 * n + (byt s p - 48) ∧ 10 * n + (byt s p - 48) ≤ 250) : hopGo s f n p = hopGo s (f - 1) (10 * n + (byt s p - 48)) (p + 1) := by
  cases f with
  | zero => omega
  | succ f => conv => lhs; unfold hopGo
              rw [if_pos h]; rfl
theorem hopGo_stop {s : ByteArray} {f n p : Nat} (h : ¬ (48 ≤ byt s p ∧ byt s p ≤ 57 ∧ 1 ≤ 10 * n + (byt s p - 48) ∧ 10 * n + (byt s p - 48) ≤ 250)) : hopGo s f n p = (n, p) := by
  cases f with
  | zero => rfl
  | succ f => unfold hopGo; rw [if_neg h]

/-- P3's error of a text and a width, its place, its lines. -/
def tErr (s : ByteArray) (W : Int) : Nat := if 400 < s.size then 1 else if W < 1 ∨ 12 < W then 2 else match table s W.toNat with
  | (none, _) => 3
  | (some l, _) => if 24 < l.length then 4 else 0
def tAt (s : ByteArray) (W : Int) : Nat := if 400 < s.size then 0 else if W < 1 ∨ 12 < W then 0 else match table s W.toNat with
  | (none, q) => q
  | (some _, _) => 0
def tRts (s : ByteArray) (W : Int) : List Rt := if 400 < s.size then [] else if W < 1 ∨ 12 < W then [] else match table s W.toNat with
  | (none, _) => []
  | (some l, _) => if 24 < l.length then [] else l

theorem t_long {s : ByteArray} {W : Int} (h : 400 < s.size) : tRts s W = [] ∧ tErr s W = 1 ∧ tAt s W = 0 := by
  simp [tRts, tErr, tAt, h]
theorem t_arg {s : ByteArray} {W : Int} (h : s.size ≤ 400) (hW : W < 1 ∨ 12 < W) : tRts s W = [] ∧ tErr s W = 2 ∧ tAt s W = 0 := by
  unfold tRts tErr tAt
  rw [if_neg (by omega), if_pos hW, if_neg (by omega), if_pos hW, if_neg (by omega), if_pos hW]; exact ⟨rfl, rfl, rfl⟩
theorem t_bad {s : ByteArray} {W q : Nat} (h : s.size ≤ 400) (hW1 : 1 ≤ W) (hW : W ≤ 12) (ht : table s W = (none, q)) : tRts s W = [] ∧ tErr s W = 3 ∧ tAt s W = q := by
  unfold tRts tErr tAt
  rw [if_neg (by omega), if_neg (by omega), if_neg (by omega), if_neg (by omega), if_neg (by omega), if_neg (by omega), Int.toNat_natCast, ht]; exact ⟨rfl, rfl, rfl⟩
theorem t_many {s : ByteArray} {W q : Nat} {l : List Rt} (h : s.size ≤ 400) (hW1 : 1 ≤ W) (hW : W ≤ 12) (ht : table s W = (some l, q)) (hl : 24 < l.length) : tRts s W = [] ∧ tErr s W = 4 ∧ tAt s W = 0 := by
  unfold tRts tErr tAt
  rw [if_neg (by omega), if_neg (by omega), if_neg (by omega), if_neg (by omega), if_neg (by omega), if_neg (by omega), Int.toNat_natCast, ht]; simp [hl]
theorem t_ok {s : ByteArray} {W q : Nat} {l : List Rt} (h : s.size ≤ 400) (hW1 : 1 ≤ W) (hW : W ≤ 12) (ht : table s W = (some l, q)) (hl : ¬ 24 < l.length) : tRts s W = l ∧ tErr s W = 0 ∧ tAt s W = 0 := by
  unfold tRts tErr tAt
  rw [if_neg (by omega), if_neg (by omega), if_neg (by omega), if_neg (by omega), if_neg (by omega), if_neg (by omega), Int.toNat_natCast, ht]; simp [hl]
end Go.Proofs.YtdfnmpmmkcpddaaDoor
