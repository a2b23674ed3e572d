/- The plain functions of the cost, as the document's answer works it out. -/
import Derived.Test.YtdfnmpmmkcpddaaDoorSpecQ
import Derived.Test.YtdfnmpmmkcpddaaDoorSpecB
namespace Go.Proofs.YtdfnmpmmkcpddaaDoor

/-- The height of a text; 0: it is no node. -/
def hstep (b : ByteArray) (n : Nat) (r : Rt) : Nat := if pre b r.bits = true ∧ n < r.bits.size - b.size then r.bits.size - b.size else n
def heightF (D : List Rt) (b : ByteArray) : Nat := D.foldl (hstep b) 0
/-- The nodes that have s bits more. -/
def memB (x : ByteArray) (o : List ByteArray) : Bool := o.any fun c => decide (c = x)
theorem memB_iff {x : ByteArray} {o : List ByteArray} : memB x o = true ↔ x ∈ o := by
  unfold memB
  rw [List.any_eq_true]
  constructor
  · rintro ⟨c, hc, h⟩; rw [decide_eq_true_eq] at h; rw [← h]; exact hc
  · intro h; exact ⟨x, h, by simp⟩
def ustep (b : ByteArray) (s : Nat) (o : List ByteArray) (r : Rt) : List ByteArray :=
  if pre b r.bits = true ∧ b.size + s < r.bits.size then (if memB (r.bits.extract 0 (b.size + s)) o = true then o else o ++ [r.bits.extract 0 (b.size + s)]) else o
def underF (D : List Rt) (b : ByteArray) (s : Nat) : List ByteArray := D.foldl (ustep b s) []
/-- One stride more. -/
def cstep (l : List ByteArray) (k s : Nat) (f : ByteArray → Int) (least : Int) : Int :=
  if l ≠ [] ∧ k = 0 then least else if least < 0 ∨ l.foldl (fun n c => n + f c) ((2 ^ s : Nat) : Int) < least then l.foldl (fun n c => n + f c) ((2 ^ s : Nat) : Int) else least
def leastF (D : List Rt) (b : ByteArray) (k : Nat) (f : ByteArray → Int) : Nat → Int
  | 0 => -1
  | s + 1 => cstep (underF D b (s + 1)) k (s + 1) f (leastF D b k f s)
/-- The cost of node b with depth k. -/
def costZ (D : List Rt) : Nat → ByteArray → Int
  | 0, _ => -1
  | k + 1, b => leastF D b k (costZ D k) (heightF D b)

theorem heightF_snoc (D : List Rt) (r : Rt) (b : ByteArray) : heightF (D ++ [r]) b = hstep b (heightF D b) r := by simp [heightF]
theorem heightF_take (D : List Rt) (b : ByteArray) (i : Nat) (h : i < D.length) : heightF (D.take (i + 1)) b = hstep b (heightF (D.take i) b) D[i] := by
  rw [List.take_succ_eq_append_getElem h, heightF_snoc]
theorem underF_snoc (D : List Rt) (r : Rt) (b : ByteArray) (s : Nat) : underF (D ++ [r]) b s = ustep b s (underF D b s) r := by simp [underF]
theorem underF_take (D : List Rt) (b : ByteArray) (s i : Nat) (h : i < D.length) : underF (D.take (i + 1)) b s = ustep b s (underF (D.take i) b s) D[i] := by
  rw [List.take_succ_eq_append_getElem h, underF_snoc]
theorem underF_length (D : List Rt) (b : ByteArray) (s : Nat) : (underF D b s).length ≤ D.length := by
  refine snoc_ind (p := fun D => (underF D b s).length ≤ D.length) ?_ ?_ D
  · simp [underF]
  · intro D r ih
    rw [underF_snoc]; unfold ustep
    split
    · split
      · simp; omega
      · simp; omega
    · simp; omega
theorem underF_mem {D : List Rt} {b c : ByteArray} {s : Nat} : c ∈ underF D b s ↔ ∃ r ∈ D, pre b r.bits = true ∧ b.size + s < r.bits.size ∧ c = r.bits.extract 0 (b.size + s) := by
  refine snoc_ind (p := fun D => c ∈ underF D b s ↔ ∃ r ∈ D, pre b r.bits = true ∧ b.size + s < r.bits.size ∧ c = r.bits.extract 0 (b.size + s)) ?_ ?_ D
  · simp [underF]
  · intro D r ih
    rw [underF_snoc]; unfold ustep
    constructor
    · intro h
      have key : c ∈ underF D b s ∨ (pre b r.bits = true ∧ b.size + s < r.bits.size ∧ c = r.bits.extract 0 (b.size + s)) := by
        split at h
        · rename_i hc
          split at h
          · exact .inl h
          · rcases List.mem_append.1 h with h1 | h1
            · exact .inl h1
            · exact .inr ⟨hc.1, hc.2, by simpa using h1⟩
        · exact .inl h
      rcases key with h1 | ⟨h1, h2, h3⟩
      · obtain ⟨x, hx, h4⟩ := ih.1 h1
        exact ⟨x, by simp [hx], h4⟩
      · exact ⟨r, by simp, h1, h2, h3⟩
    · rintro ⟨x, hx, h1, h2, h3⟩
      rcases List.mem_append.1 hx with h4 | h4
      · have := ih.2 ⟨x, h4, h1, h2, h3⟩
        split
        · split
          · exact this
          · simp [this]
        · exact this
      · rw [List.mem_singleton] at h4
        subst h4
        rw [if_pos ⟨h1, h2⟩]
        split
        · rename_i hm; rw [h3]; exact memB_iff.1 hm
        · simp [h3]
theorem heightF_le {D : List Rt} {b : ByteArray} {n : Nat} (h : ∀ r ∈ D, r.bits.size ≤ n) : heightF D b ≤ n - b.size := by
  revert h
  refine snoc_ind (p := fun D => (∀ r ∈ D, r.bits.size ≤ n) → heightF D b ≤ n - b.size) ?_ ?_ D
  · intro _; simp [heightF]
  · intro D r ih h
    have h1 := ih fun x hx => h x (by simp [hx])
    have h2 := h r (by simp)
    rw [heightF_snoc]; unfold hstep; split
    · omega
    · exact h1
theorem heightF_ge {D : List Rt} {b : ByteArray} {r : Rt} (hr : r ∈ D) (hp : pre b r.bits = true) : r.bits.size - b.size ≤ heightF D b := by
  revert hr
  refine snoc_ind (p := fun D => r ∈ D → r.bits.size - b.size ≤ heightF D b) ?_ ?_ D
  · intro h; simp at h
  · intro D x ih h
    rw [heightF_snoc]; unfold hstep
    rcases List.mem_append.1 h with h1 | h1
    · have := ih h1
      split
      · rename_i hc; have := hc.2; omega
      · exact this
    · rw [List.mem_singleton] at h1
      subst h1
      split
      · exact Nat.le_refl _
      · rename_i hc
        by_cases h3 : heightF D b < r.bits.size - b.size
        · exact absurd ⟨hp, h3⟩ hc
        · omega
theorem under_none {D : List Rt} {b : ByteArray} : underF D b (heightF D b) = [] := by
  cases h : underF D b (heightF D b) with
  | nil => rfl
  | cons c l =>
    obtain ⟨r, hr, hp, hlt, _⟩ := (underF_mem (c := c)).1 (by rw [h]; simp)
    have := heightF_ge hr hp
    omega
theorem pre_extract {r : ByteArray} {n : Nat} (h : n ≤ r.size) : pre (r.extract 0 n) r = true ∧ (r.extract 0 n).size = n := by
  have hs : (r.extract 0 n).size = n := by rw [ByteArray.size_extract]; omega
  refine ⟨?_, hs⟩
  unfold pre
  rw [decide_eq_true_eq]
  have e : (r.extract 0 n).data.toList = r.data.toList.take n := by simp [ByteArray.data_extract, List.extract_eq_take_drop]
  rw [e]; exact List.take_prefix _ _
theorem under_height {D : List Rt} {b c : ByteArray} {s : Nat} (h : c ∈ underF D b s) : 1 ≤ heightF D c := by
  obtain ⟨r, hr, _, hlt, rfl⟩ := underF_mem.1 h
  obtain ⟨h1, h2⟩ := pre_extract (r := r.bits) (n := b.size + s) (by omega)
  have := heightF_ge hr h1
  omega

/-- Sums of costs lie within bounds. -/
theorem sum_bd {f : ByteArray → Int} : ∀ {l : List ByteArray} {z : Int}, (∀ c ∈ l, 2 ≤ f c ∧ f c ≤ 4096) → z ≤ l.foldl (fun n c => n + f c) z ∧ l.foldl (fun n c => n + f c) z ≤ z + 4096 * l.length
  | [], z, _ => by simp
  | c :: l, z, h => by
    have h1 := h c (by simp)
    have h2 := sum_bd (f := f) (l := l) (z := z + f c) fun x hx => h x (by simp [hx])
    simp only [List.foldl_cons, List.length_cons]
    omega
theorem least_bd {D : List Rt} {b : ByteArray} {k : Nat} {f : ByteArray → Int} (hk : k = 0 ∨ ∀ c, 1 ≤ heightF D c → 2 ≤ f c ∧ f c ≤ 4096) : ∀ s, s ≤ 12 → (leastF D b k f s = -1 ∨ 2 ≤ leastF D b k f s) ∧ leastF D b k f s ≤ 200000 + 4096 * D.length
  | 0, _ => by simp [leastF]; omega
  | s + 1, hs => by
    have ih := least_bd (D := D) (b := b) hk s (by omega)
    have hp : (2 ^ (s + 1) : Nat) ≤ 2 ^ 12 := Nat.pow_le_pow_right (by omega) hs
    have hp2 : 2 ^ 1 ≤ (2 ^ (s + 1) : Nat) := Nat.pow_le_pow_right (by omega) (by omega)
    have hul := underF_length D b (s + 1)
    rw [leastF]; unfold cstep
    split
    · exact ih
    · rename_i hc
      have hall : ∀ c ∈ underF D b (s + 1), 2 ≤ f c ∧ f c ≤ 4096 := by
        intro c hcm
        rcases hk with h0 | h0
        · exact absurd ⟨by intro e; rw [e] at hcm; simp at hcm, h0⟩ hc
        · exact h0 c (under_height hcm)
      have hb := sum_bd (z := ((2 ^ (s + 1) : Nat) : Int)) hall
      split
      · omega
      · exact ih
theorem least_pos {D : List Rt} {b : ByteArray} {k : Nat} {f : ByteArray → Int} (hk : k = 0 ∨ ∀ c, 1 ≤ heightF D c → 2 ≤ f c ∧ f c ≤ 4096) (h : 1 ≤ heightF D b) (hh : heightF D b ≤ 12) : 2 ≤ leastF D b k f (heightF D b) ∧ leastF D b k f (heightF D b) ≤ 4096 := by
  obtain ⟨s, hs⟩ : ∃ s, heightF D b = s + 1 := ⟨heightF D b - 1, by omega⟩
  have ih := least_bd (D := D) (b := b) hk s (by omega)
  have hn := under_none (D := D) (b := b)
  have hp : (2 ^ (s + 1) : Nat) ≤ 2 ^ 12 := Nat.pow_le_pow_right (by omega) (by omega)
  have hp2 : 2 ^ 1 ≤ (2 ^ (s + 1) : Nat) := Nat.pow_le_pow_right (by omega) (by omega)
  rw [hs] at hn ⊢
  rw [leastF, hn]; unfold cstep
  rw [if_neg (by simp)]
  have e : ([] : List ByteArray).foldl (fun n c => n + f c) ((2 ^ (s + 1) : Nat) : Int) = ((2 ^ (s + 1) : Nat) : Int) := rfl
  split
  · rw [e]; omega
  · rename_i hc; rw [e] at hc; omega
theorem cost_bd {D : List Rt} (hD : ∀ r ∈ D, r.bits.size ≤ 12) : ∀ (k : Nat) (b : ByteArray), 1 ≤ k → 1 ≤ heightF D b → 2 ≤ costZ D k b ∧ costZ D k b ≤ 4096
  | 0, _, h, _ => by omega
  | k + 1, b, _, h => by
    rw [costZ]
    refine least_pos ?_ h (by have := heightF_le (b := b) hD; omega)
    by_cases hk : k = 0
    · exact .inl hk
    · exact .inr fun c hc => cost_bd hD k c (by omega) hc
end Go.Proofs.YtdfnmpmmkcpddaaDoor
