/- What Deeper asks of a text: does some route have bits? -/
import Derived.Test.YtdfnmpmmkcpddaaDoorSpecU
import Derived.Test.YtdfnmpmmkcpddaaDoorSpecQ
namespace Go.Proofs.YtdfnmpmmkcpddaaDoor

/-- A line that begins with a bit stands at i. -/
def starts (s : ByteArray) (i : Nat) : Bool := decide ((byt s i = 48 ∨ byt s i = 49) ∧ (i = 0 ∨ byt s (i - 1) = 10))
def longF (s : ByteArray) : Nat → Bool
  | 0 => false
  | i + 1 => longF s i || starts s i
theorem longF_iff {s : ByteArray} : ∀ {n : Nat}, longF s n = true ↔ ∃ i, i < n ∧ starts s i = true
  | 0 => by simp [longF]
  | n + 1 => by
    rw [longF, Bool.or_eq_true, longF_iff]
    constructor
    · rintro (⟨i, h1, h2⟩ | h)
      · exact ⟨i, by omega, h2⟩
      · exact ⟨n, by omega, h⟩
    · rintro ⟨i, h1, h2⟩
      by_cases e : i = n
      · exact .inr (by rw [← e]; exact h2)
      · exact .inl ⟨i, by omega, h2⟩

theorem nbits_at (s : ByteArray) : ∀ (w p j : Nat), j < nbits s w p → byt s (p + j) = 48 ∨ byt s (p + j) = 49
  | 0, _, _, h => by simp [nbits] at h
  | w + 1, p, j, h => by
    unfold nbits at h
    split at h
    · rename_i hc
      cases j with
      | zero => exact hc
      | succ j =>
        have := nbits_at s w (p + 1) j (by omega)
        rwa [show p + 1 + j = p + (j + 1) from by omega] at this
    · omega
theorem hopGo_at (s : ByteArray) : ∀ (f n p j : Nat), p ≤ j → j < (hopGo s f n p).2 → 48 ≤ byt s j ∧ byt s j ≤ 57
  | 0, _, _, _, h1, h2 => by simp only [hopGo] at h2; omega
  | f + 1, n, p, j, h1, h2 => by
    unfold hopGo at h2
    split at h2
    · rename_i hc
      by_cases e : j = p
      · rw [e]; omega
      · exact hopGo_at s f _ (p + 1) j (by omega) h2
    · simp only [] at h2; omega
/-- Within a line there is no line end. -/
theorem line_in {s : ByteArray} {w p j : Nat} (hok : lBad s w p = false) (h1 : p ≤ j) (h2 : j < lAt s w p) : byt s j ≠ 10 := by
  simp only [lBad, decide_eq_false_iff_not] at hok
  have hb : byt s (bEnd s w p) = 32 := by omega
  have hla : lAt s w p = (hopGo s 3 0 (bEnd s w p + 1)).2 := by unfold lAt; rw [if_neg (by omega)]
  rw [hla] at h2
  by_cases c1 : j < bEnd s w p
  · unfold bEnd at c1
    split at c1
    · have : j = p := by omega
      rw [this]; omega
    · have := nbits_at s w p (j - p) (by omega)
      rw [show p + (j - p) = j from by omega] at this
      omega
  · by_cases c2 : j = bEnd s w p
    · rw [c2, hb]; omega
    · have := hopGo_at s 3 0 (bEnd s w p + 1) j (by omega) h2
      omega
theorem line_end {s : ByteArray} {w p : Nat} (hok : lBad s w p = false) : byt s (lAt s w p) = 10 := by
  simp only [lBad, decide_eq_false_iff_not] at hok
  have hla : lAt s w p = (hopGo s 3 0 (bEnd s w p + 1)).2 := by unfold lAt; rw [if_neg (by omega)]
  rw [hla]; omega
theorem line_bits {s : ByteArray} {w p : Nat} (hw : 1 ≤ w) (hp : p ≤ s.size) : 1 ≤ (lRt s w p).bits.size ↔ (byt s p = 48 ∨ byt s p = 49) := by
  show 1 ≤ (bOf s w p).size ↔ _
  have hn : nbits s w p = 0 ∨ (byt s p = 48 ∨ byt s p = 49) := by
    by_cases h : nbits s w p = 0
    · exact .inl h
    · exact .inr (by have := nbits_at s w p 0 (by omega); simpa using this)
  have hn2 : (byt s p = 48 ∨ byt s p = 49) → 1 ≤ nbits s w p := fun h => by rw [nbits_succ h (by omega)]; omega
  have he := nbits_end s w p hp
  unfold bOf
  split
  · rename_i h42
    constructor
    · intro h; exact absurd h (by show ¬ 1 ≤ 0; omega)
    · omega
  · rw [ByteArray.size_extract]
    constructor
    · intro h
      rcases hn with h0 | h0
      · omega
      · exact h0
    · intro h; have := hn2 h; omega
/-- The lines' beginnings, and their bits. -/
theorem parse_starts {s : ByteArray} {w : Nat} (hw : 1 ≤ w) : ∀ {f p : Nat} {acc l : List Rt} {q : Nat}, s.size < f + p → p ≤ s.size → parse s w f p acc = (some l, q) →
    ∃ l', l = acc ++ l' ∧ (∀ i, p ≤ i → i < s.size → (i = p ∨ byt s (i - 1) = 10) → (byt s i = 48 ∨ byt s i = 49) → ∃ r ∈ l', 1 ≤ r.bits.size) ∧
      (∀ r ∈ l', 1 ≤ r.bits.size → ∃ i, p ≤ i ∧ i + 1 < s.size ∧ (i = p ∨ byt s (i - 1) = 10) ∧ (byt s i = 48 ∨ byt s i = 49)) ∧ (∀ r ∈ l', r.bits.size ≤ w)
  | 0, p, acc, l, q, hf, hp, _ => by omega
  | f + 1, p, acc, l, q, hf, hp, h => by
    unfold parse at h
    split at h
    · rename_i hc
      simp at h
      refine ⟨[], by simp [h.1], fun i h1 h2 => by omega, by simp, by simp⟩
    · rename_i hc
      split at h
      · simp at h
      · rename_i hb
        have hok : lBad s w p = false := by simpa using hb
        obtain ⟨hl1, hl2⟩ := lAt_lt s w p hok
        obtain ⟨l', e, k1, k2, k3⟩ := parse_starts hw (by omega) (by omega) h
        refine ⟨lRt s w p :: l', by rw [e]; simp, ?_, ?_, ?_⟩
        · intro i h1 h2 h3 h4
          by_cases c : i ≤ lAt s w p
          · have : i = p := by
              rcases h3 with h3 | h3
              · exact h3
              · by_cases e : i = p
                · exact e
                · exact absurd h3 (line_in hok (by omega) (by omega))
            exact ⟨lRt s w p, by simp, (line_bits hw hp).2 (by rw [← this]; exact h4)⟩
          · obtain ⟨r, hr, hr2⟩ := k1 i (by omega) h2 (by
              rcases h3 with h3 | h3
              · omega
              · exact .inr h3) h4
            exact ⟨r, by simp [hr], hr2⟩
        · intro r hr hr2
          rcases List.mem_cons.1 hr with rfl | hr
          · exact ⟨p, by omega, by omega, .inl rfl, (line_bits hw hp).1 hr2⟩
          · obtain ⟨i, h1, h2, h3, h4⟩ := k2 r hr hr2
            refine ⟨i, by omega, h2, ?_, h4⟩
            right
            rcases h3 with h3 | h3
            · rw [h3, show lAt s w p + 1 - 1 = lAt s w p from rfl]; exact line_end hok
            · exact h3
        · intro r hr
          rcases List.mem_cons.1 hr with rfl | hr
          · show (bOf s w p).size ≤ w
            unfold bOf; split
            · exact Nat.zero_le _
            · have := nbits_le s w p
              rw [ByteArray.size_extract]; omega
          · exact k3 r hr

/-- A table's text is long if, and only if, some route has bits. -/
theorem long_iff {s : ByteArray} {W : Nat} (h : tErr s W = 0) (hs : s.size ≤ 400) (hW1 : 1 ≤ W) (hW : W ≤ 12) : (longF s (s.size - 1) = true ↔ ∃ r ∈ tRts s W, 1 ≤ r.bits.size) ∧ ∀ r ∈ tRts s W, r.bits.size ≤ W := by
  cases ht : table s W with
  | mk o q =>
    cases o with
    | none => rw [(t_bad hs hW1 hW ht).2.1] at h; omega
    | some l =>
      by_cases hl : 24 < l.length
      · rw [(t_many hs hW1 hW ht hl).2.1] at h; omega
      · rw [(t_ok hs hW1 hW ht hl).1]
        obtain ⟨l', e, k1, k2, k3⟩ := parse_starts hW1 (by omega) (Nat.zero_le _) ht
        rw [List.nil_append] at e
        subst e
        refine ⟨?_, k3⟩
        rw [longF_iff]
        constructor
        · rintro ⟨i, h1, h2⟩
          simp only [starts, decide_eq_true_eq] at h2
          exact k1 i (by omega) (by omega) h2.2 h2.1
        · rintro ⟨r, hr, hr2⟩
          obtain ⟨i, h1, h2, h3, h4⟩ := k2 r hr hr2
          exact ⟨i, by omega, by simp only [starts, decide_eq_true_eq]; exact ⟨h4, h3⟩⟩
theorem lastOf_some {L : List Rt} {r : Rt} (hr : r ∈ L) : ∃ h, lastOf L r.bits = some h := by
  revert hr
  refine snoc_ind (p := fun L => r ∈ L → ∃ h, lastOf L r.bits = some h) ?_ ?_ L
  · intro h; simp at h
  · intro L x ih h
    rw [lastOf_snoc]
    by_cases e : x.bits = r.bits
    · rw [if_pos e]; exact ⟨_, rfl⟩
    · rw [if_neg e]
      rcases List.mem_append.1 h with h1 | h1
      · exact ih h1
      · rw [List.mem_singleton] at h1; rw [h1] at e; exact absurd rfl e
/-- The height of the whole table. -/
theorem height_long {L : List Rt} : 1 ≤ heightF (ordR L) ⟨#[]⟩ ↔ ∃ r ∈ L, 1 ≤ r.bits.size := by
  have hp : ∀ x : ByteArray, pre ⟨#[]⟩ x = true := fun x => pre_iff.2 List.nil_prefix
  constructor
  · intro h
    obtain ⟨r, hr, _, he⟩ := height_at h
    refine ⟨r, lastOf_mem ((ordR_mem L r).1 hr), ?_⟩
    have : (⟨#[]⟩ : ByteArray).size = 0 := rfl
    omega
  · rintro ⟨r, hr, h1⟩
    obtain ⟨x, hx, e⟩ : ∃ x ∈ ordR L, x.bits = r.bits := by
      have : ∃ h, lastOf L r.bits = some h := lastOf_some hr
      obtain ⟨h, hh⟩ := this
      exact ⟨⟨r.bits, h⟩, (ordR_mem L _).2 hh, rfl⟩
    have := heightF_ge hx (hp x.bits)
    have hz : (⟨#[]⟩ : ByteArray).size = 0 := rfl
    rw [e] at this
    omega
end Go.Proofs.YtdfnmpmmkcpddaaDoor
