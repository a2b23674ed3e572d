/- What Deeper says, of the plain cost. -/
import Derived.Test.YtdfnmpmmkcpddaaDoorSpecL
namespace Go.Proofs.YtdfnmpmmkcpddaaDoor

/-- A stride that is possible. -/
def okS (D : List Rt) (b : ByteArray) (k s : Nat) : Prop := underF D b s = [] ∨ 1 ≤ k
def sumS (D : List Rt) (b : ByteArray) (f : ByteArray → Int) (s : Nat) : Int := (underF D b s).foldl (fun n c => n + f c) ((2 ^ s : Nat) : Int)
theorem leastF_succ (D : List Rt) (b : ByteArray) (k : Nat) (f : ByteArray → Int) (s : Nat) :
    leastF D b k f (s + 1) = if underF D b (s + 1) ≠ [] ∧ k = 0 then leastF D b k f s else if leastF D b k f s < 0 ∨ sumS D b f (s + 1) < leastF D b k f s then sumS D b f (s + 1) else leastF D b k f s := by
  rw [leastF]; rfl
/-- What the least is: none of the strides is possible, or the least of those that are. -/
theorem least_is {D : List Rt} {b : ByteArray} {k : Nat} {f : ByteArray → Int} (hf : ∀ s, okS D b k s → 0 ≤ sumS D b f s) : ∀ s,
    (leastF D b k f s = -1 ∧ ∀ t, 1 ≤ t → t ≤ s → ¬ okS D b k t) ∨ (∃ t, 1 ≤ t ∧ t ≤ s ∧ okS D b k t ∧ leastF D b k f s = sumS D b f t ∧ ∀ u, 1 ≤ u → u ≤ s → okS D b k u → leastF D b k f s ≤ sumS D b f u)
  | 0 => .inl ⟨rfl, fun t h1 h2 => by omega⟩
  | s + 1 => by
    have ih := least_is hf s
    rw [leastF_succ]
    by_cases h : underF D b (s + 1) ≠ [] ∧ k = 0
    · rw [if_pos h]
      have hn : ¬ okS D b k (s + 1) := by rintro (h1 | h1); exact h.1 h1; omega
      rcases ih with ⟨h1, h2⟩ | ⟨t, h1, h2, h3, h4, h5⟩
      · refine .inl ⟨h1, fun t ht1 ht2 => ?_⟩
        by_cases e : t = s + 1
        · rw [e]; exact hn
        · exact h2 t ht1 (by omega)
      · refine .inr ⟨t, h1, by omega, h3, h4, fun u hu1 hu2 hu3 => ?_⟩
        by_cases e : u = s + 1
        · rw [e] at hu3; exact absurd hu3 hn
        · exact h5 u hu1 (by omega) hu3
    · rw [if_neg h]
      have hy : okS D b k (s + 1) := by
        by_cases e : underF D b (s + 1) = []
        · exact .inl e
        · exact .inr (by
            by_cases hk : k = 0
            · exact absurd ⟨e, hk⟩ h
            · omega)
      have h0 := hf (s + 1) hy
      right
      rcases ih with ⟨h1, h2⟩ | ⟨t, h1, h2, h3, h4, h5⟩
      · rw [if_pos (.inl (by omega))]
        refine ⟨s + 1, by omega, Nat.le_refl _, hy, rfl, fun u hu1 hu2 hu3 => ?_⟩
        by_cases e : u = s + 1
        · rw [e]; exact Int.le_refl _
        · exact absurd hu3 (h2 u hu1 (by omega))
      · by_cases hc : leastF D b k f s < 0 ∨ sumS D b f (s + 1) < leastF D b k f s
        · rw [if_pos hc]
          have hc2 : sumS D b f (s + 1) < leastF D b k f s := by
            rcases hc with hc | hc
            · rw [h4] at hc; have := hf t h3; omega
            · exact hc
          refine ⟨s + 1, by omega, Nat.le_refl _, hy, rfl, fun u hu1 hu2 hu3 => ?_⟩
          by_cases e : u = s + 1
          · rw [e]; exact Int.le_refl _
          · have := h5 u hu1 (by omega) hu3; omega
        · rw [if_neg hc]
          refine ⟨t, h1, by omega, h3, h4, fun u hu1 hu2 hu3 => ?_⟩
          by_cases e : u = s + 1
          · rw [e]
            have : ¬ sumS D b f (s + 1) < leastF D b k f s := fun h => hc (.inr h)
            omega
          · exact h5 u hu1 (by omega) hu3

theorem fold_mono {f g : ByteArray → Int} : ∀ {l : List ByteArray} {y z : Int}, y ≤ z → (∀ c ∈ l, f c ≤ g c) → l.foldl (fun n c => n + f c) y ≤ l.foldl (fun n c => n + g c) z
  | [], y, z, h, _ => h
  | c :: l, y, z, h, hc => by
    have h1 := hc c (by simp)
    have h2 : y + f c ≤ z + g c := by omega
    exact fold_mono (l := l) h2 fun x hx => hc x (by simp [hx])
theorem sumS_pos {D : List Rt} (hD : ∀ r ∈ D, r.bits.size ≤ 12) {b : ByteArray} {k s : Nat} (h : okS D b k s) : 0 ≤ sumS D b (costZ D k) s := by
  unfold sumS
  have hz : (0 : Int) ≤ ((2 ^ s : Nat) : Int) := Int.natCast_nonneg _
  rcases h with h | h
  · rw [h]; exact hz
  · have := (sum_bd (f := costZ D k) (l := underF D b s) (z := ((2 ^ s : Nat) : Int)) fun c hc => cost_bd hD k c h (under_height hc)).1
    exact Int.le_trans hz this
theorem cost_is {D : List Rt} (hD : ∀ r ∈ D, r.bits.size ≤ 12) {k : Nat} {b : ByteArray} (h : 1 ≤ heightF D b) :
    ∃ t, 1 ≤ t ∧ t ≤ heightF D b ∧ okS D b k t ∧ costZ D (k + 1) b = sumS D b (costZ D k) t ∧ ∀ u, 1 ≤ u → u ≤ heightF D b → okS D b k u → costZ D (k + 1) b ≤ sumS D b (costZ D k) u := by
  rw [costZ]
  rcases least_is (k := k) (b := b) (fun s hs => sumS_pos hD hs) (heightF D b) with ⟨_, h2⟩ | h2
  · exact absurd (.inl under_none) (h2 (heightF D b) h (Nat.le_refl _))
  · exact h2
/-- With more depth it costs no more. -/
theorem cost_mono {D : List Rt} (hD : ∀ r ∈ D, r.bits.size ≤ 12) : ∀ (k : Nat) {b : ByteArray}, 1 ≤ heightF D b → costZ D (k + 2) b ≤ costZ D (k + 1) b
  | k, b, h => by
    obtain ⟨t, h1, h2, h3, h4, _⟩ := cost_is hD (k := k) h
    obtain ⟨_, _, _, _, _, h5⟩ := cost_is hD (k := k + 1) h
    rw [h4]
    refine Int.le_trans (h5 t h1 h2 (.inr (by omega))) ?_
    unfold sumS
    refine fold_mono (Int.le_refl _) fun c hc => ?_
    rcases h3 with h3 | h3
    · rw [h3] at hc; simp at hc
    · obtain ⟨k, rfl⟩ : ∃ j, k = j + 1 := ⟨k - 1, by omega⟩
      exact cost_mono hD k (under_height hc)
theorem cost_anti {D : List Rt} (hD : ∀ r ∈ D, r.bits.size ≤ 12) {b : ByteArray} (h : 1 ≤ heightF D b) {i : Nat} (hi : 1 ≤ i) : ∀ j, i ≤ j → costZ D j b ≤ costZ D i b
  | 0, hj => by omega
  | j + 1, hj => by
    by_cases e : i = j + 1
    · rw [e]; exact Int.le_refl _
    · have ih := cost_anti hD h hi j (by omega)
      obtain ⟨k, rfl⟩ : ∃ k, j = k + 1 := ⟨j - 1, by omega⟩
      exact Int.le_trans (cost_mono hD k h) ih
/-- The height is that of some route. -/
theorem height_at {D : List Rt} {b : ByteArray} (h : 1 ≤ heightF D b) : ∃ r ∈ D, pre b r.bits = true ∧ r.bits.size - b.size = heightF D b := by
  revert h
  refine snoc_ind (p := fun D => 1 ≤ heightF D b → ∃ r ∈ D, pre b r.bits = true ∧ r.bits.size - b.size = heightF D b) ?_ ?_ D
  · intro h; simp [heightF] at h
  · intro D r ih h
    rw [heightF_snoc] at h ⊢
    unfold hstep at h ⊢
    split at h
    · rename_i hc
      rw [if_pos hc]
      exact ⟨r, by simp, hc.1, rfl⟩
    · rename_i hc
      rw [if_neg hc]
      obtain ⟨x, hx, h1⟩ := ih h
      exact ⟨x, by simp [hx], h1⟩
/-- With depth 1 there is one stride. -/
theorem cost_one {D : List Rt} (hD : ∀ r ∈ D, r.bits.size ≤ 12) {b : ByteArray} (h : 1 ≤ heightF D b) : costZ D 1 b = ((2 ^ heightF D b : Nat) : Int) := by
  obtain ⟨t, h1, h2, h3, h4, _⟩ := cost_is hD (k := 0) h
  have ht : t = heightF D b := by
    rcases h3 with h3 | h3
    · obtain ⟨r, hr, hp, he⟩ := height_at h
      by_cases e : t = heightF D b
      · exact e
      · have hb := pre_size hp
        have : r.bits.extract 0 (b.size + t) ∈ underF D b t := underF_mem.2 ⟨r, hr, hp, by omega, rfl⟩
        rw [h3] at this; simp at this
    · omega
  rw [h4, ht, sumS, under_none]; rfl
end Go.Proofs.YtdfnmpmmkcpddaaDoor
