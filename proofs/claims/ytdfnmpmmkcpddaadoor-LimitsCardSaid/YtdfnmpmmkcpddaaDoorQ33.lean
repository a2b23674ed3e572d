import Derived.Test.YtdfnmpmmkcpddaaDoorQ10
/- The plain law of Print: the least that is left, again and again, is the order. -/
namespace Go.Proofs.YtdfnmpmmkcpddaaDoor

/-- T: what has been taken out of D; ds: the marks. -/
structure Sel (D T : List Rt) (ds : List Bool) : Prop where
  ord : Ord T
  len : ds.length = D.length
  sub : ∀ r ∈ T, r ∈ D
  mark : ∀ (i : Nat) (r : Rt), D[i]? = some r → (ds[i]? = some true ↔ r ∈ T)
  above : ∀ (i : Nat) (r : Rt), D[i]? = some r → ds[i]? = some false → ∀ t ∈ T, lt t.bits r.bits = true
  count : ds.count true = T.length

theorem sel_start (D : List Rt) : Sel D [] (List.replicate D.length false) where
  ord := by simp [Ord]
  len := by simp
  sub := by simp
  mark := by
    intro i r h
    have hi := (List.getElem?_eq_some_iff.1 h).1
    simp [hi]
  above := by simp
  count := by simp [List.count_replicate]

theorem some_false : ∀ {ds : List Bool}, ds.count true < ds.length → ∃ i : Nat, ds[i]? = some false
  | [], h => by simp at h
  | false :: ds, _ => ⟨0, rfl⟩
  | true :: ds, h => by
    obtain ⟨i, hi⟩ := some_false (ds := ds) (by simp at h; exact h)
    exact ⟨i + 1, by simpa using hi⟩
theorem all_true : ∀ {ds : List Bool}, ds.count true = ds.length → ∀ i, i < ds.length → ds[i]? = some true
  | [], _, i, hi => by simp at hi
  | false :: ds, h, i, hi => by
    have := List.count_le_length (a := true) (l := ds)
    simp at h; omega
  | true :: ds, h, 0, _ => rfl
  | true :: ds, h, i + 1, hi => by
    have := all_true (ds := ds) (by simpa using h) i (by simpa using hi)
    simpa using this
theorem count_set : ∀ {ds : List Bool} {k : Nat}, ds[k]? = some false → (ds.set k true).count true = ds.count true + 1
  | [], k, h => by simp at h
  | b :: ds, 0, h => by simp at h; subst h; simp
  | b :: ds, k + 1, h => by
    have := count_set (ds := ds) (k := k) (by simpa using h)
    simp [List.count_cons, this]; omega

theorem once_index {D : List Rt} (ho : Once D) {i j : Nat} {r r' : Rt} (hi : D[i]? = some r) (hj : D[j]? = some r') (hb : r.bits = r'.bits) : i = j := by
  have hi' := List.getElem?_eq_some_iff.1 hi
  have hj' := List.getElem?_eq_some_iff.1 hj
  obtain ⟨h1, e1⟩ := hi'
  obtain ⟨h2, e2⟩ := hj'
  have hp := List.pairwise_iff_getElem.1 ho
  by_cases h : i < j
  · exact absurd (by rw [e1, e2]; exact hb) (hp i j h1 h2 h)
  · by_cases h' : j < i
    · exact absurd (by rw [e1, e2]; exact hb.symm) (hp j i h2 h1 h')
    · omega

/-- The least of the first i that are left stands at kn. -/
def L1 (D : List Rt) (ds : List Bool) (i : Nat) : Prop := ∀ (j : Nat), j < D.length → j < i → ds[j]? = some true
def L2 (D : List Rt) (ds : List Bool) (i kn : Nat) : Prop := ∃ r0, D[kn]? = some r0 ∧ ds[kn]? = some false ∧ ∀ (j : Nat) (r : Rt), D[j]? = some r → j < i → ds[j]? = some false → lt r.bits r0.bits = false

section
variable {D : List Rt} {ds : List Bool} {i kn : Nat}
theorem L1.done (h : L1 D ds i) (hd : ds[i]? = some true) : L1 D ds (i + 1) := by
  intro j hj1 hj
  by_cases e : j = i
  · subst e; exact hd
  · exact h j hj1 (by omega)
theorem L1.first (h : L1 D ds i) (hi : i < D.length) (hd : ds[i]? = some false) : L2 D ds (i + 1) i := by
  refine ⟨D[i], by simp, hd, fun j r hr hj hf => ?_⟩
  by_cases e : j = i
  · subst e; rw [List.getElem?_eq_getElem hi] at hr; rw [← Option.some.inj hr]; exact lt_irrefl _
  · rw [h j (List.getElem?_eq_some_iff.1 hr).1 (by omega)] at hf; simp at hf
theorem L2.done (h : L2 D ds i kn) (hd : ds[i]? = some true) : L2 D ds (i + 1) kn := by
  obtain ⟨r0, h0, h1, h2⟩ := h
  refine ⟨r0, h0, h1, fun j r hr hj hf => ?_⟩
  by_cases e : j = i
  · subst e; rw [hd] at hf; simp at hf
  · exact h2 j r hr (by omega) hf
theorem L2.old (h : L2 D ds i kn) (hi : i < D.length) (hk : kn < D.length) (hle : lt D[i].bits D[kn].bits = false) : L2 D ds (i + 1) kn := by
  obtain ⟨r0, h0, h1, h2⟩ := h
  refine ⟨r0, h0, h1, fun j r hr hj hf => ?_⟩
  by_cases e : j = i
  · subst e
    rw [List.getElem?_eq_getElem hi] at hr
    rw [List.getElem?_eq_getElem hk] at h0
    rw [← Option.some.inj hr, ← Option.some.inj h0]; exact hle
  · exact h2 j r hr (by omega) hf
theorem L2.new (h : L2 D ds i kn) (hi : i < D.length) (hk : kn < D.length) (hd : ds[i]? = some false) (hle : lt D[i].bits D[kn].bits = true) : L2 D ds (i + 1) i := by
  obtain ⟨r0, h0, h1, h2⟩ := h
  rw [List.getElem?_eq_getElem hk] at h0
  have h0' := Option.some.inj h0
  refine ⟨D[i], by simp, hd, fun j r hr hj hf => ?_⟩
  by_cases e : j = i
  · subst e; rw [List.getElem?_eq_getElem hi] at hr; rw [← Option.some.inj hr]; exact lt_irrefl _
  · have h3 := h2 j r hr (by omega) hf
    cases h4 : lt r.bits D[i].bits with
    | false => rfl
    | true => have := lt_trans h4 hle; rw [h0', h3] at this; exact absurd this (by simp)
end

/-- One taken. -/
theorem Sel.take {D T : List Rt} {ds : List Bool} {kn : Nat} (h : Sel D T ds) (ho : Once D) (hk : kn < D.length) (hl : L2 D ds D.length kn) : Sel D (T ++ [D[kn]]) (ds.set kn true) := by
  obtain ⟨r0, h0, h1, h2⟩ := hl
  rw [List.getElem?_eq_getElem hk] at h0
  have h0' := Option.some.inj h0
  subst h0'
  have hkd : D[kn]? = some D[kn] := List.getElem?_eq_getElem hk
  refine ⟨?_, by simpa using h.len, ?_, ?_, ?_, ?_⟩
  · refine List.pairwise_append.2 ⟨h.ord, by simp, ?_⟩
    intro t ht y hy
    rw [List.mem_singleton] at hy; subst hy
    exact h.above kn _ hkd h1 t ht
  · intro r hr
    rcases List.mem_append.1 hr with h3 | h3
    · exact h.sub r h3
    · rw [List.mem_singleton] at h3; subst h3; exact List.getElem_mem hk
  · intro i r hr
    have hil := (List.getElem?_eq_some_iff.1 hr).1
    by_cases e : i = kn
    · subst e
      rw [hkd] at hr
      have := Option.some.inj hr
      subst this
      simp [h.len, hk]
    · rw [List.getElem?_set_ne (fun e' => e e'.symm), h.mark i r hr, List.mem_append, List.mem_singleton]
      constructor
      · exact .inl
      · rintro (h3 | h3)
        · exact h3
        · exact absurd (once_index ho hr hkd (by rw [h3])) e
  · intro i r hr hf t ht
    have e : i ≠ kn := by
      intro e; subst e
      rw [List.getElem?_set_self (by rw [h.len]; exact hk)] at hf; simp at hf
    rw [List.getElem?_set_ne (fun e' => e e'.symm)] at hf
    have hil := (List.getElem?_eq_some_iff.1 hr).1
    rcases List.mem_append.1 ht with h3 | h3
    · exact h.above i r hr hf t h3
    · rw [List.mem_singleton] at h3; subst h3
      have h4 := h2 i r hr hil hf
      cases h5 : lt D[kn].bits r.bits with
      | true => rfl
      | false => exact absurd (once_index ho hr hkd (lt_tri h4 h5)) e
  · rw [count_set h1, h.count, List.length_append]; rfl

/-- All taken: the order. -/
theorem Sel.all {D T : List Rt} {ds : List Bool} (h : Sel D T ds) (hn : D.length ≤ T.length) : ∀ r, r ∈ T ↔ r ∈ D := by
  intro r
  refine ⟨h.sub r, fun hr => ?_⟩
  obtain ⟨i, hi, rfl⟩ := List.getElem_of_mem hr
  refine (h.mark i _ (List.getElem?_eq_getElem hi)).1 (all_true ?_ i (by rw [h.len]; exact hi))
  have := List.count_le_length (a := true) (l := ds)
  have := h.count
  have := h.len
  omega
theorem sel_text {l T : List Rt} {ds : List Bool} (h : Sel (dedup l) T ds) (hn : (dedup l).length ≤ T.length) : textB T = textB (ordR l) := by
  rw [ord_unique h.ord (ordR_ord l) fun r => by rw [h.all hn, dedup_mem, ordR_mem]]
theorem Sel.left {D T : List Rt} {ds : List Bool} (h : Sel D T ds) (hn : T.length < D.length) : ¬ L1 D ds D.length := by
  intro hl
  obtain ⟨i, hi⟩ := some_false (ds := ds) (by rw [h.count, h.len]; exact hn)
  have hil := (List.getElem?_eq_some_iff.1 hi).1
  rw [h.len] at hil
  rw [hl i hil hil] at hi; simp at hi
theorem Sel.fit {D T : List Rt} {ds : List Bool} (h : Sel D T ds) (hf : ∀ r ∈ D, Fit r) : ∀ r ∈ T, Fit r := fun r hr => hf r (h.sub r hr)
end Go.Proofs.YtdfnmpmmkcpddaaDoor
