/- The plain law of Find: the last of the longest ones is the longest of the last ones. -/
import Derived.Test.YtdfnmpmmkcpddaaDoorWalkG
import Derived.Test.YtdfnmpmmkcpddaaDoorSpecB
namespace Go.Proofs.YtdfnmpmmkcpddaaDoor

/-- One line more: as many bits that fit are the same bits: the later line counts. -/
def bstep (a : ByteArray) (x : Nat × Nat) (r : Rt) : Nat × Nat := if x.1 ≤ r.bits.size ∧ pre r.bits a = true then (r.bits.size, r.hop) else x
def bestF (a : ByteArray) (l : List Rt) : Nat × Nat := l.foldl (bstep a) (0, 0)
theorem bestF_snoc (a : ByteArray) (l : List Rt) (r : Rt) : bestF a (l ++ [r]) = bstep a (bestF a l) r := by simp [bestF]
theorem bestF_take (a : ByteArray) (l : List Rt) (i : Nat) (h : i < l.length) : bestF a (l.take (i + 1)) = bstep a (bestF a (l.take i)) l[i] := by
  rw [List.take_succ_eq_append_getElem h, bestF_snoc]

/-- The hop of the last line with these bits. -/
def lastOf (l : List Rt) (b : ByteArray) : Option Nat := l.foldl (fun o r => if r.bits = b then some r.hop else o) none
theorem lastOf_snoc (l : List Rt) (r : Rt) (b : ByteArray) : lastOf (l ++ [r]) b = if r.bits = b then some r.hop else lastOf l b := by simp [lastOf]

/-- A fold from the left, read from the right. -/
theorem snoc_ind {p : List Rt → Prop} (h0 : p []) (h1 : ∀ l r, p l → p (l ++ [r])) (l : List Rt) : p l := by
  have : ∀ m : List Rt, p m.reverse := by
    intro m
    induction m with
    | nil => exact h0
    | cons r m ih => rw [List.reverse_cons]; exact h1 _ _ ih
  simpa using this l.reverse

/-- What a list of routes says of each text of bits: at most once. -/
def Once (d : List Rt) : Prop := d.Pairwise (fun x y => x.bits ≠ y.bits)

theorem putR_mem {b : ByteArray} {h : Nat} : ∀ {d : List Rt}, Once d → ∀ r : Rt, r ∈ putR d b h ↔ (r.bits = b ∧ r.hop = h) ∨ (r.bits ≠ b ∧ r ∈ d)
  | [], _, r => by
    simp only [putR, List.mem_singleton, List.not_mem_nil, and_false, or_false]
    constructor
    · rintro rfl; exact ⟨rfl, rfl⟩
    · rintro ⟨rfl, rfl⟩; rfl
  | x :: d, ho, r => by
    have ho' := List.pairwise_cons.1 ho
    unfold putR
    split
    · rename_i hx
      simp only [List.mem_cons]
      constructor
      · rintro (rfl | hr)
        · exact .inl ⟨hx, rfl⟩
        · exact .inr ⟨fun e => ho'.1 r hr (by rw [hx, e]), .inr hr⟩
      · rintro (⟨h1, h2⟩ | ⟨h1, rfl | h2⟩)
        · exact .inl (by cases r; simp_all)
        · exact absurd hx h1
        · exact .inr h2
    · rename_i hx
      simp only [List.mem_cons, putR_mem ho'.2 r]
      constructor
      · rintro (rfl | ⟨h1, h2⟩ | ⟨h1, h2⟩)
        · exact .inr ⟨hx, .inl rfl⟩
        · exact .inl ⟨h1, h2⟩
        · exact .inr ⟨h1, .inr h2⟩
      · rintro (⟨h1, h2⟩ | ⟨h1, rfl | h2⟩)
        · exact .inr (.inl ⟨h1, h2⟩)
        · exact .inl rfl
        · exact .inr (.inr ⟨h1, h2⟩)
theorem putR_once {b : ByteArray} {h : Nat} : ∀ {d : List Rt}, Once d → Once (putR d b h)
  | [], _ => by simp [putR, Once]
  | x :: d, ho => by
    have ho' := List.pairwise_cons.1 ho
    unfold putR
    split
    · exact List.pairwise_cons.2 ⟨ho'.1, ho'.2⟩
    · rename_i hx
      refine List.pairwise_cons.2 ⟨fun y hy => ?_, putR_once ho'.2⟩
      rcases (putR_mem ho'.2 y).1 hy with ⟨h1, _⟩ | ⟨_, h2⟩
      · rw [h1]; exact hx
      · exact ho'.1 y h2

theorem dedup_once (l : List Rt) : Once (dedup l) := by
  refine snoc_ind (p := fun l => Once (dedup l)) ?_ ?_ l
  · simp [dedup, Once]
  · intro l r ih; rw [dedup_snoc]; exact putR_once ih
theorem dedup_mem (l : List Rt) (r : Rt) : r ∈ dedup l ↔ lastOf l r.bits = some r.hop := by
  refine snoc_ind (p := fun l => r ∈ dedup l ↔ lastOf l r.bits = some r.hop) ?_ ?_ l
  · simp [dedup, lastOf]
  · intro l x ih
    rw [dedup_snoc, putR_mem (dedup_once l), lastOf_snoc, ih]
    by_cases hx : x.bits = r.bits
    · rw [if_pos hx]
      simp only [hx, ne_eq, not_true_eq_false, false_and, or_false, true_and, Option.some.injEq]
      exact ⟨fun e => e.symm, fun e => e.symm⟩
    · rw [if_neg hx]
      have : r.bits ≠ x.bits := fun e => hx e.symm
      simp [this]

/-- What the best of the lines is. -/
theorem bestF_spec (a : ByteArray) (l : List Rt) : (bestF a l = (0, 0) ∧ ∀ b h, lastOf l b = some h → pre b a = false) ∨
    (∃ b, pre b a = true ∧ b.size = (bestF a l).1 ∧ lastOf l b = some (bestF a l).2 ∧ ∀ b' h, lastOf l b' = some h → pre b' a = true → b'.size ≤ (bestF a l).1) := by
  refine snoc_ind (p := fun l => (bestF a l = (0, 0) ∧ ∀ b h, lastOf l b = some h → pre b a = false) ∨
    (∃ b, pre b a = true ∧ b.size = (bestF a l).1 ∧ lastOf l b = some (bestF a l).2 ∧ ∀ b' h, lastOf l b' = some h → pre b' a = true → b'.size ≤ (bestF a l).1)) ?_ ?_ l
  · exact .inl ⟨rfl, fun b h hl => by simp [lastOf] at hl⟩
  · intro l r ih
    rw [bestF_snoc]
    unfold bstep
    split
    · rename_i hc
      refine .inr ⟨r.bits, hc.2, rfl, by rw [lastOf_snoc, if_pos rfl], ?_⟩
      intro b' h hl hp
      rw [lastOf_snoc] at hl
      simp only []
      split at hl
      · rename_i hb; rw [hb]; exact Nat.le_refl _
      · rcases ih with ⟨_, h2⟩ | ⟨b, _, _, _, h4⟩
        · rw [h2 b' h hl] at hp; exact absurd hp (by simp)
        · exact Nat.le_trans (h4 b' h hl hp) hc.1
    · rename_i hc
      rcases ih with ⟨h1, h2⟩ | ⟨b, h1, h2, h3, h4⟩
      · refine .inl ⟨h1, fun b h hl => ?_⟩
        rw [lastOf_snoc] at hl
        split at hl
        · rename_i hb
          rw [h1] at hc
          cases hp : pre b a with
          | false => rfl
          | true => exact absurd ⟨Nat.zero_le _, by rw [hb]; exact hp⟩ hc
        · exact h2 b h hl
      · refine .inr ⟨b, h1, h2, ?_, ?_⟩
        · rw [lastOf_snoc]
          split
          · rename_i hb
            exact absurd ⟨by rw [hb, h2]; exact Nat.le_refl _, by rw [hb]; exact h1⟩ hc
          · exact h3
        · intro b' h hl hp
          rw [lastOf_snoc] at hl
          split at hl
          · rename_i hb
            subst hb
            by_cases hle : (bestF a l).1 ≤ r.bits.size
            · exact absurd ⟨hle, hp⟩ hc
            · omega
          · exact h4 b' h hl hp

/-- What the document's answer is, of the routes once each. -/
def RRes (a : ByteArray) (d : List Rt) (h : Nat) : Prop :=
  (h = 0 ∧ ∀ r ∈ d, pre r.bits a = false) ∨ (∃ r ∈ d, pre r.bits a = true ∧ h = r.hop ∧ ∀ r' ∈ d, pre r'.bits a = true → r'.bits.size ≤ r.bits.size)

theorem pre_size_eq {a b c : ByteArray} (hb : pre b a = true) (hc : pre c a = true) (h : b.size = c.size) : b = c := by
  simp only [pre, decide_eq_true_eq] at hb hc
  refine ba_ext ?_
  rw [List.prefix_iff_eq_take] at hb hc
  rw [hb, hc]
  have : b.data.toList.length = c.data.toList.length := h
  rw [this]

theorem best_eq {a : ByteArray} {l : List Rt} {h : Nat} (hr : RRes a (dedup l) h) : h = (bestF a l).2 := by
  rcases bestF_spec a l with ⟨h1, h2⟩ | ⟨b, h1, h2, h3, h4⟩
  · rw [h1]
    rcases hr with ⟨h0, _⟩ | ⟨r, hm, hp, _, _⟩
    · exact h0
    · rw [h2 r.bits r.hop ((dedup_mem l r).1 hm)] at hp; exact absurd hp (by simp)
  · have hbm : (⟨b, (bestF a l).2⟩ : Rt) ∈ dedup l := (dedup_mem l ⟨b, (bestF a l).2⟩).2 h3
    rcases hr with ⟨_, h0⟩ | ⟨r, hm, hp, rfl, hmax⟩
    · have := h0 _ hbm; rw [h1] at this; exact absurd this (by simp)
    · have e1 := hmax _ hbm h1
      have e2 := h4 r.bits r.hop ((dedup_mem l r).1 hm) hp
      have : r.bits = b := pre_size_eq hp h1 (by simp only [] at e1; omega)
      have e3 := (dedup_mem l r).1 hm
      rw [this, h3] at e3
      exact (Option.some.inj e3).symm
end Go.Proofs.YtdfnmpmmkcpddaaDoor
