/- The plain law of Print: routes in order. -/
import Derived.Test.YtdfnmpmmkcpddaaDoorSpecC
namespace Go.Proofs.YtdfnmpmmkcpddaaDoor

theorem bl_irrefl : ∀ a : List UInt8, Op.bytesLess a a = false
  | [] => rfl
  | x :: a => by simp [Op.bytesLess, bl_irrefl a]
theorem bl_trans : ∀ a b c : List UInt8, Op.bytesLess a b = true → Op.bytesLess b c = true → Op.bytesLess a c = true
  | [], [], _, h, _ => by simp [Op.bytesLess] at h
  | [], _ :: _, [], _, h => by simp [Op.bytesLess] at h
  | [], _ :: _, _ :: _, _, _ => rfl
  | _ :: _, [], _, h, _ => by simp [Op.bytesLess] at h
  | _ :: _, _ :: _, [], _, h => by simp [Op.bytesLess] at h
  | x :: a, y :: b, z :: c, h1, h2 => by
    simp only [Op.bytesLess, Bool.or_eq_true, Bool.and_eq_true, decide_eq_true_eq, beq_iff_eq, UInt8.lt_iff_toNat_lt] at h1 h2 ⊢
    rcases h1 with h1 | ⟨rfl, h1⟩ <;> rcases h2 with h2 | ⟨rfl, h2⟩
    · exact .inl (by omega)
    · exact .inl h1
    · exact .inl h2
    · exact .inr ⟨rfl, bl_trans a b c h1 h2⟩
theorem bl_tri : ∀ a b : List UInt8, Op.bytesLess a b = false → Op.bytesLess b a = false → a = b
  | [], [], _, _ => rfl
  | [], _ :: _, h, _ => by simp [Op.bytesLess] at h
  | _ :: _, [], _, h => by simp [Op.bytesLess] at h
  | x :: a, y :: b, h1, h2 => by
    simp only [Op.bytesLess, Bool.or_eq_false_iff, Bool.and_eq_false_iff, decide_eq_false_iff_not, beq_eq_false_iff_ne, UInt8.lt_iff_toNat_lt] at h1 h2
    have hxy : x = y := UInt8.toNat_inj.1 (by omega)
    subst hxy
    rcases h1.2 with h | h
    · exact absurd rfl h
    · rcases h2.2 with h' | h'
      · exact absurd rfl h'
      · rw [bl_tri a b h h']

/-- One text of bits comes ahead of another. -/
def lt (a b : ByteArray) : Bool := Op.bytesLess a.toList b.toList
theorem lt_irrefl (a : ByteArray) : lt a a = false := bl_irrefl _
theorem lt_trans {a b c : ByteArray} (h1 : lt a b = true) (h2 : lt b c = true) : lt a c = true := bl_trans _ _ _ h1 h2
theorem lt_tri {a b : ByteArray} (h1 : lt a b = false) (h2 : lt b a = false) : a = b :=
  ba_ext (by have := bl_tri _ _ h1 h2; rwa [ByteArray.toList_eq, ByteArray.toList_eq] at this)
theorem lt_ne {a b : ByteArray} (h : lt a b = true) : a ≠ b := fun e => by subst e; rw [lt_irrefl] at h; exact absurd h (by simp)
theorem lt_asymm {a b : ByteArray} (h : lt a b = true) : lt b a = false := by
  cases h' : lt b a with
  | false => rfl
  | true => have := lt_trans h h'; rw [lt_irrefl] at this; exact absurd this (by simp)

/-- Routes in order. -/
def Ord (l : List Rt) : Prop := l.Pairwise (fun x y => lt x.bits y.bits = true)

/-- One more at its place, where it displaces one with the same bits. -/
def layR : List Rt → Rt → List Rt
  | [], x => [x]
  | r :: l, x => if lt r.bits x.bits = true then r :: layR l x else if r.bits = x.bits then x :: l else x :: r :: l

theorem layR_mem {x : Rt} : ∀ {l : List Rt}, Ord l → ∀ r : Rt, r ∈ layR l x ↔ r = x ∨ (r.bits ≠ x.bits ∧ r ∈ l)
  | [], _, r => by simp [layR]
  | y :: l, ho, r => by
    have ho' := List.pairwise_cons.1 ho
    unfold layR
    split
    · rename_i hy
      simp only [List.mem_cons, layR_mem ho'.2 r]
      constructor
      · rintro (rfl | rfl | ⟨h1, h2⟩)
        · exact .inr ⟨lt_ne hy, .inl rfl⟩
        · exact .inl rfl
        · exact .inr ⟨h1, .inr h2⟩
      · rintro (rfl | ⟨h1, rfl | h2⟩)
        · exact .inr (.inl rfl)
        · exact .inl rfl
        · exact .inr (.inr ⟨h1, h2⟩)
    · split
      · rename_i hy
        simp only [List.mem_cons]
        constructor
        · rintro (rfl | h)
          · exact .inl rfl
          · exact .inr ⟨fun e => lt_ne (ho'.1 r h) (by rw [hy, e]), .inr h⟩
        · rintro (rfl | ⟨h1, rfl | h2⟩)
          · exact .inl rfl
          · exact absurd hy h1
          · exact .inr h2
      · rename_i h1 h2
        simp only [List.mem_cons]
        have hxy : lt x.bits y.bits = true := by
          cases h3 : lt x.bits y.bits with
          | true => rfl
          | false => exact absurd (lt_tri (by simpa using h1) h3) h2
        constructor
        · rintro (rfl | rfl | h)
          · exact .inl rfl
          · exact .inr ⟨h2, .inl rfl⟩
          · exact .inr ⟨fun e => lt_ne (lt_trans hxy (ho'.1 r h)) e.symm, .inr h⟩
        · rintro (rfl | ⟨_, h⟩)
          · exact .inl rfl
          · exact .inr h
theorem layR_ord {x : Rt} : ∀ {l : List Rt}, Ord l → Ord (layR l x)
  | [], _ => by simp [layR, Ord]
  | y :: l, ho => by
    have ho' := List.pairwise_cons.1 ho
    unfold layR
    split
    · rename_i hy
      refine List.pairwise_cons.2 ⟨fun r hr => ?_, layR_ord ho'.2⟩
      rcases (layR_mem ho'.2 r).1 hr with rfl | ⟨_, h⟩
      · exact hy
      · exact ho'.1 r h
    · split
      · rename_i hy
        exact List.pairwise_cons.2 ⟨fun r hr => by rw [← hy]; exact ho'.1 r hr, ho'.2⟩
      · rename_i h1 h2
        have hxy : lt x.bits y.bits = true := by
          cases h3 : lt x.bits y.bits with
          | true => rfl
          | false => exact absurd (lt_tri (by simpa using h1) h3) h2
        refine List.pairwise_cons.2 ⟨fun r hr => ?_, ho⟩
        rcases List.mem_cons.1 hr with rfl | h
        · exact hxy
        · exact lt_trans hxy (ho'.1 r h)

/-- Each route once, in order. -/
def ordR (l : List Rt) : List Rt := l.foldl layR []
theorem ordR_snoc (l : List Rt) (r : Rt) : ordR (l ++ [r]) = layR (ordR l) r := by simp [ordR]
theorem ordR_take (l : List Rt) (i : Nat) (h : i < l.length) : ordR (l.take (i + 1)) = layR (ordR (l.take i)) l[i] := by
  rw [List.take_succ_eq_append_getElem h, ordR_snoc]
theorem ordR_ord (l : List Rt) : Ord (ordR l) := by
  refine snoc_ind (p := fun l => Ord (ordR l)) ?_ ?_ l
  · simp [ordR, Ord]
  · intro l r ih; rw [ordR_snoc]; exact layR_ord ih
theorem ordR_mem (l : List Rt) (r : Rt) : r ∈ ordR l ↔ lastOf l r.bits = some r.hop := by
  refine snoc_ind (p := fun l => r ∈ ordR l ↔ lastOf l r.bits = some r.hop) ?_ ?_ l
  · simp [ordR, lastOf]
  · intro l x ih
    rw [ordR_snoc, layR_mem (ordR_ord l), lastOf_snoc, ih]
    by_cases hx : x.bits = r.bits
    · rw [if_pos hx]
      constructor
      · rintro (rfl | ⟨h, _⟩)
        · rfl
        · exact absurd hx.symm h
      · intro h
        have := Option.some.inj h
        exact .inl (by cases r; cases x; simp_all)
    · rw [if_neg hx]
      constructor
      · rintro (rfl | ⟨_, h⟩)
        · exact absurd rfl hx
        · exact h
      · intro h; exact .inr ⟨fun e => hx e.symm, h⟩

/-- Two ordered lists of the same routes are one. -/
theorem ord_unique : ∀ {l m : List Rt}, Ord l → Ord m → (∀ r, r ∈ l ↔ r ∈ m) → l = m
  | [], [], _, _, _ => rfl
  | [], y :: m, _, _, h => by have := (h y).2 (by simp); simp at this
  | x :: l, [], _, _, h => by have := (h x).1 (by simp); simp at this
  | x :: l, y :: m, hl, hm, h => by
    have hl' := List.pairwise_cons.1 hl
    have hm' := List.pairwise_cons.1 hm
    have hxy : x = y := by
      rcases List.mem_cons.1 ((h x).1 (by simp)) with e | e
      · exact e
      · rcases List.mem_cons.1 ((h y).2 (by simp)) with e' | e'
        · exact e'.symm
        · have h1 := hm'.1 x e
          have h2 := hl'.1 y e'
          rw [lt_asymm h1] at h2; exact absurd h2 (by simp)
    subst hxy
    rw [ord_unique hl'.2 hm'.2 fun r => ?_]
    constructor
    · intro hr
      rcases List.mem_cons.1 ((h r).1 (List.mem_cons_of_mem _ hr)) with e | e
      · subst e; have := hl'.1 _ hr; rw [lt_irrefl] at this; exact absurd this (by simp)
      · exact e
    · intro hr
      rcases List.mem_cons.1 ((h r).2 (List.mem_cons_of_mem _ hr)) with e | e
      · subst e; have := hm'.1 _ hr; rw [lt_irrefl] at this; exact absurd this (by simp)
      · exact e

theorem layR_length (l : List Rt) (x : Rt) : (layR l x).length ≤ l.length + 1 := by
  induction l with
  | nil => simp [layR]
  | cons r l ih => unfold layR; split
                   · simp; omega
                   · split <;> simp
theorem ordR_length (l : List Rt) : (ordR l).length ≤ l.length := by
  refine snoc_ind (p := fun l => (ordR l).length ≤ l.length) ?_ ?_ l
  · simp [ordR]
  · intro l r ih; rw [ordR_snoc]; have := layR_length (ordR l) r; simp; omega

/-- layR, read as the program does it. -/
theorem layR_drop {l : List Rt} {x : Rt} {i : Nat} (hi : i < l.length) (h : lt l[i].bits x.bits = true) : layR (l.drop i) x = l[i] :: layR (l.drop (i + 1)) x := by
  rw [List.drop_eq_getElem_cons hi, layR, if_pos h]
theorem layR_eq {l : List Rt} {x : Rt} {i : Nat} (hi : i < l.length) (h1 : lt l[i].bits x.bits = false) (h2 : l[i].bits = x.bits) : layR (l.drop i) x = x :: l.drop (i + 1) := by
  rw [List.drop_eq_getElem_cons hi, layR, if_neg (by simp [h1]), if_pos h2]
theorem layR_ne {l : List Rt} {x : Rt} {i : Nat} (hi : i < l.length) (h1 : lt l[i].bits x.bits = false) (h2 : l[i].bits ≠ x.bits) : layR (l.drop i) x = x :: l.drop i := by
  rw [List.drop_eq_getElem_cons hi, layR, if_neg (by simp [h1]), if_neg h2]
theorem layR_end {l : List Rt} {x : Rt} {i : Nat} (hi : l.length ≤ i) : layR (l.drop i) x = x :: l.drop i := by
  rw [List.drop_of_length_le hi]; rfl
end Go.Proofs.YtdfnmpmmkcpddaaDoor
