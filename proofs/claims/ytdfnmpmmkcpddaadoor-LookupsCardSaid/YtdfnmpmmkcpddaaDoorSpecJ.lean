/- The plain functions of images: a lookup. -/
import Derived.Test.YtdfnmpmmkcpddaaDoorSpecI
import Derived.Test.YtdfnmpmmkcpddaaDoorSpecB
namespace Go.Proofs.YtdfnmpmmkcpddaaDoor

/-- The next t bits of an address of W bits, behind the first B, as a number. -/
def slotF (A W B t : Nat) : Nat := A / 2 ^ (W - B - t) % 2 ^ t
/-- The entry that a lookup comes to behind the entry at p, which tells of a node: its place. -/
def nextF (s : ByteArray) (A W p B : Nat) : Nat := entF s (p + b2 s p - 1000) + 2 * (onesF s (p + b2 s p - 1000) (slotF A W B (byt s (p + b2 s p - 1000)) + 1) - 1)
/-- A lookup from the entry at p on, n nodes at most, behind B bits: the hop, the nodes. -/
def lookF (s : ByteArray) (A W : Nat) : Nat → Nat → Nat → Nat × Nat
  | 0, p, _ => (b2 s p, 0)
  | n + 1, p, B => if b2 s p ≤ 250 then (b2 s p, 0) else
      ((lookF s A W n (nextF s A W p B) (B + byt s (p + b2 s p - 1000))).1, (lookF s A W n (nextF s A W p B) (B + byt s (p + b2 s p - 1000))).2 + 1)

/-- The image that begins at a place of bytes; what a lookup answers there. -/
def imgAt (s : ByteArray) (i : Nat) : ByteArray := s.extract i (i + b2 s (i + 4))
def lookE (s : ByteArray) (i A : Int) : Nat :=
  if i < 0 ∨ (s.size : Int) < i then 2 else if (s.size : Int) < i + 10 ∨ s.size < i.toNat + b2 s (i.toNat + 4) then 6 else if imgF (imgAt s i.toNat) = false then 6 else
    if 0 ≤ A ∧ A < ((2 ^ byt (imgAt s i.toNat) 2 : Nat) : Int) then 0 else 2
def lookR (s : ByteArray) (i A : Int) : Nat × Nat :=
  if lookE s i A = 0 then lookF (imgAt s i.toNat) A.toNat (byt (imgAt s i.toNat) 2) (byt (imgAt s i.toNat) 3) 6 0 else (0, 0)

theorem slot_step {A W B i : Nat} (h : B + i + 1 ≤ W) : slotF A W B (i + 1) = 2 * slotF A W B i + A / 2 ^ (W - 1 - (B + i)) % 2 := by
  unfold slotF
  rw [show 2 ^ (i + 1) = 2 * 2 ^ i from by rw [Nat.pow_succ, Nat.mul_comm], Nat.mod_mul, Nat.div_div_eq_div_mul, ← Nat.pow_succ, show (W - B - (i + 1)).succ = W - B - i from by omega, show W - B - (i + 1) = W - 1 - (B + i) from by omega]
  omega
theorem slot_lt (A W B t : Nat) : slotF A W B t < 2 ^ t := Nat.mod_lt _ (Nat.pow_pos (by omega))

theorem lowb_get (A : Nat) : ∀ (W k : Nat), k < W → (lowb A W)[k]? = some (dg (A / 2 ^ (W - 1 - k) % 2))
  | W + 1, 0, _ => by simp [lowb]
  | W + 1, k + 1, h => by
    rw [lowb, List.getElem?_cons_succ, lowb_get A W k (by omega), show W + 1 - 1 - (k + 1) = W - 1 - k from by omega]
theorem addr_byt {A W k : Nat} (h : k < W) : byt (addr A W) k = 48 + A / 2 ^ (W - 1 - k) % 2 := by
  have hk : k < (addr A W).size := by rw [addr_size]; exact h
  rw [byt_in hk]
  have h1 := lowb_get A W k h
  have h2 : (addr A W)[k] = dg (A / 2 ^ (W - 1 - k) % 2) := by
    have h3 : (lowb A W)[k]'(by rw [lowb_length]; exact h) = dg (A / 2 ^ (W - 1 - k) % 2) := by
      rw [List.getElem?_eq_getElem (by rw [lowb_length]; exact h)] at h1; exact Option.some.inj h1
    have h4 : (addr A W)[k] = (lowb A W).toArray[k]'(by simp [lowb_length]; exact h) := rfl
    rw [h4, List.getElem_toArray, h3]
  rw [h2]
  have := dg_toNat (d := A / 2 ^ (W - 1 - k) % 2) (by omega)
  omega

theorem onesF_mono (s : ByteArray) (p : Nat) {a b : Nat} (h : a ≤ b) : onesF s p a ≤ onesF s p b := by
  induction b with
  | zero => have : a = 0 := by omega
            subst this; exact Nat.le_refl _
  | succ b ih =>
    by_cases e : a = b + 1
    · subst e; exact Nat.le_refl _
    · have := ih (by omega)
      rw [onesF]; split <;> omega
theorem onesF_pos {s : ByteArray} {p j : Nat} (h : setF s p 0 = true) : 1 ≤ onesF s p (j + 1) := by
  have h1 : onesF s p 1 = 1 := by simp [onesF, h]
  have := onesF_mono s p (show 1 ≤ j + 1 by omega)
  omega
theorem nodeF_set {s : ByteArray} {p e b : Nat} (h : nodeF s p e b = true) : setF s p 0 = true ∧ entF s p ≤ e := by
  simp only [nodeF, Bool.and_eq_true, decide_eq_true_eq] at h
  exact ⟨h.1.1.2, h.1.1.1.2⟩
theorem byt_extract {s : ByteArray} {i n k : Nat} (h : i + n ≤ s.size) (hk : k < n) : byt (s.extract i (i + n)) k = byt s (i + k) := by
  have h1 : k < (s.extract i (i + n)).size := by rw [ByteArray.size_extract]; omega
  rw [byt_in h1, byt_in (s := s) (k := i + k) (by omega)]
  congr 1
  show (s.extract i (i + n)).data[k]'h1 = s.data[i + k]'(by show i + k < s.size; omega)
  simp [ByteArray.data_extract]
theorem imgAt_size {s : ByteArray} {i : Nat} (h : i + b2 s (i + 4) ≤ s.size) : (imgAt s i).size = b2 s (i + 4) := by
  unfold imgAt; rw [ByteArray.size_extract]; omega
end Go.Proofs.YtdfnmpmmkcpddaaDoor
