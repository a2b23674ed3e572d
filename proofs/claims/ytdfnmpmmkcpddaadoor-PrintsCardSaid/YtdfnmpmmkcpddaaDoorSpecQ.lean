/- The plain functions of Print: numbers and lines as texts. -/
import Derived.Test.YtdfnmpmmkcpddaaDoorSpecP
import Derived.Lib.ItoaNum
namespace Go.Proofs.YtdfnmpmmkcpddaaDoor

def decB (n : Nat) : ByteArray := ⟨(Lib.decDigits n).toArray⟩
def bitsOr (b : ByteArray) : ByteArray := if b = (⟨#[]⟩ : ByteArray) then ⟨#[42]⟩ else b
def lineB (r : Rt) : ByteArray := bitsOr r.bits ++ (⟨#[32]⟩ : ByteArray) ++ decB r.hop ++ (⟨#[10]⟩ : ByteArray)
def textB (l : List Rt) : ByteArray := l.foldl (fun t r => t ++ lineB r) (⟨#[]⟩ : ByteArray)
theorem textB_snoc (l : List Rt) (r : Rt) : textB (l ++ [r]) = textB l ++ lineB r := by simp [textB]
theorem textB_take (l : List Rt) (i : Nat) (h : i < l.length) : textB (l.take (i + 1)) = textB (l.take i) ++ lineB l[i] := by
  rw [List.take_succ_eq_append_getElem h, textB_snoc]

/-- What a table's route is: few bits, a hop. -/
def Fit (r : Rt) : Prop := r.bits.size ≤ 12 ∧ 1 ≤ r.hop ∧ r.hop ≤ 250

theorem decDigits_len {n : Nat} (h : n ≤ 250) : (Lib.decDigits n).length ≤ 3 := by
  unfold Lib.decDigits; split
  · simp
  · unfold Lib.decDigits; split
    · simp
    · unfold Lib.decDigits; split
      · simp
      · omega
theorem decB_size {n : Nat} (h : n ≤ 250) : (decB n).size ≤ 3 := by
  have := decDigits_len h
  show (Lib.decDigits n).toArray.size ≤ 3
  simpa using this
theorem bitsOr_size {b : ByteArray} (h : b.size ≤ 12) : (bitsOr b).size ≤ 12 := by
  unfold bitsOr; split
  · show 1 ≤ 12; omega
  · exact h
theorem lineB_size {r : Rt} (h : Fit r) : (lineB r).size ≤ 20 := by
  have h1 := bitsOr_size h.1
  have h2 := decB_size h.2.2
  unfold lineB
  rw [ByteArray.size_append, ByteArray.size_append, ByteArray.size_append]
  show (bitsOr r.bits).size + 1 + (decB r.hop).size + 1 ≤ 20
  omega
theorem textB_size {l : List Rt} (h : ∀ r ∈ l, Fit r) : (textB l).size ≤ 20 * l.length := by
  revert h
  refine snoc_ind (p := fun l => (∀ r ∈ l, Fit r) → (textB l).size ≤ 20 * l.length) ?_ ?_ l
  · intro _; simp [textB]; rfl
  · intro l r ih h
    have h1 := ih fun x hx => h x (by simp [hx])
    have h2 := lineB_size (h r (by simp))
    rw [textB_snoc, ByteArray.size_append]
    simp; omega

theorem lRt_fit {s : ByteArray} {W p : Nat} (hW : W ≤ 12) (h : lBad s W p = false) : Fit (lRt s W p) := by
  simp only [lBad, decide_eq_false_iff_not] at h
  refine ⟨?_, ?_, hopGo_le s 3 0 _ (by omega)⟩
  · show (bOf s W p).size ≤ 12
    unfold bOf; split
    · show 0 ≤ 12; omega
    · have := nbits_le s W p
      rw [ByteArray.size_extract]; omega
  · show 1 ≤ (hopGo s 3 0 (bEnd s W p + 1)).1
    omega
theorem parse_fit {s : ByteArray} {W : Nat} (hW : W ≤ 12) : ∀ {f p : Nat} {acc l : List Rt} {q : Nat}, (∀ r ∈ acc, Fit r) → parse s W f p acc = (some l, q) → ∀ r ∈ l, Fit r
  | 0, p, acc, l, q, ha, h => by simp [parse] at h; rw [← h.1]; exact ha
  | f + 1, p, acc, l, q, ha, h => by
    unfold parse at h
    split at h
    · simp at h; rw [← h.1]; exact ha
    · split at h
      · simp at h
      · rename_i hb
        refine parse_fit hW ?_ h
        intro r hr
        rcases List.mem_append.1 hr with h1 | h1
        · exact ha r h1
        · rw [List.mem_singleton] at h1; subst h1; exact lRt_fit hW (by simpa using hb)
theorem tRts_fit (s : ByteArray) (W : Int) : ∀ r ∈ tRts s W, Fit r := by
  by_cases h1 : 400 < s.size
  · rw [(t_long h1).1]; simp
  by_cases h2 : W < 1 ∨ 12 < W
  · rw [(t_arg (by omega) h2).1]; simp
  obtain ⟨k, rfl⟩ := Int.eq_ofNat_of_zero_le (show 0 ≤ W by omega)
  cases ht : table s k with
  | mk o q =>
    cases o with
    | none => rw [(t_bad (by omega) (by omega) (by omega) ht).1]; simp
    | some l =>
      by_cases hl : 24 < l.length
      · rw [(t_many (by omega) (by omega) (by omega) ht hl).1]; simp
      · rw [(t_ok (by omega) (by omega) (by omega) ht hl).1]
        exact parse_fit (by omega) (by simp) ht

theorem lastOf_mem {l : List Rt} {b : ByteArray} {h : Nat} : lastOf l b = some h → (⟨b, h⟩ : Rt) ∈ l := by
  refine snoc_ind (p := fun l => lastOf l b = some h → (⟨b, h⟩ : Rt) ∈ l) ?_ ?_ l
  · intro e; simp [lastOf] at e
  · intro l r ih e
    rw [lastOf_snoc] at e
    split at e
    · rename_i hb
      have := Option.some.inj e
      subst hb this
      simp
    · simp [ih e]
theorem ordR_fit {l : List Rt} (h : ∀ r ∈ l, Fit r) : ∀ r ∈ ordR l, Fit r := fun r hr => h r (lastOf_mem ((ordR_mem l r).1 hr))
theorem dedup_fit {l : List Rt} (h : ∀ r ∈ l, Fit r) : ∀ r ∈ dedup l, Fit r := fun r hr => h r (lastOf_mem ((dedup_mem l r).1 hr))

/-- A digit's byte. -/
def dgt (d : Nat) : UInt8 := UInt8.ofNat (48 + d)
theorem dgt_toNat {d : Nat} (h : d ≤ 9) : ((dgt d).toNat : Int) = 48 + (d : Int) := by
  have : (dgt d).toNat = 48 + d := by
    show (UInt8.ofNat (48 + d)).toNat = 48 + d
    rw [UInt8.toNat_ofNat']; omega
  omega
theorem dec_step {q : Nat} {t : List UInt8} (hq : 0 < q) : (if q / 10 = 0 then dgt (q % 10) :: t else Lib.decDigits (q / 10) ++ (dgt (q % 10) :: t)) = Lib.decDigits q ++ t := by
  conv => rhs; unfold Lib.decDigits
  by_cases h : q < 10
  · rw [dif_pos h, if_pos (by omega)]
    rw [show q % 10 = q from by omega]; rfl
  · rw [dif_neg h, if_neg (by omega)]
    simp [dgt]
end Go.Proofs.YtdfnmpmmkcpddaaDoor
