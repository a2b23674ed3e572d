/- How many costs are worked out. -/
import Derived.Test.YtdfnmpmmkcpddaaDoorSpecK
namespace Go.Proofs.YtdfnmpmmkcpddaaDoor

theorem pre_iff {b a : ByteArray} : pre b a = true ↔ b.data.toList <+: a.data.toList := by unfold pre; rw [decide_eq_true_eq]
theorem pre_trans {a b c : ByteArray} (h : pre a b = true) (k : pre b c = true) : pre a c = true := pre_iff.2 ((pre_iff.1 h).trans (pre_iff.1 k))
theorem pre_size {a b : ByteArray} (h : pre a b = true) : a.size ≤ b.size := (pre_iff.1 h).length_le
theorem pre_eq {a b : ByteArray} (h : pre a b = true) : a = b.extract 0 a.size := by
  refine ba_ext ?_
  have e1 : (b.extract 0 a.size).data.toList = b.data.toList.take a.size := by simp [ByteArray.data_extract, List.extract_eq_take_drop]
  rw [e1]
  exact List.prefix_iff_eq_take.1 (pre_iff.1 h)
theorem pre_of_extract {b r : ByteArray} {n : Nat} (h : pre b r = true) (hn : b.size ≤ n) : pre b (r.extract 0 n) = true := by
  have e1 : (r.extract 0 n).data.toList = r.data.toList.take n := by simp [ByteArray.data_extract, List.extract_eq_take_drop]
  refine pre_iff.2 ?_
  rw [e1, List.prefix_take_iff]
  exact ⟨pre_iff.1 h, hn⟩

/-- How many routes go on behind a text. -/
def tP (c : ByteArray) (r : Rt) : Bool := pre c r.bits && decide (c.size < r.bits.size)
def tc (D : List Rt) (c : ByteArray) : Nat := D.countP (tP c)
theorem tP_iff {c : ByteArray} {r : Rt} : tP c r = true ↔ pre c r.bits = true ∧ c.size < r.bits.size := by simp [tP]
theorem tc_le (D : List Rt) (c : ByteArray) : tc D c ≤ D.length := List.countP_le_length

theorem count_one {n : Nat} {r : Rt} : ∀ {L : List ByteArray}, L.Nodup → (∀ c ∈ L, c.size = n) → L.countP (fun c => tP c r) ≤ 1
  | [], _, _ => by simp
  | c :: L, hn, hs => by
    have ih := count_one (r := r) (List.nodup_cons.1 hn).2 fun x hx => hs x (by simp [hx])
    rw [List.countP_cons]
    split
    · rename_i hc
      have : L.countP (fun c => tP c r) = 0 := by
        rw [List.countP_eq_zero]
        intro x hx ht
        have e1 := pre_eq (tP_iff.1 hc).1
        have e2 := pre_eq (tP_iff.1 ht).1
        rw [hs c (by simp)] at e1
        rw [hs x (by simp [hx])] at e2
        exact (List.nodup_cons.1 hn).1 (by rw [e1, ← e2]; exact hx)
      omega
    · omega
theorem sum_ind {n : Nat} {b : ByteArray} {L : List ByteArray} (hn : L.Nodup) (hs : ∀ c ∈ L, c.size = n ∧ pre b c = true) (r : Rt) : L.countP (fun c => tP c r) ≤ if tP b r = true then 1 else 0 := by
  have h1 := count_one (r := r) hn fun c hc => (hs c hc).1
  split
  · exact h1
  · rename_i hb
    have : L.countP (fun c => tP c r) = 0 := by
      rw [List.countP_eq_zero]
      intro c hc ht
      obtain ⟨h2, h3⟩ := tP_iff.1 ht
      have h4 := pre_size (hs c hc).2
      exact hb (tP_iff.2 ⟨pre_trans (hs c hc).2 h2, by omega⟩)
    omega
/-- The sum over texts. -/
def tsum (D : List Rt) : List ByteArray → Nat
  | [] => 0
  | c :: L => tc D c + tsum D L
theorem tsum_cons (r : Rt) (D : List Rt) : ∀ L, tsum (r :: D) L = L.countP (fun c => tP c r) + tsum D L
  | [] => by simp [tsum]
  | c :: L => by
    have ih := tsum_cons r D L
    simp only [tsum, tc, List.countP_cons] at ih ⊢
    omega
theorem tsum_nil : ∀ L, tsum [] L = 0
  | [] => rfl
  | c :: L => by simp [tsum, tc, tsum_nil L]
theorem tsum_le {n : Nat} {b : ByteArray} {L : List ByteArray} (hn : L.Nodup) (hs : ∀ c ∈ L, c.size = n ∧ pre b c = true) : ∀ D, tsum D L ≤ tc D b
  | [] => by rw [tsum_nil]; simp
  | r :: D => by
    rw [tsum_cons]
    have h1 := sum_ind hn hs r
    have ih := tsum_le hn hs D
    unfold tc at ih ⊢
    rw [List.countP_cons]
    omega
theorem tsum_drop (D : List Rt) : ∀ (L : List ByteArray) (j : Nat) (h : j < L.length), tsum D (L.drop j) = tc D L[j] + tsum D (L.drop (j + 1))
  | c :: L, 0, _ => by simp [tsum]
  | c :: L, j + 1, h => by simpa using tsum_drop D L j (by simpa using h)
  | [], j, h => by simp at h

theorem under_nodup (D : List Rt) (b : ByteArray) (s : Nat) : (underF D b s).Nodup := by
  refine snoc_ind (p := fun D => (underF D b s).Nodup) ?_ ?_ D
  · simp [underF]
  · intro D r ih
    rw [underF_snoc]; unfold ustep
    split
    · split
      · exact ih
      · rename_i hm
        rw [List.nodup_append]
        refine ⟨ih, by simp, ?_⟩
        intro x hx y hy e
        rw [List.mem_singleton] at hy
        exact hm (memB_iff.2 (by rw [← hy, ← e]; exact hx))
    · exact ih
theorem under_facts {D : List Rt} {b c : ByteArray} {s : Nat} (h : c ∈ underF D b s) : c.size = b.size + s ∧ pre b c = true ∧ 1 ≤ tc D c := by
  obtain ⟨r, hr, hp, hlt, rfl⟩ := underF_mem.1 h
  obtain ⟨h1, h2⟩ := pre_extract (r := r.bits) (n := b.size + s) (by omega)
  refine ⟨h2, pre_of_extract hp (by omega), ?_⟩
  exact List.one_le_countP_iff.2 ⟨r, hr, tP_iff.2 ⟨h1, by omega⟩⟩
theorem under_tsum (D : List Rt) (b : ByteArray) (s : Nat) : tsum D (underF D b s) ≤ tc D b :=
  tsum_le (under_nodup D b s) (fun _ hc => ⟨(under_facts hc).1, (under_facts hc).2.1⟩) D
theorem height_up {D : List Rt} {c : ByteArray} {n : Nat} (h : ∀ r ∈ D, pre c r.bits = true → r.bits.size - c.size ≤ n) : heightF D c ≤ n := by
  revert h
  refine snoc_ind (p := fun D => (∀ r ∈ D, pre c r.bits = true → r.bits.size - c.size ≤ n) → heightF D c ≤ n) ?_ ?_ D
  · intro _; simp [heightF]
  · intro D r ih h
    have h1 := ih fun x hx => h x (by simp [hx])
    rw [heightF_snoc]; unfold hstep; split
    · rename_i hc; exact h r (by simp) hc.1
    · exact h1
theorem under_low {D : List Rt} {b c : ByteArray} {s : Nat} (h : c ∈ underF D b s) : heightF D c ≤ heightF D b - s := by
  obtain ⟨h1, h2, _⟩ := under_facts h
  refine height_up fun r hr hp => ?_
  have := heightF_ge hr (pre_trans h2 hp)
  omega

theorem room_start {n S T p M : Nat} (h : n + T * (3 * p) ≤ M) (hS : S ≤ T) : n + S * (2 * p) + T * p ≤ M := by
  have h1 := Nat.mul_le_mul_right (2 * p) hS
  have h2 : T * (3 * p) = T * (2 * p) + T * p := by rw [← Nat.mul_add]; congr 1; omega
  omega
theorem room_skip {n T p M : Nat} (h : n + T * (3 * p) ≤ M) : n + T * p ≤ M := by
  have h2 : T * p ≤ T * (3 * p) := Nat.mul_le_mul_left _ (by omega)
  omega
theorem room_part {t p q : Nat} (ht : 1 ≤ t) (hq : q ≤ p) (hp : 1 ≤ p) : 1 + t * q ≤ t * (2 * p) := by
  have h1 := Nat.mul_le_mul_left t hq
  have h2 : t * (2 * p) = t * p + t * p := by rw [← Nat.mul_add]; congr 1; omega
  have h3 := Nat.mul_le_mul ht hp
  omega
theorem room_step {n n' t S T p q M : Nat} (h : n + (t + S) * (2 * p) + T * p ≤ M) (ht : 1 ≤ t) (hq : q ≤ p) (hp : 1 ≤ p) (hn : n' ≤ n + 1 + t * q) : n' + S * (2 * p) + T * p ≤ M := by
  have h1 := room_part ht hq hp
  rw [Nat.add_mul] at h
  omega
theorem room_call {n t S T p q M L : Nat} (h : n + (t + S) * (2 * p) + T * p ≤ M) (hL : M ≤ L) (ht : 1 ≤ t) (hq : q ≤ p) (hp : 1 ≤ p) : n + 1 + t * q ≤ L := by
  have h1 := room_part ht hq hp
  rw [Nat.add_mul] at h
  omega
end Go.Proofs.YtdfnmpmmkcpddaaDoor
