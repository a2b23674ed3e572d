import Derived.Test.YtdfnmpmmkcpddaaDoorQ10
import Derived.Test.YtdfnmpmmkcpddaaDoorQ09
/- The plain functions of the cost, as the document's answer works it out. -/
namespace Go.Proofs.YtdfnmpmmkcpddaaDoor

/-- The height of a text; 0: it is no node. -/
def hstep (b : ByteArray) (n : Nat) (r : Rt) : Nat := if pre b r.bits = true ∧ n < r.bits.size - b.size then r.bits.size - b.size else n
def heightF (D : List Rt) (b : ByteArray) : Nat := D.foldl (hstep b) 0
/-- The nodes that have s bits more. -/
def memB (x : ByteArray) (o : List ByteArray) : Bool := o.any fun c => decide (c = x)
theorem memB_iff {x : ByteArray} {o : List ByteArray} : memB x o = true ↔ x ∈ o := by
  unfold memB
  rw [List.any_eq_true]
  constructor
  · rintro ⟨c, hc, h⟩; rw [decide_eq_true_eq] at h; rw [← h]; exact hc
  · intro h; exact ⟨x, h, by simp⟩
def ustep (b : ByteArray) (s : Nat) (o : List ByteArray) (r : Rt) : List ByteArray :=
  if pre b r.bits = true ∧ b.size + s < r.bits.size then (if memB (r.bits.extract 0 (b.size + s)) o = true then o else o ++ [r.bits.extract 0 (b.size + s)]) else o
def underF (D : List Rt) (b : ByteArray) (s : Nat) : List ByteArray := D.foldl (ustep b s) []
/-- One stride more. -/
def cstep (l : List ByteArray) (k s : Nat) (f : ByteArray → Int) (least : Int) : Int :=
  if l ≠ [] ∧ k = 0 then least else if least < 0 ∨ l.foldl (fun n c => n + f c) ((2 ^ s : Nat) : Int) < least then l.foldl (fun n c => n + f c) ((2 ^ s : Nat) : Int) else least
def leastF (D : List Rt) (b : ByteArray) (k : Nat) (f : ByteArray → Int) : Nat → Int
  | 0 => -1
  | s + 1 => cstep (underF D b (s + 1)) k (s + 1) f (leastF D b k f s)
/-- The cost of node b with depth k. -/
def costZ (D : List Rt) : Nat → ByteArray → Int
  | 0, _ => -1
  | k + 1, b => leastF D b k (costZ D k) (heightF D b)

theorem heightF_snoc (D : List Rt) (r : Rt) (b : ByteArray) : heightF (D ++ [r]) b = hstep b (heightF D b) r := by simp [heightF]
theorem heightF_take (D : List Rt) (b : ByteArray) (i : Nat) (h : i < D.length) : heightF (D.take (i + 1)) b = hstep b (heightF (D.take i) b) D[i] := by
  rw [List.take_succ_eq_append_getElem h, heightF_snoc]
theorem underF_snoc (D : List Rt) (r : Rt) (b : ByteArray) (s : Nat) : underF (D ++ [r]) b s = ustep b s (underF D b s) r := by simp [underF]
theorem underF_take (D : List Rt) (b : ByteArray) (s i : Nat) (h : i < D.length) : underF (D.take (i + 1)) b s = ustep b s (underF (D.take i) b s) D[i] := by
  rw [List.take_succ_eq_append_getElem h, underF_snoc]
theorem underF_length (D : List Rt) (b : ByteArray) (s : Nat) : (underF D b s).length ≤ D.length := by
  refine snoc_ind (p := fun D => (underF D b s).length ≤ D.length) ?_ ?_ D
  · simp [underF]
  · intro D r ih
    rw [underF_snoc]; unfold ustep
    split
    · split
      · simp; omega
      · simp; omega
    · simp; omega
theorem underF_mem {D : List Rt} {b c : ByteArray} {s : Nat} : c ∈ underF D b s ↔ ∃ r ∈ D, pre b r.bits = true ∧ b.size + s < r.bits.size ∧ c = r.bits.extract 0 (b.size + s) := by
  refine snoc_ind (p := fun D => c ∈ underF D b s ↔ ∃ r ∈ D, pre b r.bits = true ∧ b.size + s < r.bits.size ∧ c = r.bits.extract 0 (b.size + s)) ?_ ?_ D
  · simp [underF]
  · intro D r ih
    rw [underF_snoc]; unfold ustep
    constructor
    · intro h
      have key : c ∈ underF D b s ∨ (pre b r.bits = true ∧ b.size + s < r.bits.size ∧ c = r.bits.extract 0 (b.size + s)) := by
        split at h
        · rename_i hc
          split at h
          · exact .inl h
          · rcases List.mem_append.1 h with h1 | h1
            · exact .inl h1
            · exact .inr ⟨hc.1, hc.2, by simpa using h1⟩
        · exact .inl h
      rcases key with h1 | ⟨h1, h2, h3⟩
      · obtain ⟨x, hx, h4⟩ := ih.1 h1
        exact ⟨x, by simp [hx], h4⟩
      · exact ⟨r, by simp, h1, h2, h3⟩
    · rintro ⟨x, hx, h1, h2, h3⟩
      rcases List.mem_append.1 hx with h4 | h4
      · have := ih.2 ⟨x, h4, h1, h2, h3⟩
        split
        · split
          · exact this
          · simp [this]
        · exact this
      · rw [List.mem_singleton] at h4
        subst h4
        rw [if_pos ⟨h1, h2⟩]
        split
        · rename_i hm; rw [h3]; exact memB_iff.1 hm
        · simp [h3]
theorem heightF_le {D : List Rt} {b : ByteArray} {n : Nat} (h : ∀ r ∈ D, r.bits.size ≤ n) : heightF D b ≤ n - b.size := by
  revert h
  refine snoc_ind (p := fun D => (∀ r ∈ D, r.bits.size ≤ n) → heightF D b ≤ n - b.size) ?_ ?_ D
  · intro _; simp [heightF]
  · intro D r ih h
    have h1 := ih fun x hx => h x (by simp [hx])
    have h2 := h r (by simp)
    rw [heightF_snoc]; unfold hstep; split
    · omega
    · exact h1
theorem heightF_ge {D : List Rt} {b : ByteArray} {r : Rt} (hr : r ∈ D) (hp : pre b r.bits = true) : r.bits.size - b.size ≤ heightF D b := by
  revert hr
  refine snoc_ind (p := fun D => r ∈ D → r.bits.size - b.size ≤ heightF D b) ?_ ?_ D
  · intro h; simp at h
  · intro D x ih h
    rw [heightF_snoc]; unfold hstep
    rcases List.mem_append.1 h with h1 | h1
    · have := ih h1
      split
      · rename_i hc; have := hc.2; omega
      · exact this
    · rw [List.mem_singleton] at h1
      subst h1
      split
      · exact Nat.le_refl _
      · rename_i hc
        by_cases h3 : heightF D b < r.bits.size - b.size
        · exact absurd ⟨hp, h3⟩ hc
        · omega
theorem under_none {D : List Rt} {b : ByteArray} : underF D b (heightF D b) = [] := by
  cases h : underF D b (heightF D b) with
  | nil => rfl
  | cons c l =>
    obtain ⟨r, hr, hp, hlt, _⟩ := (underF_mem (c := c)).1 (by rw [h]; simp)
    have := heightF_ge hr hp
    omega
theorem pre_extract {r : ByteArray} {n : Nat} (h : n ≤ r.size) : pre (r.extract 0 n) r = true ∧ (r.extract 0 n).size = n := by
  have hs : (r.extract 0 n).size = n := by rw [ByteArray.size_extract]; omega
  refine ⟨?_, hs⟩
  unfold pre
  rw [decide_eq_true_eq]
  have e : (r.extract 0 n).data.toList = r.data.toList.take n := by simp [ByteArray.data_extract, List.extract_eq_take_drop]
  rw [e]; exact List.take_prefix _ _
theorem under_height {D : List Rt} {b c : ByteArray} {s : Nat} (h : c ∈ underF D b s) : 1 ≤ heightF D c := by
  obtain ⟨r, hr, _, hlt, rfl⟩ := underF_mem.1 h
  obtain ⟨h1, h2⟩ := pre_extract (r := r.bits) (n := b.size + s) (by omega)
  have := heightF_ge hr h1
  omega

/-- Sums of costs lie within bounds. -/
theorem sum_bd {f : ByteArray → Int} : ∀ {l : List ByteArray} {z : Int}, (∀ c ∈ l, 2 ≤ f c ∧ f c ≤ 4096) → z ≤ l.foldl (fun n c => n + f c) z ∧ l.foldl (fun n c => n + f c) z ≤ z + 4096 * l.length
  | [], z, _ => by simp
  | c :: l, z, h => by
    have h1 := h c (by simp)
    have h2 := sum_bd (f := f) (l := l) (z := z + f c) fun x hx => h x (by simp [hx])
    simp only [List.foldl_cons, List.length_cons]
    omega
theorem least_bd {D : List Rt} {b : ByteArray} {k : Nat} {f : ByteArray → Int} (hk : k = 0 ∨ ∀ c, 1 ≤ heightF D c → 2 ≤ f c ∧ f c ≤ 4096) : ∀ s, s ≤ 12 → (leastF D b k f s = -1 ∨ 2 ≤ leastF D b k f s) ∧ leastF D b k f s ≤ 200000 + 4096 * D.length
  | 0, _ => by simp [leastF]; omega
  | s + 1, hs => by
    have ih := least_bd (D := D) (b := b) hk s (by omega)
    have hp : (2 ^ (s + 1) : Nat) ≤ 2 ^ 12 := Nat.pow_le_pow_right (by omega) hs
    have hp2 : 2 ^ 1 ≤ (2 ^ (s + 1) : Nat) := Nat.pow_le_pow_right (by omega) (by omega)
    have hul := underF_length D b (s + 1)
    rw [leastF]; unfold cstep
    split
    · exact ih
    · rename_i hc
      have hall : ∀ c ∈ underF D b (s + 1), 2 ≤ f c ∧ f c ≤ 4096 := by
        intro c hcm
        rcases hk with h0 | h0
        · exact absurd ⟨by intro e; rw [e] at hcm; simp at hcm, h0⟩ hc
        · exact h0 c (under_height hcm)
      have hb := sum_bd (z := ((2 ^ (s + 1) : Nat) : Int)) hall
      split
      · omega
      · exact ih
theorem least_pos {D : List Rt} {b : ByteArray} {k : Nat} {f : ByteArray → Int} (hk : k = 0 ∨ ∀ c, 1 ≤ heightF D c → 2 ≤ f c ∧ f c ≤ 4096) (h : 1 ≤ heightF D b) (hh : heightF D b ≤ 12) : 2 ≤ leastF D b k f (heightF D b) ∧ leastF D b k f (heightF D b) ≤ 4096 := by
  obtain ⟨s, hs⟩ : ∃ s, heightF D b = s + 1 := ⟨heightF D b - 1, by omega⟩
  have ih := least_bd (D := D) (b := b) hk s (by omega)
  have hn := under_none (D := D) (b := b)
  have hp : (2 ^ (s + 1) : Nat) ≤ 2 ^ 12 := Nat.pow_le_pow_right (by omega) (by omega)
  have hp2 : 2 ^ 1 ≤ (2 ^ (s + 1) : Nat) := Nat.pow_le_pow_right (by omega) (by omega)
  rw [hs] at hn ⊢
  rw [leastF, hn]; unfold cstep
  rw [if_neg (by simp)]
  have e : ([] : List ByteArray).foldl (fun n c => n + f c) ((2 ^ (s + 1) : Nat) : Int) = ((2 ^ (s + 1) : Nat) : Int) := rfl
  split
  · rw [e]; omega
  · rename_i hc; rw [e] at hc; omega
theorem cost_bd {D : List Rt} (hD : ∀ r ∈ D, r.bits.size ≤ 12) : ∀ (k : Nat) (b : ByteArray), 1 ≤ k → 1 ≤ heightF D b → 2 ≤ costZ D k b ∧ costZ D k b ≤ 4096
  | 0, _, h, _ => by omega
  | k + 1, b, _, h => by
    rw [costZ]
    refine least_pos ?_ h (by have := heightF_le (b := b) hD; omega)
    by_cases hk : k = 0
    · exact .inl hk
    · exact .inr fun c hc => cost_bd hD k c (by omega) hc
end Go.Proofs.YtdfnmpmmkcpddaaDoor
/- The walks of the document's cost: height, under. -/
namespace Go.Proofs.YtdfnmpmmkcpddaaDoor
open Go.RowKit

set_option maxRecDepth 100000 in
set_option maxHeartbeats 1000000 in
theorem rheight_any (b : ByteArray) (l : List Rt) (ao : Option Addr) (cap base : Nat) (w : World) (hl : l.length ≤ 400) (hS : ∀ r ∈ l, r.bits.size ≤ 12) (hb : b.size ≤ 12) (hown : w.ownsRow base 98 2 (.slice ao l.length cap) l.length (rc l)) :
    Calls Tryd.prog 75 #[.slice ao l.length cap, .string b] w fun e w' => e = .returned (.int .i64 (heightF l b)) ∧ w' = w := by
  go_enter Tryd.func75, Tryd.ntmps75
  go_wp2_with fail
  go_loopg [5, 6] l.length (fun g x y wr => ∃ (i n : Nat), x = .int .i64 n ∧ y = .int .i64 i ∧ g + i = l.length ∧ wr = w ∧ Hid (n = heightF (l.take i) b))
  case atStart => exact ⟨0, 0, rfl, rfl, by omega, rfl, rfl⟩
  case round =>
    obtain ⟨i, n, rfl, rfl, hgi, rfl, HN⟩ := hrel
    by_cases hlt : i < l.length
    · obtain ⟨g, rfl, hg1, hg2, hg3, hg4⟩ := own_some hown (by omega)
      unfold maxLen at hg4
      obtain ⟨c0, c1⟩ := row_cells hown hg2 (Below.refl _ _) hlt
      have hli := hS l[i] (List.getElem_mem hlt)
      have HT : Hid (heightF (l.take (i + 1)) b = hstep b n l[i]) := by unfold Hid; rw [heightF_take l b i hlt, ← HN.out]
      cases hp : pre b l[i].bits with
      | true =>
        have HP : Hid (pre b l[i].bits = true) := hp
        clear hp
        have hsz : b.size ≤ l[i].bits.size := by
          by_cases h : b.size ≤ l[i].bits.size
          · exact h
          · have := pre_no h; rw [HP.out] at this; exact absurd this (by simp)
        by_cases hle : n < l[i].bits.size - b.size
        · go_wp2_with fail
          refine (begins_any _ _ _).mono ?_
          rintro e w1 ⟨rfl, rfl⟩
          rw [HP.out]
          go_wp2_with fail
          go_roundg (gk - 1)
          case measure => omega
          case rel => exact ⟨i + 1, l[i].bits.size - b.size, int_eq (by omega), int_eq (by omega), by omega, rfl, by unfold Hid; rw [HT.out, hstep, if_pos ⟨HP.out, hle⟩]⟩
        · have hd : decide ((n : Int) < (l[i].bits.size : Int) - (b.size : Int)) = false := by rw [decide_eq_false_iff_not]; omega
          go_wp2_with fail
          refine (begins_any _ _ _).mono ?_
          rintro e w1 ⟨rfl, rfl⟩
          rw [HP.out]
          go_wp2_with fail
          go_roundg (gk - 1)
          case measure => omega
          case rel => exact ⟨i + 1, n, rfl, int_eq (by omega), by omega, rfl, by unfold Hid; rw [HT.out, hstep, if_neg (fun h => hle h.2)]⟩
      | false =>
        have HP : Hid (pre b l[i].bits = false) := hp
        clear hp
        go_wp2_with fail
        refine (begins_any _ _ _).mono ?_
        rintro e w1 ⟨rfl, rfl⟩
        rw [HP.out]
        go_wp2_with fail
        go_roundg (gk - 1)
        case measure => omega
        case rel => exact ⟨i + 1, n, rfl, int_eq (by omega), by omega, rfl, by unfold Hid; rw [HT.out, hstep, if_neg (by rw [HP.out]; simp)]⟩
    · go_wp2_with fail
      go_ret
      have hh := HN.out
      rw [List.take_of_length_le (by omega)] at hh
      exact ⟨ret1 (int_eq (by rw [hh])), rfl⟩
end Go.Proofs.YtdfnmpmmkcpddaaDoor
/- The walk of the document's cost: under. -/
namespace Go.Proofs.YtdfnmpmmkcpddaaDoor
open Go.RowKit

/-- The cells of texts. -/
def sc (o : List ByteArray) : List Value := o.map Value.string
theorem sc_snoc (o : List ByteArray) (c : ByteArray) : sc (o ++ [c]) = sc o ++ [.string c] := by simp [sc]
theorem sc_at (o : List ByteArray) {k : Nat} (h : k < o.length) : (sc o)[k]? = some (.string o[k]) := by simp [sc, h]
theorem memB_take (x : ByteArray) (o : List ByteArray) {k : Nat} (h : k < o.length) : memB x (o.take (k + 1)) = (memB x (o.take k) || (o[k].toList == x.toList)) := by
  rw [List.take_succ_eq_append_getElem h]
  unfold memB
  rw [List.any_append]
  simp only [List.any_cons, List.any_nil, Bool.or_false]
  congr 1
  by_cases e : o[k] = x
  · rw [ba_eq e]; simp [e]
  · rw [ba_ne e]; simp [e]
theorem Tryd.infoString : (Tryd.prog.info? 9).map (fun i => (i.zero, i.size, i.bytes)) = some (some (.string ⟨#[]⟩), 1, 16) := by kernel_rfl

set_option maxRecDepth 100000 in
set_option maxHeartbeats 1000000 in
theorem runder_any (b : ByteArray) (s : Nat) (l : List Rt) (ao : Option Addr) (cap base : Nat) (w : World) (hl : l.length ≤ 400) (hS : ∀ r ∈ l, r.bits.size ≤ 12) (hb : b.size ≤ 12) (hs : s ≤ 12) (hown : w.ownsRow base 98 2 (.slice ao l.length cap) l.length (rc l)) :
    Calls Tryd.prog 95 #[.slice ao l.length cap, .string b, .int .i64 s] w fun e w' => ∃ ao' cap', e = .returned (.slice ao' (underF l b s).length cap') ∧ w'.ownsRow w.heap.size 9 1 (.slice ao' (underF l b s).length cap') (underF l b s).length (sc (underF l b s)) ∧ Below w.heap.size w w' := by
  obtain ⟨i0, hi, hz0, hz1, hz2⟩ := info_parts Tryd.infoString
  go_enter Tryd.func95, Tryd.ntmps95
  go_wp2_with fail
  go_loopg [7, 9] l.length (fun g x y wr => ∃ (i : Nat) (o : List ByteArray), y = .int .i64 i ∧ g + i = l.length ∧ o.length ≤ i ∧ wr.ownsRow w.heap.size 9 1 x o.length (sc o) ∧ Below w.heap.size w wr ∧ Hid (o = underF (l.take i) b s))
  case atStart => exact ⟨0, [], rfl, by omega, by simp, World.ownsRow_nil _ _ _ _, Below.refl _ _, rfl⟩
  case round =>
    obtain ⟨i, o, rfl, hgi, hol, hown2, hbel, HO⟩ := hrel
    obtain ⟨ao2, cap2, rfl⟩ := own_shape hown2
    by_cases hlt : i < l.length
    · obtain ⟨g, rfl, hg1, hg2, hg3, hg4⟩ := own_some hown (by omega)
      unfold maxLen at hg4
      obtain ⟨c0, c1⟩ := row_cells hown hg2 hbel hlt
      have hli := hS l[i] (List.getElem_mem hlt)
      have HT : Hid (underF (l.take (i + 1)) b s = ustep b s o l[i]) := by unfold Hid; rw [underF_take l b s i hlt, ← HO.out]
      clear HO
      cases hp : pre b l[i].bits with
      | true =>
        have HP : Hid (pre b l[i].bits = true) := hp
        clear hp
        by_cases hle : b.size + s < l[i].bits.size
        · obtain ⟨c, hc⟩ : ∃ c, l[i].bits.extract 0 (b.size + s) = c := ⟨_, rfl⟩
          go_wp2_with fail
          refine (begins_any _ _ _).mono ?_
          rintro e w1 ⟨rfl, rfl⟩
          rw [HP.out]
          go_wp2_with fail
          go_loopg [12, 13] o.length (fun g2 x y wr2 => ∃ (k : Nat) (q : Bool), x = .bool q ∧ y = .int .i64 k ∧ g2 + k = o.length ∧ wr2 = w1 ∧ Hid (q = memB c (o.take k)))
          case atStart => exact ⟨0, false, rfl, rfl, by omega, rfl, rfl⟩
          case round =>
            obtain ⟨k, q, rfl, rfl, hgk, rfl, HQ⟩ := hrel
            by_cases hko : k < o.length
            · obtain ⟨g3, rfl, hg31, hg32, hg33, hg34⟩ := own_some hown2 (by omega)
              unfold maxLen at hg34
              have hM := memB_take c o hko
              rw [← HQ.out] at hM
              cases q with
              | true =>
                have HM : Hid (memB c (o.take (k + 1)) = true) := by rw [hM]; rfl
                clear hM
                go_wp2_with fail
                go_roundg (gk - 1)
                case measure => omega
                case rel => exact ⟨k + 1, true, rfl, int_eq (by omega), by omega, rfl, HM.out.symm⟩
              | false =>
                have HM : Hid (memB c (o.take (k + 1)) = (o[k].toList == c.toList)) := by rw [hM]; rfl
                clear hM
                have hck := (hown2.cellAt k (by omega)).trans (sc_at o hko)
                go_wp2_with fail
                go_roundg (gk - 1)
                case measure => omega
                case rel => exact ⟨k + 1, o[k].toList == c.toList, rfl, int_eq (by omega), by omega, rfl, HM.out.symm⟩
            · have HQ' : Hid (q = memB c o) := by
                have := HQ.out
                rw [List.take_of_length_le (by omega)] at this
                exact this
              clear HQ
              cases q with
              | true =>
                have HE : Hid (underF (l.take (i + 1)) b s = o) := by unfold Hid; rw [HT.out, ustep, if_pos ⟨HP.out, hle⟩, hc, if_pos HQ'.out.symm]
                clear HT HQ'
                go_wp2_with fail
                go_roundg (l.length - (i + 1))
                case measure => omega
                case rel => exact ⟨i + 1, o, int_eq (by omega), by omega, by omega, hown2, hbel, HE.out.symm⟩
              | false =>
                have HE : Hid (underF (l.take (i + 1)) b s = o ++ [c]) := by unfold Hid; rw [HT.out, ustep, if_pos ⟨HP.out, hle⟩, hc, if_neg (by rw [← HQ'.out]; simp)]
                clear HT HQ'
                have hwz := hbel.size
                go_wp2_with (at_builtin; refine wpList_append_own _ rfl (.tmp 67) (.tmp 69) 124 rfl w.heap.size 9 i0 _ 1 16 Tryd.underlying124 hi hz0 hz1 hz2 rfl (by decide) _ _ _ rfl (hown2.alloc _) ⟨wr.heap.size, 0, none⟩ 1 1 [.string c] rfl rfl ?c1 ?c2 ?c3 ?c4 ?c5 ?_)
                case c1 =>
                  intro j u hj
                  match j, hj with
                  | 0, hj => simp at hj; subst hj; simp [Addr.add]
                case c2 => intro u hu; simp at hu; subst hu; rfl
                case c3 => unfold maxLen; omega
                case c4 => omega
                case c5 => simp; omega
                intro v' w2 hown3 hgrow _
                obtain ⟨ao3, cap3, rfl⟩ := own_shape hown3
                have hb2 : Below w.heap.size w w2 := (hbel.alloc hbel.size _).grown hgrow (by simp; omega) (fun k hk => by have := hown2.lt k hk; omega)
                go_wp2_with fail
                go_roundg (l.length - (i + 1))
                case measure => omega
                case rel => exact ⟨i + 1, o ++ [c], int_eq (by omega), by omega, by simp; omega, by rw [List.length_append, sc_snoc]; exact hown3, hb2, HE.out.symm⟩
        · go_wp2_with fail
          refine (begins_any _ _ _).mono ?_
          rintro e w1 ⟨rfl, rfl⟩
          rw [HP.out]
          go_wp2_with fail
          go_roundg (gk - 1)
          case measure => omega
          case rel => exact ⟨i + 1, o, int_eq (by omega), by omega, by omega, hown2, hbel, by unfold Hid; rw [HT.out, ustep, if_neg (fun h => hle h.2)]⟩
      | false =>
        have HP : Hid (pre b l[i].bits = false) := hp
        clear hp
        go_wp2_with fail
        refine (begins_any _ _ _).mono ?_
        rintro e w1 ⟨rfl, rfl⟩
        rw [HP.out]
        go_wp2_with fail
        go_roundg (gk - 1)
        case measure => omega
        case rel => exact ⟨i + 1, o, int_eq (by omega), by omega, by omega, hown2, hbel, by unfold Hid; rw [HT.out, ustep, if_neg (by rw [HP.out]; simp)]⟩
    · go_wp2_with fail
      go_ret
      have hh := HO.out
      rw [List.take_of_length_le (by omega)] at hh
      rw [← hh]
      exact ⟨_, _, rfl, hown2, hbel⟩
end Go.Proofs.YtdfnmpmmkcpddaaDoor
