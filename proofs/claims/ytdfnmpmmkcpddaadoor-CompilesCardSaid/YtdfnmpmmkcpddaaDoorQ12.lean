import Derived.Test.YtdfnmpmmkcpddaaDoorQ11
import Derived.Test.YtdfnmpmmkcpddaaDoorQ10
import Derived.Test.YtdfnmpmmkcpddaaDoorQ06
import Derived.Test.YtdfnmpmmkcpddaaDoorShelf
/- How many costs are worked out. -/
namespace Go.Proofs.YtdfnmpmmkcpddaaDoor

theorem pre_iff {b a : ByteArray} : pre b a = true ↔ b.data.toList <+: a.data.toList := by unfold pre; rw [decide_eq_true_eq]
theorem pre_trans {a b c : ByteArray} (h : pre a b = true) (k : pre b c = true) : pre a c = true := pre_iff.2 ((pre_iff.1 h).trans (pre_iff.1 k))
theorem pre_size {a b : ByteArray} (h : pre a b = true) : a.size ≤ b.size := (pre_iff.1 h).length_le
theorem pre_eq {a b : ByteArray} (h : pre a b = true) : a = b.extract 0 a.size := by
  refine ba_ext ?_
  have e1 : (b.extract 0 a.size).data.toList = b.data.toList.take a.size := by simp [ByteArray.data_extract, List.extract_eq_take_drop]
  rw [e1]
  exact List.prefix_iff_eq_take.1 (pre_iff.1 h)
theorem pre_of_extract {b r : ByteArray} {n : Nat} (h : pre b r = true) (hn : b.size ≤ n) : pre b (r.extract 0 n) = true := by
  have e1 : (r.extract 0 n).data.toList = r.data.toList.take n := by simp [ByteArray.data_extract, List.extract_eq_take_drop]
  refine pre_iff.2 ?_
  rw [e1, List.prefix_take_iff]
  exact ⟨pre_iff.1 h, hn⟩

/-- How many routes go on behind a text. -/
def tP (c : ByteArray) (r : Rt) : Bool := pre c r.bits && decide (c.size < r.bits.size)
def tc (D : List Rt) (c : ByteArray) : Nat := D.countP (tP c)
theorem tP_iff {c : ByteArray} {r : Rt} : tP c r = true ↔ pre c r.bits = true ∧ c.size < r.bits.size := by simp [tP]
theorem tc_le (D : List Rt) (c : ByteArray) : tc D c ≤ D.length := List.countP_le_length

theorem count_one {n : Nat} {r : Rt} : ∀ {L : List ByteArray}, L.Nodup → (∀ c ∈ L, c.size = n) → L.countP (fun c => tP c r) ≤ 1
  | [], _, _ => by simp
  | c :: L, hn, hs => by
    have ih := count_one (r := r) (List.nodup_cons.1 hn).2 fun x hx => hs x (by simp [hx])
    rw [List.countP_cons]
    split
    · rename_i hc
      have : L.countP (fun c => tP c r) = 0 := by
        rw [List.countP_eq_zero]
        intro x hx ht
        have e1 := pre_eq (tP_iff.1 hc).1
        have e2 := pre_eq (tP_iff.1 ht).1
        rw [hs c (by simp)] at e1
        rw [hs x (by simp [hx])] at e2
        exact (List.nodup_cons.1 hn).1 (by rw [e1, ← e2]; exact hx)
      omega
    · omega
theorem sum_ind {n : Nat} {b : ByteArray} {L : List ByteArray} (hn : L.Nodup) (hs : ∀ c ∈ L, c.size = n ∧ pre b c = true) (r : Rt) : L.countP (fun c => tP c r) ≤ if tP b r = true then 1 else 0 := by
  have h1 := count_one (r := r) hn fun c hc => (hs c hc).1
  split
  · exact h1
  · rename_i hb
    have : L.countP (fun c => tP c r) = 0 := by
      rw [List.countP_eq_zero]
      intro c hc ht
      obtain ⟨h2, h3⟩ := tP_iff.1 ht
      have h4 := pre_size (hs c hc).2
      exact hb (tP_iff.2 ⟨pre_trans (hs c hc).2 h2, by omega⟩)
    omega
/-- The sum over texts. -/
def tsum (D : List Rt) : List ByteArray → Nat
  | [] => 0
  | c :: L => tc D c + tsum D L
theorem tsum_cons (r : Rt) (D : List Rt) : ∀ L, tsum (r :: D) L = L.countP (fun c => tP c r) + tsum D L
  | [] => by simp [tsum]
  | c :: L => by
    have ih := tsum_cons r D L
    simp only [tsum, tc, List.countP_cons] at ih ⊢
    omega
theorem tsum_nil : ∀ L, tsum [] L = 0
  | [] => rfl
  | c :: L => by simp [tsum, tc, tsum_nil L]
theorem tsum_le {n : Nat} {b : ByteArray} {L : List ByteArray} (hn : L.Nodup) (hs : ∀ c ∈ L, c.size = n ∧ pre b c = true) : ∀ D, tsum D L ≤ tc D b
  | [] => by rw [tsum_nil]; simp
  | r :: D => by
    rw [tsum_cons]
    have h1 := sum_ind hn hs r
    have ih := tsum_le hn hs D
    unfold tc at ih ⊢
    rw [List.countP_cons]
    omega
theorem tsum_drop (D : List Rt) : ∀ (L : List ByteArray) (j : Nat) (h : j < L.length), tsum D (L.drop j) = tc D L[j] + tsum D (L.drop (j + 1))
  | c :: L, 0, _ => by simp [tsum]
  | c :: L, j + 1, h => by simpa using tsum_drop D L j (by simpa using h)
  | [], j, h => by simp at h

theorem under_nodup (D : List Rt) (b : ByteArray) (s : Nat) : (underF D b s).Nodup := by
  refine snoc_ind (p := fun D => (underF D b s).Nodup) ?_ ?_ D
  · simp [underF]
  · intro D r ih
    rw [underF_snoc]; unfold ustep
    split
    · split
      · exact ih
      · rename_i hm
        rw [List.nodup_append]
        refine ⟨ih, by simp, ?_⟩
        intro x hx y hy e
        rw [List.mem_singleton] at hy
        exact hm (memB_iff.2 (by rw [← hy, ← e]; exact hx))
    · exact ih
theorem under_facts {D : List Rt} {b c : ByteArray} {s : Nat} (h : c ∈ underF D b s) : c.size = b.size + s ∧ pre b c = true ∧ 1 ≤ tc D c := by
  obtain ⟨r, hr, hp, hlt, rfl⟩ := underF_mem.1 h
  obtain ⟨h1, h2⟩ := pre_extract (r := r.bits) (n := b.size + s) (by omega)
  refine ⟨h2, pre_of_extract hp (by omega), ?_⟩
  exact List.one_le_countP_iff.2 ⟨r, hr, tP_iff.2 ⟨h1, by omega⟩⟩
theorem under_tsum (D : List Rt) (b : ByteArray) (s : Nat) : tsum D (underF D b s) ≤ tc D b :=
  tsum_le (under_nodup D b s) (fun _ hc => ⟨(under_facts hc).1, (under_facts hc).2.1⟩) D
theorem height_up {D : List Rt} {c : ByteArray} {n : Nat} (h : ∀ r ∈ D, pre c r.bits = true → r.bits.size - c.size ≤ n) : heightF D c ≤ n := by
  revert h
  refine snoc_ind (p := fun D => (∀ r ∈ D, pre c r.bits = true → r.bits.size - c.size ≤ n) → heightF D c ≤ n) ?_ ?_ D
  · intro _; simp [heightF]
  · intro D r ih h
    have h1 := ih fun x hx => h x (by simp [hx])
    rw [heightF_snoc]; unfold hstep; split
    · rename_i hc; exact h r (by simp) hc.1
    · exact h1
theorem under_low {D : List Rt} {b c : ByteArray} {s : Nat} (h : c ∈ underF D b s) : heightF D c ≤ heightF D b - s := by
  obtain ⟨h1, h2, _⟩ := under_facts h
  refine height_up fun r hr hp => ?_
  have := heightF_ge hr (pre_trans h2 hp)
  omega

theorem room_start {n S T p M : Nat} (h : n + T * (3 * p) ≤ M) (hS : S ≤ T) : n + S * (2 * p) + T * p ≤ M := by
  have h1 := Nat.mul_le_mul_right (2 * p) hS
  have h2 : T * (3 * p) = T * (2 * p) + T * p := by rw [← Nat.mul_add]; congr 1; omega
  omega
theorem room_skip {n T p M : Nat} (h : n + T * (3 * p) ≤ M) : n + T * p ≤ M := by
  have h2 : T * p ≤ T * (3 * p) := Nat.mul_le_mul_left _ (by omega)
  omega
theorem room_part {t p q : Nat} (ht : 1 ≤ t) (hq : q ≤ p) (hp : 1 ≤ p) : 1 + t * q ≤ t * (2 * p) := by
  have h1 := Nat.mul_le_mul_left t hq
  have h2 : t * (2 * p) = t * p + t * p := by rw [← Nat.mul_add]; congr 1; omega
  have h3 := Nat.mul_le_mul ht hp
  omega
theorem room_step {n n' t S T p q M : Nat} (h : n + (t + S) * (2 * p) + T * p ≤ M) (ht : 1 ≤ t) (hq : q ≤ p) (hp : 1 ≤ p) (hn : n' ≤ n + 1 + t * q) : n' + S * (2 * p) + T * p ≤ M := by
  have h1 := room_part ht hq hp
  rw [Nat.add_mul] at h
  omega
theorem room_call {n t S T p q M L : Nat} (h : n + (t + S) * (2 * p) + T * p ≤ M) (hL : M ≤ L) (ht : 1 ≤ t) (hq : q ≤ p) (hp : 1 ≤ p) : n + 1 + t * q ≤ L := by
  have h1 := room_part ht hq hp
  rw [Nat.add_mul] at h
  omega
end Go.Proofs.YtdfnmpmmkcpddaaDoor
/- The walk of the document's cost: the memory of costs. -/
namespace Go.Proofs.YtdfnmpmmkcpddaaDoor
open Go.RowKit

/-- The sums lie in block B. -/
def Sm (w : World) (B : Nat) (vl vk : Value) : Prop := w.heap[B]? = some (.cells #[vl, vk] 102 (0, 0))
section
variable {w : World} {B : Nat} {vl vk : Value}
theorem Sm.cells (h : Sm w B vl vk) : w.cell? ⟨B, 0, none⟩ = some vl ∧ w.cell? ⟨B, 1, none⟩ = some vk := by
  refine ⟨?_, ?_⟩ <;> (rw [cell_of_row w B _ _ _ _ h]; rfl)
theorem Sm.free (h : Sm w B vl vk) (j : Nat) : w.frozen? ⟨B, j, none⟩ = false := frozen_of_row w B j _ _ h
theorem Sm.setK (h : Sm w B vl vk) (u : Value) : Sm (w.setCell ⟨B, 1, none⟩ u) B vl u := heap_setCell_same w B 1 _ _ _ h
theorem Sm.lt (h : Sm w B vl vk) : B < w.heap.size := (Array.getElem?_eq_some_iff.1 h).1
theorem Sm.kept {w' : World} {row : Option Nat} (h : Sm w B vl vk) (hg : w.grownBy w' row) (hne : some B ≠ row) : Sm w' B vl vk := (hg.block B h.lt hne).trans h
theorem Sm.below {w' : World} (h : Sm w B vl vk) (hb : Below w.heap.size w w') : Sm w' B vl vk := (hb.block B h.lt).trans h
end

/-- A cost that is known. -/
structure Kn where
  b : ByteArray
  k : Nat
  n : Int
def kc1 (x : Kn) : List Value := [.string x.b, .int .i64 (x.k : Nat), .int .i64 x.n]
def kc (l : List Kn) : List Value := l.flatMap kc1
theorem kc_snoc (l : List Kn) (x : Kn) : kc (l ++ [x]) = kc l ++ [.string x.b, .int .i64 (x.k : Nat), .int .i64 x.n] := by simp [kc, kc1]
theorem kc_cons (x : Kn) (l : List Kn) : kc (x :: l) = .string x.b :: .int .i64 (x.k : Nat) :: .int .i64 x.n :: kc l := by simp [kc, kc1]
theorem kc_at : ∀ (l : List Kn) (i : Nat) (x : Kn), l[i]? = some x → (kc l)[i * 3]? = some (.string x.b) ∧ (kc l)[i * 3 + 1]? = some (.int .i64 (x.k : Nat)) ∧ (kc l)[i * 3 + 2]? = some (.int .i64 x.n)
  | y :: l, 0, x, h => by simp at h; subst h; rw [kc_cons]; exact ⟨rfl, rfl, rfl⟩
  | y :: l, i + 1, x, h => by
    have := kc_at l i x (by simpa using h)
    rw [kc_cons, show (i + 1) * 3 = i * 3 + 1 + 1 + 1 from by omega, show i * 3 + 1 + 1 + 1 + 1 = (i * 3 + 1) + 1 + 1 + 1 from by omega, show i * 3 + 1 + 1 + 1 + 2 = (i * 3 + 2) + 1 + 1 + 1 from by omega]
    simpa using this
  | [], i, x, h => by simp at h

/-- All that is known is right. -/
def Right (D : List Rt) (l : List Kn) : Prop := ∀ x ∈ l, x.n = costZ D x.k x.b
theorem Right.snoc {D : List Rt} {l : List Kn} (h : Right D l) {x : Kn} (hx : x.n = costZ D x.k x.b) : Right D (l ++ [x]) := by
  intro y hy
  rcases List.mem_append.1 hy with h1 | h1
  · exact h y h1
  · rw [List.mem_singleton] at h1; rw [h1]; exact hx

/-- What a call of cost leaves alone. -/
structure Fr (B : Nat) (w : World) (vk : Value) (w' : World) (vk' : Value) : Prop where
  below : Below B w w'
  block : ∀ k, k < w.heap.size → k ≠ B → vk.ownBlock ≠ some k → w'.heap[k]? = w.heap[k]?
  own : ∀ k, vk'.ownBlock = some k → vk.ownBlock = some k ∨ w.heap.size ≤ k
theorem Fr.refl (B : Nat) (w : World) (vk : Value) : Fr B w vk w vk := ⟨Below.refl _ _, fun _ _ _ _ => rfl, fun _ h => .inl h⟩
theorem Fr.trans {B : Nat} {w w' w'' : World} {v v' v'' : Value} (h : Fr B w v w' v') (k : Fr B w' v' w'' v'') : Fr B w v w'' v'' := by
  have hs := h.below.size
  refine ⟨h.below.trans k.below, fun i hi hB hv => ?_, fun i hi => ?_⟩
  · rw [k.block i (by omega) hB ?_, h.block i hi hB hv]
    intro e
    rcases h.own i e with h1 | h1
    · exact hv h1
    · omega
  · rcases k.own i hi with h1 | h1
    · exact h.own i h1
    · exact .inr (by omega)
theorem Fr.more {B : Nat} {w w' : World} {v : Value} (hB : B < w.heap.size) (h : Below w.heap.size w w') : Fr B w v w' v :=
  ⟨h.mono (by omega), fun k hk _ _ => h.block k hk, fun _ h => .inl h⟩
theorem Fr.row {B : Nat} {w w' : World} {v v' : Value} (h : Fr B w v w' v') {base : Nat} {e : TypeId} {size : Nat} {u : Value} {n : Nat} {xs : List Value} (hown : w.ownsRow base e size u n xs) (hne : ∀ k, u.ownBlock = some k → k ≠ B ∧ v.ownBlock ≠ some k) : w'.ownsRow base e size u n xs := by
  refine ⟨hown.1, ?_⟩
  rcases hown.2 with hn | ⟨g, cap, cur, rfl, hb, hgg, rest⟩
  · exact .inl hn
  · obtain ⟨h1, h2⟩ := hne g rfl
    refine .inr ⟨g, cap, cur, rfl, hb, ?_, rest⟩
    rw [h.block g (Array.getElem?_eq_some_iff.1 hgg).1 h1 h2]
    exact hgg

theorem Tryd.infoKnown : (Tryd.prog.info? 123).map (fun i => (i.zero, i.size, i.bytes)) = some (some (.agg #[.string ⟨#[]⟩, .int .i64 0, .int .i64 0]), 3, 32) := by kernel_rfl
end Go.Proofs.YtdfnmpmmkcpddaaDoor
/- The walks of Print: numbers, lines, texts. -/
namespace Go.Proofs.YtdfnmpmmkcpddaaDoor
open Go.RowKit

theorem itoa_any (n : Nat) (w : World) (hn : n ≤ 250) (hE : Env w) :
    Calls Tryd.prog 88 #[.int .i64 n] w fun e w' => e = .returned (.string (decB n)) ∧ Below w.heap.size w w' := by
  refine (Tryd.strconv_Itoa n (by omega) (by omega) w hE).mono ?_
  rintro e w' ⟨rfl, k, os, rfl⟩
  refine ⟨ret1 (str_eq ?_), ?_⟩
  · unfold decB Lib.itoa
    rw [if_neg (by omega), Int.toNat_natCast]
  · refine ⟨rfl, rfl, rfl, ?_, ?_⟩
    · simp [Sort.grow]
    · intro j hj
      show ((w.drewN k).heap ++ os)[j]? = _
      rw [Array.getElem?_append_left (by simpa using hj)]; rfl

set_option maxRecDepth 100000 in
theorem decimal_any (n : Nat) (w : World) (h1 : 1 ≤ n) (hn : n ≤ 250) :
    Calls Tryd.prog 74 #[.int .i64 n] w fun e w' => e = .returned (.string (decB n)) ∧ Below w.heap.size w w' := by
  go_enter Tryd.func74, Tryd.ntmps74
  go_wp2_with fail
  go_loopg [0, 3] n (fun g x y wr => ∃ (q : Nat) (t : List UInt8) (b : ByteArray), x = .int .i64 q ∧ y = .string b ∧ q ≤ 250 ∧ g = q ∧ b.size ≤ 250 ∧ b.size + q ≤ 250 ∧ Hid (b = ⟨t.toArray⟩) ∧ Below w.heap.size w wr ∧ Hid ((if q = 0 then t else Lib.decDigits q ++ t) = Lib.decDigits n))
  case atStart => exact ⟨n, [], _, rfl, rfl, hn, rfl, by show 0 ≤ 250; omega, by show 0 + n ≤ 250; omega, rfl, Below.refl _ _, by unfold Hid; rw [if_neg (by omega)]; simp⟩
  case round =>
    obtain ⟨q, t, b, rfl, rfl, hq, rfl, hb1, hb2, HB, hbel, HN⟩ := hrel
    by_cases hq0 : 0 < gk
    · obtain ⟨d, hd⟩ : ∃ d : Nat, d = gk % 10 := ⟨_, rfl⟩
      have hd9 : d ≤ 9 := by omega
      have hdi : (gk : Int) % 10 = (d : Int) := by omega
      have HD : Hid (d = gk % 10) := hd
      clear hd
      have hcv : (convert 107 9 (Value.slice (some ⟨wr.heap.size, 0, none⟩) 1 1)).run Tryd.prog (wr.alloc (Obj.cells #[Value.int IntKind.u8 (48 + (d : Int))] 5)) = .ok (.string ⟨#[dgt d]⟩) (wr.alloc (Obj.cells #[Value.int IntKind.u8 (48 + (d : Int))] 5)) := by
        refine run_convert_bytes_back (P := Tryd.prog) _ 107 9 5 ⟨wr.heap.size, 0, none⟩ 1 [dgt d] Tryd.underlying107 Tryd.underlying5 Tryd.underlying9 ?_
        intro j hj
        have : j = 0 := by simp at hj; exact hj
        subst this
        simp [Addr.add, dgt_toNat hd9]
      go_wp2_with fail
      go_roundg (gk / 10)
      case measure => omega
      case rel =>
        refine ⟨gk / 10, dgt d :: t, _, int_eq (by omega), rfl, by omega, rfl, by rw [size_cons]; omega, by rw [size_cons]; omega, ?_, hbel.alloc hbel.size _, ?_⟩
        · unfold Hid; rw [HB.out]; refine ba_ext ?_; simp [ByteArray.data_append]
        · unfold Hid; rw [HD.out, dec_step hq0]; have := HN.out; rw [if_neg (by omega)] at this; exact this
    · go_wp2_with fail
      go_ret
      have := HN.out
      rw [if_pos (by omega)] at this
      exact ⟨ret1 (str_eq (by rw [HB.out, this]; rfl)), hbel⟩

theorem printRoute_any (r : Rt) (w : World) (hf : Fit r) (hE : Env w) :
    Calls Tryd.prog 62 #[.agg #[.string r.bits, .int .i64 r.hop]] w fun e w' => e = .returned (.string (lineB r)) ∧ Below w.heap.size w w' := by
  obtain ⟨b, h⟩ := r
  obtain ⟨f1, f2, f3⟩ := hf
  simp only [] at f1 f2 f3
  have hds := decB_size f3
  by_cases he : b = (⟨#[]⟩ : ByteArray)
  · have hline : Hid (lineB ⟨b, h⟩ = (⟨#[42]⟩ : ByteArray) ++ (⟨#[32]⟩ : ByteArray) ++ decB h ++ (⟨#[10]⟩ : ByteArray)) := by unfold Hid lineB bitsOr; simp only []; rw [if_pos he]
    subst he
    go_enter Tryd.func62, Tryd.ntmps62
    go_wp2_with fail
    refine (itoa_any h _ f3 (hE.alloc _)).mono ?_
    rintro e w1 ⟨rfl, hb1⟩
    go_wp2_with fail
    go_ret
    exact ⟨ret1 (str_eq hline.out.symm), ((Below.refl _ _).alloc (Nat.le_refl _) _).trans (hb1.mono (by simp))⟩
  · have hline : Hid (lineB ⟨b, h⟩ = b ++ (⟨#[32]⟩ : ByteArray) ++ decB h ++ (⟨#[10]⟩ : ByteArray)) := by unfold Hid lineB bitsOr; simp only []; rw [if_neg he]
    have hne : b.toList.isEmpty = false := by
      cases hl : b.toList with
      | nil => exact absurd (ba_ext (by rw [← ByteArray.toList_eq, hl])) he
      | cons x l => rfl
    go_enter Tryd.func62, Tryd.ntmps62
    go_wp2_with fail
    refine (itoa_any h _ f3 (hE.alloc _)).mono ?_
    rintro e w1 ⟨rfl, hb1⟩
    go_wp2_with fail
    go_ret
    exact ⟨ret1 (str_eq hline.out.symm), ((Below.refl _ _).alloc (Nat.le_refl _) _).trans (hb1.mono (by simp))⟩

set_option maxRecDepth 100000 in
theorem printRoutes_any (l : List Rt) (ao : Option Addr) (cap base : Nat) (w : World) (hl : l.length ≤ 400) (hfit : ∀ r ∈ l, Fit r) (hE : Env w) (hown : w.ownsRow base 78 2 (.slice ao l.length cap) l.length (rc l)) :
    Calls Tryd.prog 39 #[.slice ao l.length cap] w fun e w' => e = .returned (.string (textB l)) ∧ Below w.heap.size w w' := by
  have HF : Hid (∀ r ∈ l, Fit r) := hfit
  clear hfit
  go_enter Tryd.func39, Tryd.ntmps39
  go_wp2_with fail
  go_loopg [3, 4] l.length (fun g x z wr => ∃ (i : Nat) (t : ByteArray), x = .string t ∧ z = .int .i64 i ∧ g + i = l.length ∧ t.size ≤ 20 * i ∧ Below w.heap.size w wr ∧ Hid (t = textB (l.take i)))
  case atStart => exact ⟨0, _, rfl, rfl, by omega, by show 0 ≤ 0; omega, Below.refl _ _, rfl⟩
  case round =>
    obtain ⟨i, t, rfl, rfl, hgi, hts, hbel, HT⟩ := hrel
    by_cases hlt : i < l.length
    · obtain ⟨g, rfl, hg1, hg2, hg3, hg4⟩ := own_some hown (by omega)
      unfold maxLen at hg4
      obtain ⟨c0, c1⟩ := row_cells hown hg2 hbel hlt
      have hfi := HF.out l[i] (List.getElem_mem hlt)
      have hls := lineB_size hfi
      have HTT : Hid (textB (l.take (i + 1)) = textB (l.take i) ++ lineB l[i]) := textB_take l i hlt
      go_wp2_with fail
      refine (printRoute_any l[i] _ hfi (hE.later hbel)).mono ?_
      rintro e w1 ⟨rfl, hb1⟩
      go_wp2_with fail
      go_roundg (gk - 1)
      case measure => omega
      case rel => exact ⟨i + 1, _, rfl, int_eq (by omega), by omega, by rw [ByteArray.size_append]; omega, hbel.trans (hb1.mono hbel.size), by unfold Hid; rw [HTT.out, HT.out]⟩
    · go_wp2_with fail
      go_ret
      have hh := HT.out
      rw [List.take_of_length_le (by omega)] at hh
      exact ⟨ret1 (str_eq hh), hbel⟩
end Go.Proofs.YtdfnmpmmkcpddaaDoor
