import Derived.Test.YtdfnmpmmkcpddaaDoorQ02
import Derived.Laws.Bits128
import Derived.Test.YtdfnmpmmkcpddaaDoorQ03
import Derived.Test.YtdfnmpmmkcpddaaDoorQ05
import Derived.Laws.IdiomStrings
/- The plain functions: beginnings, addresses as texts. -/
namespace Go.Proofs.YtdfnmpmmkcpddaaDoor
open Go.RowKit

theorem i64_and1 (n : Int) : bits .and .i64 n 1 = n % 2 := by
  have h1 : (BitVec.ofInt 64 1).toNat = 2 ^ 1 - 1 := by decide
  have key : (BitVec.ofInt 64 n &&& BitVec.ofInt 64 1).toNat = (n % ((2 ^ 64 : Nat) : Int)).toNat % 2 ^ 1 := by
    rw [BitVec.toNat_and, BitVec.toNat_ofInt, h1, Nat.and_two_pow_sub_one_eq_mod]
  show IntKind.i64.wrap ((BitVec.ofInt 64 n &&& BitVec.ofInt 64 1).toNat : Nat) = n % 2
  rw [key, IntKind.wrap_i64]
  omega

/-- A beginning. -/
def pre (b a : ByteArray) : Bool := decide (b.data.toList <+: a.data.toList)

theorem pre_yes {a b : ByteArray} (h : b.size ≤ a.size) : ((a.extract 0 b.size).toList == b.toList) = pre b a := by
  have hs : b.data.toList.length ≤ a.data.toList.length := h
  have hb : b.data.toList.length = b.size := rfl
  have e1 : (a.extract 0 b.size).data.toList = a.data.toList.take b.size := by
    simp [ByteArray.data_extract, List.extract_eq_take_drop]
  rw [Bool.eq_iff_iff, beq_iff_eq, ByteArray.toList_eq, ByteArray.toList_eq, e1]
  unfold pre
  rw [decide_eq_true_eq, List.prefix_iff_eq_take, hb]
  exact ⟨fun e => e.symm, fun e => e.symm⟩
theorem pre_no {a b : ByteArray} (h : ¬ b.size ≤ a.size) : pre b a = false := by
  unfold pre
  rw [decide_eq_false_iff_not]
  intro hp
  have := hp.length_le
  exact h this

/-- A bit as a digit. -/
def dg (d : Nat) : UInt8 := if d = 1 then 49 else 48
/-- The lowest i bits of a number, as digits. -/
def lowb (a : Nat) : Nat → List UInt8
  | 0 => []
  | i + 1 => dg (a / 2 ^ i % 2) :: lowb a i
theorem dg_toNat {d : Nat} (h : d ≤ 1) : ((dg d).toNat : Int) = 48 + d := by
  unfold dg; split
  · subst d; rfl
  · have : d = 0 := by omega
    subst d; rfl
theorem lowb_length (a : Nat) : ∀ i, (lowb a i).length = i
  | 0 => rfl
  | i + 1 => by simp [lowb, lowb_length a i]
/-- An address as a text. -/
def addr (a W : Nat) : ByteArray := ⟨(lowb a W).toArray⟩
theorem addr_size (a W : Nat) : (addr a W).size = W := by
  show (lowb a W).toArray.size = W
  simp [lowb_length]
theorem addr_succ {a i : Nat} {b : ByteArray} (hb : b = addr a i) {c : UInt8} (hc : c = dg (a / 2 ^ i % 2)) : (⟨#[c]⟩ : ByteArray) ++ b = addr a (i + 1) := by
  subst hb hc
  refine ba_ext ?_
  simp [addr, lowb, ByteArray.data_append]
theorem size_cons (b : ByteArray) (c : UInt8) : ((⟨#[c]⟩ : ByteArray) ++ b).size = b.size + 1 := by
  rw [ByteArray.size_append]; show 1 + b.size = _; omega

theorem wrap_pow {W : Nat} (h : W ≤ 12) : wrap64 (2 ^ W) = ((2 ^ W : Nat) : Int) ∧ 2 ^ W ≤ 4096 ∧ 0 < 2 ^ W := by
  have h1 : 2 ^ W ≤ 2 ^ 12 := Nat.pow_le_pow_right (by omega) h
  have h2 : 0 < 2 ^ W := Nat.pow_pos (by omega)
  have e : ((2 : Int) ^ W) = ((2 ^ W : Nat) : Int) := by rw [Int.natCast_pow]; rfl
  refine ⟨?_, h1, h2⟩
  rw [e]
  unfold wrap64
  omega
end Go.Proofs.YtdfnmpmmkcpddaaDoor
/- The walks of Find: beginnings, addresses. -/
namespace Go.Proofs.YtdfnmpmmkcpddaaDoor
open Go.RowKit

theorem beginsWith_any (a b : ByteArray) (w : World) :
    Calls Tryd.prog 69 #[.string a, .string b] w fun e w' => e = .returned (.bool (pre b a)) ∧ w' = w := by
  by_cases h : b.size ≤ a.size
  · have hp := pre_yes h
    go_enter Tryd.func69, Tryd.ntmps69
    go_wp2
    go_ret
    exact ⟨rfl, rfl⟩
  · rw [pre_no h]
    go_enter Tryd.func69, Tryd.ntmps69
    go_wp2
    go_ret
    exact ⟨rfl, rfl⟩
theorem begins_any (b a : ByteArray) (w : World) :
    Calls Tryd.prog 81 #[.string b, .string a] w fun e w' => e = .returned (.bool (pre b a)) ∧ w' = w := by
  by_cases h : b.size ≤ a.size
  · have hp := pre_yes h
    go_enter Tryd.func81, Tryd.ntmps81
    go_wp2
    go_ret
    exact ⟨rfl, rfl⟩
  · rw [pre_no h]
    go_enter Tryd.func81, Tryd.ntmps81
    go_wp2
    go_ret
    exact ⟨rfl, rfl⟩

theorem isAddress_yes (a : Int) (W : Nat) (w : World) (hW : W ≤ 12) (h0 : 0 ≤ a) (h1 : a < ((2 ^ W : Nat) : Int)) :
    Calls Tryd.prog 44 #[.int .i64 a, .int .i64 W] w fun e w' => e = .returned (.bool true) ∧ w' = w := by
  obtain ⟨p1, p3, p4⟩ := wrap_pow hW
  go_enter Tryd.func44, Tryd.ntmps44
  go_wp2_with fail
  go_ret
  exact ⟨ret1 (bool_eq (by simpa using h1)), rfl⟩
theorem isAddress_no (a : Int) (W : Nat) (w : World) (hW : W ≤ 12) (h : ¬ (0 ≤ a ∧ a < ((2 ^ W : Nat) : Int))) :
    Calls Tryd.prog 44 #[.int .i64 a, .int .i64 W] w fun e w' => e = .returned (.bool false) ∧ w' = w := by
  obtain ⟨p1, p3, p4⟩ := wrap_pow hW
  by_cases h0 : 0 ≤ a
  · have h1 : ¬ a < ((2 ^ W : Nat) : Int) := fun h1 => h ⟨h0, h1⟩
    clear h
    go_enter Tryd.func44, Tryd.ntmps44
    go_wp2_with fail
    go_ret
    exact ⟨ret1 (bool_eq (by simpa using h1)), rfl⟩
  · clear h
    go_enter Tryd.func44, Tryd.ntmps44
    go_wp2_with fail
    go_ret
    exact ⟨rfl, rfl⟩

theorem addressBits_any (a W : Nat) (w : World) (ha : a < 4096) (hW : W ≤ 12) :
    Calls Tryd.prog 46 #[.int .i64 a, .int .i64 W] w fun e w' => e = .returned (.string (addr a W)) ∧ w' = w := by
  go_enter Tryd.func46, Tryd.ntmps46
  go_wp2_with fail
  go_loopg [5, 6, 7] W (fun g x r y wr => ∃ (i q : Nat) (b : ByteArray), wr = w ∧ x = .string b ∧ r = .int .i64 q ∧ y = .int .i64 i ∧ g + i = W ∧ q < 4096 ∧ b.size = i ∧ Hid (b = addr a i) ∧ Hid (q = a / 2 ^ i))
  case atStart => exact ⟨0, a, _, rfl, rfl, rfl, rfl, by omega, ha, rfl, rfl, by unfold Hid; simp⟩
  case round =>
    obtain ⟨i, q, b, rfl, rfl, rfl, rfl, hg, hq, hb, HB, HQ⟩ := hrel
    by_cases hlt : i < W
    · have hq2 : q / 2 = a / 2 ^ (i + 1) := by rw [HQ.out, Nat.div_div_eq_div_mul, Nat.pow_succ]
      have HQ2 : Hid (q / 2 = a / 2 ^ (i + 1)) := hq2
      clear hq2
      by_cases hd : q % 2 = 1
      · have hdb : (((q : Int) % 2) == 1) = true := by rw [beq_iff_eq]; omega
        have HD : Hid (q % 2 = 1) := hd
        clear hd
        go_wp2_with fail
        go_roundg (gk - 1)
        case measure => omega
        case rel => exact ⟨i + 1, q / 2, _, rfl, rfl, int_eq (by omega), int_eq (by omega), by omega, by omega, by rw [size_cons, hb], addr_succ HB (by rw [← HQ.out, HD.out]; rfl), HQ2⟩
      · have hd0 : q % 2 = 0 := by omega
        have hdb : (((q : Int) % 2) == 1) = false := by rw [beq_eq_false_iff_ne]; omega
        have HD : Hid (q % 2 = 0) := hd0
        clear hd hd0
        go_wp2_with fail
        go_roundg (gk - 1)
        case measure => omega
        case rel => exact ⟨i + 1, q / 2, _, rfl, rfl, int_eq (by omega), int_eq (by omega), by omega, by omega, by rw [size_cons, hb], addr_succ HB (by rw [← HQ.out, HD.out]; rfl), HQ2⟩
    · go_wp2_with fail
      go_ret
      have : i = W := by omega
      subst this
      exact ⟨ret1 (str_eq HB), rfl⟩

set_option maxRecDepth 100000 in
theorem rbitsA_any (a W : Nat) (w : World) (_ha : a < 4096) (hW : W ≤ 12) :
    Calls Tryd.prog 55 #[.int .i64 a, .int .i64 W] w fun e w' => e = .returned (.string (addr a W)) ∧ Below w.heap.size w w' := by
  go_enter Tryd.func55, Tryd.ntmps55
  go_wp2_with fail
  go_loopg [5, 6] W (fun g x y wr => ∃ (i : Nat) (b : ByteArray), x = .string b ∧ y = .int .i64 i ∧ g + i = W ∧ b.size = i ∧ Hid (b = addr a i) ∧ Below w.heap.size w wr)
  case atStart => exact ⟨0, _, rfl, rfl, by omega, rfl, rfl, Below.refl _ _⟩
  case round =>
    obtain ⟨i, b, rfl, rfl, hg, hb, HB, hbel⟩ := hrel
    by_cases hlt : i < W
    · obtain ⟨d, hd⟩ : ∃ d : Nat, d = a / 2 ^ i % 2 := ⟨_, rfl⟩
      have hd1 : d ≤ 1 := by omega
      have hbd : Go.bits BinOp.and IntKind.i64 ((a : Int) / 2 ^ i) 1 = (d : Int) := by
        rw [i64_and1, hd]
        rw [Int.natCast_emod, Int.natCast_ediv, Int.natCast_pow]; rfl
      have HD : Hid (d = a / 2 ^ i % 2) := hd
      clear hd
      have hcv : (convert 107 9 (Value.slice (some ⟨wr.heap.size, 0, none⟩) 1 1)).run Tryd.prog (wr.alloc (Obj.cells #[Value.int IntKind.u8 (48 + (d : Int))] 5)) = .ok (.string ⟨#[dg d]⟩) (wr.alloc (Obj.cells #[Value.int IntKind.u8 (48 + (d : Int))] 5)) := by
        refine run_convert_bytes_back (P := Tryd.prog) _ 107 9 5 ⟨wr.heap.size, 0, none⟩ 1 [dg d] Tryd.underlying107 Tryd.underlying5 Tryd.underlying9 ?_
        intro j hj
        have : j = 0 := by simp at hj; exact hj
        subst this
        simp [Addr.add, dg_toNat hd1]
      go_wp2_with fail
      go_roundg (gk - 1)
      case measure => omega
      case rel => exact ⟨i + 1, _, rfl, int_eq (by omega), by omega, by rw [size_cons, hb], addr_succ HB (by rw [← HD.out]), hbel.alloc hbel.size _⟩
    · go_wp2_with fail
      go_ret
      have : i = W := by omega
      subst this
      exact ⟨ret1 (str_eq HB), hbel⟩
end Go.Proofs.YtdfnmpmmkcpddaaDoor
/- The plain law of Find: the last of the longest ones is the longest of the last ones. -/
namespace Go.Proofs.YtdfnmpmmkcpddaaDoor

/-- One line more: as many bits that fit are the same bits: the later line counts. -/
def bstep (a : ByteArray) (x : Nat × Nat) (r : Rt) : Nat × Nat := if x.1 ≤ r.bits.size ∧ pre r.bits a = true then (r.bits.size, r.hop) else x
def bestF (a : ByteArray) (l : List Rt) : Nat × Nat := l.foldl (bstep a) (0, 0)
theorem bestF_snoc (a : ByteArray) (l : List Rt) (r : Rt) : bestF a (l ++ [r]) = bstep a (bestF a l) r := by simp [bestF]
theorem bestF_take (a : ByteArray) (l : List Rt) (i : Nat) (h : i < l.length) : bestF a (l.take (i + 1)) = bstep a (bestF a (l.take i)) l[i] := by
  rw [List.take_succ_eq_append_getElem h, bestF_snoc]

/-- The hop of the last line with these bits. -/
def lastOf (l : List Rt) (b : ByteArray) : Option Nat := l.foldl (fun o r => if r.bits = b then some r.hop else o) none
theorem lastOf_snoc (l : List Rt) (r : Rt) (b : ByteArray) : lastOf (l ++ [r]) b = if r.bits = b then some r.hop else lastOf l b := by simp [lastOf]

/-- A fold from the left, read from the right. -/
theorem snoc_ind {p : List Rt → Prop} (h0 : p []) (h1 : ∀ l r, p l → p (l ++ [r])) (l : List Rt) : p l := by
  have : ∀ m : List Rt, p m.reverse := by
    intro m
    induction m with
    | nil => exact h0
    | cons r m ih => rw [List.reverse_cons]; exact h1 _ _ ih
  simpa using this l.reverse

/-- What a list of routes says of each text of bits: at most once. -/
def Once (d : List Rt) : Prop := d.Pairwise (fun x y => x.bits ≠ y.bits)

theorem putR_mem {b : ByteArray} {h : Nat} : ∀ {d : List Rt}, Once d → ∀ r : Rt, r ∈ putR d b h ↔ (r.bits = b ∧ r.hop = h) ∨ (r.bits ≠ b ∧ r ∈ d)
  | [], _, r => by
    simp only [putR, List.mem_singleton, List.not_mem_nil, and_false, or_false]
    constructor
    · rintro rfl; exact ⟨rfl, rfl⟩
    · rintro ⟨rfl, rfl⟩; rfl
  | x :: d, ho, r => by
    have ho' := List.pairwise_cons.1 ho
    unfold putR
    split
    · rename_i hx
      simp only [List.mem_cons]
      constructor
      · rintro (rfl | hr)
        · exact .inl ⟨hx, rfl⟩
        · exact .inr ⟨fun e => ho'.1 r hr (by rw [hx, e]), .inr hr⟩
      · rintro (⟨h1, h2⟩ | ⟨h1, rfl | h2⟩)
        · exact .inl (by cases r; simp_all)
        · exact absurd hx h1
        · exact .inr h2
    · rename_i hx
      simp only [List.mem_cons, putR_mem ho'.2 r]
      constructor
      · rintro (rfl | ⟨h1, h2⟩ | ⟨h1, h2⟩)
        · exact .inr ⟨hx, .inl rfl⟩
        · exact .inl ⟨h1, h2⟩
        · exact .inr ⟨h1, .inr h2⟩
      · rintro (⟨h1, h2⟩ | ⟨h1, rfl | h2⟩)
        · exact .inr (.inl ⟨h1, h2⟩)
        · exact .inl rfl
        · exact .inr (.inr ⟨h1, h2⟩)
theorem putR_once {b : ByteArray} {h : Nat} : ∀ {d : List Rt}, Once d → Once (putR d b h)
  | [], _ => by simp [putR, Once]
  | x :: d, ho => by
    have ho' := List.pairwise_cons.1 ho
    unfold putR
    split
    · exact List.pairwise_cons.2 ⟨ho'.1, ho'.2⟩
    · rename_i hx
      refine List.pairwise_cons.2 ⟨fun y hy => ?_, putR_once ho'.2⟩
      rcases (putR_mem ho'.2 y).1 hy with ⟨h1, _⟩ | ⟨_, h2⟩
      · rw [h1]; exact hx
      · exact ho'.1 y h2

theorem dedup_once (l : List Rt) : Once (dedup l) := by
  refine snoc_ind (p := fun l => Once (dedup l)) ?_ ?_ l
  · simp [dedup, Once]
  · intro l r ih; rw [dedup_snoc]; exact putR_once ih
theorem dedup_mem (l : List Rt) (r : Rt) : r ∈ dedup l ↔ lastOf l r.bits = some r.hop := by
  refine snoc_ind (p := fun l => r ∈ dedup l ↔ lastOf l r.bits = some r.hop) ?_ ?_ l
  · simp [dedup, lastOf]
  · intro l x ih
    rw [dedup_snoc, putR_mem (dedup_once l), lastOf_snoc, ih]
    by_cases hx : x.bits = r.bits
    · rw [if_pos hx]
      simp only [hx, ne_eq, not_true_eq_false, false_and, or_false, true_and, Option.some.injEq]
      exact ⟨fun e => e.symm, fun e => e.symm⟩
    · rw [if_neg hx]
      have : r.bits ≠ x.bits := fun e => hx e.symm
      simp [this]

/-- What the best of the lines is. -/
theorem bestF_spec (a : ByteArray) (l : List Rt) : (bestF a l = (0, 0) ∧ ∀ b h, lastOf l b = some h → pre b a = false) ∨
    (∃ b, pre b a = true ∧ b.size = (bestF a l).1 ∧ lastOf l b = some (bestF a l).2 ∧ ∀ b' h, lastOf l b' = some h → pre b' a = true → b'.size ≤ (bestF a l).1) := by
  refine snoc_ind (p := fun l => (bestF a l = (0, 0) ∧ ∀ b h, lastOf l b = some h → pre b a = false) ∨
    (∃ b, pre b a = true ∧ b.size = (bestF a l).1 ∧ lastOf l b = some (bestF a l).2 ∧ ∀ b' h, lastOf l b' = some h → pre b' a = true → b'.size ≤ (bestF a l).1)) ?_ ?_ l
  · exact .inl ⟨rfl, fun b h hl => by simp [lastOf] at hl⟩
  · intro l r ih
    rw [bestF_snoc]
    unfold bstep
    split
    · rename_i hc
      refine .inr ⟨r.bits, hc.2, rfl, by rw [lastOf_snoc, if_pos rfl], ?_⟩
      intro b' h hl hp
      rw [lastOf_snoc] at hl
      simp only []
      split at hl
      · rename_i hb; rw [hb]; exact Nat.le_refl _
      · rcases ih with ⟨_, h2⟩ | ⟨b, _, _, _, h4⟩
        · rw [h2 b' h hl] at hp; exact absurd hp (by simp)
        · exact Nat.le_trans (h4 b' h hl hp) hc.1
    · rename_i hc
      rcases ih with ⟨h1, h2⟩ | ⟨b, h1, h2, h3, h4⟩
      · refine .inl ⟨h1, fun b h hl => ?_⟩
        rw [lastOf_snoc] at hl
        split at hl
        · rename_i hb
          rw [h1] at hc
          cases hp : pre b a with
          | false => rfl
          | true => exact absurd ⟨Nat.zero_le _, by rw [hb]; exact hp⟩ hc
        · exact h2 b h hl
      · refine .inr ⟨b, h1, h2, ?_, ?_⟩
        · rw [lastOf_snoc]
          split
          · rename_i hb
            exact absurd ⟨by rw [hb, h2]; exact Nat.le_refl _, by rw [hb]; exact h1⟩ hc
          · exact h3
        · intro b' h hl hp
          rw [lastOf_snoc] at hl
          split at hl
          · rename_i hb
            subst hb
            by_cases hle : (bestF a l).1 ≤ r.bits.size
            · exact absurd ⟨hle, hp⟩ hc
            · omega
          · exact h4 b' h hl hp

/-- What the document's answer is, of the routes once each. -/
def RRes (a : ByteArray) (d : List Rt) (h : Nat) : Prop :=
  (h = 0 ∧ ∀ r ∈ d, pre r.bits a = false) ∨ (∃ r ∈ d, pre r.bits a = true ∧ h = r.hop ∧ ∀ r' ∈ d, pre r'.bits a = true → r'.bits.size ≤ r.bits.size)

theorem pre_size_eq {a b c : ByteArray} (hb : pre b a = true) (hc : pre c a = true) (h : b.size = c.size) : b = c := by
  simp only [pre, decide_eq_true_eq] at hb hc
  refine ba_ext ?_
  rw [List.prefix_iff_eq_take] at hb hc
  rw [hb, hc]
  have : b.data.toList.length = c.data.toList.length := h
  rw [this]

theorem best_eq {a : ByteArray} {l : List Rt} {h : Nat} (hr : RRes a (dedup l) h) : h = (bestF a l).2 := by
  rcases bestF_spec a l with ⟨h1, h2⟩ | ⟨b, h1, h2, h3, h4⟩
  · rw [h1]
    rcases hr with ⟨h0, _⟩ | ⟨r, hm, hp, _, _⟩
    · exact h0
    · rw [h2 r.bits r.hop ((dedup_mem l r).1 hm)] at hp; exact absurd hp (by simp)
  · have hbm : (⟨b, (bestF a l).2⟩ : Rt) ∈ dedup l := (dedup_mem l ⟨b, (bestF a l).2⟩).2 h3
    rcases hr with ⟨_, h0⟩ | ⟨r, hm, hp, rfl, hmax⟩
    · have := h0 _ hbm; rw [h1] at this; exact absurd this (by simp)
    · have e1 := hmax _ hbm h1
      have e2 := h4 r.bits r.hop ((dedup_mem l r).1 hm) hp
      have : r.bits = b := pre_size_eq hp h1 (by simp only [] at e1; omega)
      have e3 := (dedup_mem l r).1 hm
      rw [this, h3] at e3
      exact (Option.some.inj e3).symm
end Go.Proofs.YtdfnmpmmkcpddaaDoor
