/- The walks of Print: numbers, lines, texts. -/
import Derived.Test.YtdfnmpmmkcpddaaDoorWalkI
import Derived.Test.YtdfnmpmmkcpddaaDoorSpecQ
import Derived.Test.YtdfnmpmmkcpddaaDoorEnv
import Derived.Test.YtdfnmpmmkcpddaaDoorShelf
namespace Go.Proofs.YtdfnmpmmkcpddaaDoor
open Go.RowKit

theorem itoa_any (n : Nat) (w : World) (hn : n ≤ 250) (hE : Env w) :
    Calls Tryd.prog 88 #[.int .i64 n] w fun e w' => e = .returned (.string (decB n)) ∧ Below w.heap.size w w' := by
  refine (Tryd.strconv_Itoa n (by omega) (by omega) w hE).mono ?_
  rintro e w' ⟨rfl, k, os, rfl⟩
  refine ⟨ret1 (str_eq ?_), ?_⟩
  · unfold decB Lib.itoa
    rw [if_neg (by omega), Int.toNat_natCast]
  · refine ⟨rfl, rfl, rfl, ?_, ?_⟩
    · simp [Sort.grow]
    · intro j hj
      show ((w.drewN k).heap ++ os)[j]? = _
      rw [Array.getElem?_append_left (by simpa using hj)]; rfl

set_option maxRecDepth 100000 in
theorem decimal_any (n : Nat) (w : World) (h1 : 1 ≤ n) (hn : n ≤ 250) :
    Calls Tryd.prog 74 #[.int .i64 n] w fun e w' => e = .returned (.string (decB n)) ∧ Below w.heap.size w w' := by
  go_enter Tryd.func74, Tryd.ntmps74
  go_wp2_with fail
  go_loopg [0, 3] n (fun g x y wr => ∃ (q : Nat) (t : List UInt8) (b : ByteArray), x = .int .i64 q ∧ y = .string b ∧ q ≤ 250 ∧ g = q ∧ b.size ≤ 250 ∧ b.size + q ≤ 250 ∧ Hid (b = ⟨t.toArray⟩) ∧ Below w.heap.size w wr ∧ Hid ((if q = 0 then t else Lib.decDigits q ++ t) = Lib.decDigits n))
  case atStart => exact ⟨n, [], _, rfl, rfl, hn, rfl, by show 0 ≤ 250; omega, by show 0 + n ≤ 250; omega, rfl, Below.refl _ _, by unfold Hid; rw [if_neg (by omega)]; simp⟩
  case round =>
    obtain ⟨q, t, b, rfl, rfl, hq, rfl, hb1, hb2, HB, hbel, HN⟩ := hrel
    by_cases hq0 : 0 < gk
    · obtain ⟨d, hd⟩ : ∃ d : Nat, d = gk % 10 := ⟨_, rfl⟩
      have hd9 : d ≤ 9 := by omega
      have hdi : (gk : Int) % 10 = (d : Int) := by omega
      have HD : Hid (d = gk % 10) := hd
      clear hd
      have hcv : (convert 107 9 (Value.slice (some ⟨wr.heap.size, 0, none⟩) 1 1)).run Tryd.prog (wr.alloc (Obj.cells #[Value.int IntKind.u8 (48 + (d : Int))] 5)) = .ok (.string ⟨#[dgt d]⟩) (wr.alloc (Obj.cells #[Value.int IntKind.u8 (48 + (d : Int))] 5)) := by
        refine run_convert_bytes_back (P := Tryd.prog) _ 107 9 5 ⟨wr.heap.size, 0, none⟩ 1 [dgt d] Tryd.underlying107 Tryd.underlying5 Tryd.underlying9 ?_
        intro j hj
        have : j = 0 := by simp at hj; exact hj
        subst this
        simp [Addr.add, dgt_toNat hd9]
      go_wp2_with fail
      go_roundg (gk / 10)
      case measure => omega
      case rel =>
        refine ⟨gk / 10, dgt d :: t, _, int_eq (by omega), rfl, by omega, rfl, by rw [size_cons]; omega, by rw [size_cons]; omega, ?_, hbel.alloc hbel.size _, ?_⟩
        · unfold Hid; rw [HB.out]; refine ba_ext ?_; simp [ByteArray.data_append]
        · unfold Hid; rw [HD.out, dec_step hq0]; have := HN.out; rw [if_neg (by omega)] at this; exact this
    · go_wp2_with fail
      go_ret
      have := HN.out
      rw [if_pos (by omega)] at this
      exact ⟨ret1 (str_eq (by rw [HB.out, this]; rfl)), hbel⟩

theorem printRoute_any (r : Rt) (w : World) (hf : Fit r) (hE : Env w) :
    Calls Tryd.prog 62 #[.agg #[.string r.bits, .int .i64 r.hop]] w fun e w' => e = .returned (.string (lineB r)) ∧ Below w.heap.size w w' := by
  obtain ⟨b, h⟩ := r
  obtain ⟨f1, f2, f3⟩ := hf
  simp only [] at f1 f2 f3
  have hds := decB_size f3
  by_cases he : b = (⟨#[]⟩ : ByteArray)
  · have hline : Hid (lineB ⟨b, h⟩ = (⟨#[42]⟩ : ByteArray) ++ (⟨#[32]⟩ : ByteArray) ++ decB h ++ (⟨#[10]⟩ : ByteArray)) := by unfold Hid lineB bitsOr; simp only []; rw [if_pos he]
    subst he
    go_enter Tryd.func62, Tryd.ntmps62
    go_wp2_with fail
    refine (itoa_any h _ f3 (hE.alloc _)).mono ?_
    rintro e w1 ⟨rfl, hb1⟩
    go_wp2_with fail
    go_ret
    exact ⟨ret1 (str_eq hline.out.symm), ((Below.refl _ _).alloc (Nat.le_refl _) _).trans (hb1.mono (by simp))⟩
  · have hline : Hid (lineB ⟨b, h⟩ = b ++ (⟨#[32]⟩ : ByteArray) ++ decB h ++ (⟨#[10]⟩ : ByteArray)) := by unfold Hid lineB bitsOr; simp only []; rw [if_neg he]
    have hne : b.toList.isEmpty = false := by
      cases hl : b.toList with
      | nil => exact absurd (ba_ext (by rw [← ByteArray.toList_eq, hl])) he
      | cons x l => rfl
    go_enter Tryd.func62, Tryd.ntmps62
    go_wp2_with fail
    refine (itoa_any h _ f3 (hE.alloc _)).mono ?_
    rintro e w1 ⟨rfl, hb1⟩
    go_wp2_with fail
    go_ret
    exact ⟨ret1 (str_eq hline.out.symm), ((Below.refl _ _).alloc (Nat.le_refl _) _).trans (hb1.mono (by simp))⟩

set_option maxRecDepth 100000 in
theorem printRoutes_any (l : List Rt) (ao : Option Addr) (cap base : Nat) (w : World) (hl : l.length ≤ 400) (hfit : ∀ r ∈ l, Fit r) (hE : Env w) (hown : w.ownsRow base 78 2 (.slice ao l.length cap) l.length (rc l)) :
    Calls Tryd.prog 39 #[.slice ao l.length cap] w fun e w' => e = .returned (.string (textB l)) ∧ Below w.heap.size w w' := by
  have HF : Hid (∀ r ∈ l, Fit r) := hfit
  clear hfit
  go_enter Tryd.func39, Tryd.ntmps39
  go_wp2_with fail
  go_loopg [3, 4] l.length (fun g x z wr => ∃ (i : Nat) (t : ByteArray), x = .string t ∧ z = .int .i64 i ∧ g + i = l.length ∧ t.size ≤ 20 * i ∧ Below w.heap.size w wr ∧ Hid (t = textB (l.take i)))
  case atStart => exact ⟨0, _, rfl, rfl, by omega, by show 0 ≤ 0; omega, Below.refl _ _, rfl⟩
  case round =>
    obtain ⟨i, t, rfl, rfl, hgi, hts, hbel, HT⟩ := hrel
    by_cases hlt : i < l.length
    · obtain ⟨g, rfl, hg1, hg2, hg3, hg4⟩ := own_some hown (by omega)
      unfold maxLen at hg4
      obtain ⟨c0, c1⟩ := row_cells hown hg2 hbel hlt
      have hfi := HF.out l[i] (List.getElem_mem hlt)
      have hls := lineB_size hfi
      have HTT : Hid (textB (l.take (i + 1)) = textB (l.take i) ++ lineB l[i]) := textB_take l i hlt
      go_wp2_with fail
      refine (printRoute_any l[i] _ hfi (hE.later hbel)).mono ?_
      rintro e w1 ⟨rfl, hb1⟩
      go_wp2_with fail
      go_roundg (gk - 1)
      case measure => omega
      case rel => exact ⟨i + 1, _, rfl, int_eq (by omega), by omega, by rw [ByteArray.size_append]; omega, hbel.trans (hb1.mono hbel.size), by unfold Hid; rw [HTT.out, HT.out]⟩
    · go_wp2_with fail
      go_ret
      have hh := HT.out
      rw [List.take_of_length_le (by omega)] at hh
      exact ⟨ret1 (str_eq hh), hbel⟩
end Go.Proofs.YtdfnmpmmkcpddaaDoor
