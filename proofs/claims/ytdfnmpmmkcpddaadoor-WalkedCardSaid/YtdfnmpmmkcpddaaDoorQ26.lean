import Derived.Test.YtdfnmpmmkcpddaaDoorQ19
import Derived.Test.YtdfnmpmmkcpddaaDoorQ25
import Derived.Laws.IdiomStrings
import Derived.StillTailTactics
/- The walks of the program's Compile: bytes, numbers, entries. -/
namespace Go.Proofs.YtdfnmpmmkcpddaaDoor
open Go.RowKit

set_option maxRecDepth 100000 in
theorem byteText_any (n : Nat) (w : World) (hn : n < 256) : Calls Tryd.prog 65 #[.int .i64 n] w fun e w' => e = .returned (.string (o1 n)) ∧ Below w.heap.size w w' := by
  have hcv := run_convert_bytes_back (P := Tryd.prog) (w.alloc (.cells #[.int .u8 n] 5)) 107 9 5 ⟨w.heap.size, 0, none⟩ 1 [UInt8.ofNat n] Tryd.underlying107 Tryd.underlying5 Tryd.underlying9 (fun j hj => by
    obtain rfl : j = 0 := by simpa using hj
    simp [Addr.add]; omega)
  rw [show [UInt8.ofNat n].length = 1 from rfl] at hcv
  go_enter Tryd.func65, Tryd.ntmps65
  go_wp2_with fail
  go_ret
  exact ⟨rfl, (Below.refl _ _).alloc (Nat.le_refl _) _⟩

set_option maxRecDepth 100000 in
theorem numberText_any (n : Nat) (w : World) (hn : n < 65536) : Calls Tryd.prog 66 #[.int .i64 n] w fun e w' => e = .returned (.string (u2 n)) ∧ Below w.heap.size w w' := by
  obtain ⟨q, hq⟩ : ∃ q, n / 256 = q := ⟨_, rfl⟩
  obtain ⟨r, hr⟩ : ∃ r, n % 256 = r := ⟨_, rfl⟩
  have hqi : (n : Int) / 256 = (q : Int) := by omega
  have hri : (n : Int) % 256 = (r : Int) := by omega
  have hqt : Int.tdiv (n : Int) 256 = (q : Int) := by rw [Int.tdiv_eq_ediv_of_nonneg (by omega)]; exact hqi
  have hrt : Int.tmod (n : Int) 256 = (r : Int) := by rw [Int.tmod_eq_emod_of_nonneg (by omega)]; exact hri
  have hqb : q < 256 := by omega
  have hrb : r < 256 := by omega
  have HU : Hid (u2 n = o1 q ++ o1 r) := by unfold Hid u2; rw [hq, hr]
  clear hq hr hqi hri
  go_enter Tryd.func66, Tryd.ntmps66
  go_wp2_with fail
  refine (byteText_any q _ hqb).mono ?_
  rintro e w1 ⟨rfl, hb1⟩
  go_wp2_with fail
  refine (byteText_any r _ hrb).mono ?_
  rintro e w2 ⟨rfl, hb2⟩
  go_wp2_with fail
  go_ret
  rw [HU.out]
  exact ⟨rfl, hb1.trans (hb2.mono hb1.size)⟩

/-- A row of targets. -/
def gc1 (x : Tg) : List Value := [.int .i64 (x.h : Nat), .string x.m, .int .i64 (x.d : Nat)]
def gc (l : List Tg) : List Value := l.flatMap gc1
theorem gc_snoc (l : List Tg) (x : Tg) : gc (l ++ [x]) = gc l ++ [.int .i64 (x.h : Nat), .string x.m, .int .i64 (x.d : Nat)] := by simp [gc, gc1]
theorem gc_cons (x : Tg) (l : List Tg) : gc (x :: l) = .int .i64 (x.h : Nat) :: .string x.m :: .int .i64 (x.d : Nat) :: gc l := by simp [gc, gc1]
theorem gc_at : ∀ (l : List Tg) (i : Nat) (x : Tg), l[i]? = some x → (gc l)[i * 3]? = some (.int .i64 (x.h : Nat)) ∧ (gc l)[i * 3 + 1]? = some (.string x.m) ∧ (gc l)[i * 3 + 2]? = some (.int .i64 (x.d : Nat))
  | y :: l, 0, x, h => by simp at h; subst h; rw [gc_cons]; exact ⟨rfl, rfl, rfl⟩
  | y :: l, i + 1, x, h => by
    have := gc_at l i x (by simpa using h)
    rw [gc_cons, show (i + 1) * 3 = i * 3 + 1 + 1 + 1 from by omega, show i * 3 + 1 + 1 + 1 + 1 = (i * 3 + 1) + 1 + 1 + 1 from by omega, show i * 3 + 1 + 1 + 1 + 2 = (i * 3 + 2) + 1 + 1 + 1 from by omega]
    simpa using this
  | [], i, x, h => by simp at h
theorem targ_cells {w wr : World} {base e g cap : Nat} {l : List Tg} (hown : w.ownsRow base e 3 (.slice (some ⟨g, 0, none⟩) l.length cap) l.length (gc l)) (hg : g < w.heap.size) (hb : Below w.heap.size w wr) {i : Nat} (hi : i < l.length) :
    wr.cell? ⟨g, i * 3, none⟩ = some (.int .i64 (l[i].h : Nat)) ∧ wr.cell? ⟨g, i * 3 + 1, none⟩ = some (.string l[i].m) ∧ wr.cell? ⟨g, i * 3 + 2, none⟩ = some (.int .i64 (l[i].d : Nat)) := by
  obtain ⟨k0, k1, k2⟩ := gc_at l i l[i] (by simp)
  exact ⟨(hb.cell (p := ⟨g, i * 3, none⟩) hg).trans ((hown.cellAt (i * 3) (by omega)).trans k0), (hb.cell (p := ⟨g, i * 3 + 1, none⟩) hg).trans ((hown.cellAt (i * 3 + 1) (by omega)).trans k1),
    (hb.cell (p := ⟨g, i * 3 + 2, none⟩) hg).trans ((hown.cellAt (i * 3 + 2) (by omega)).trans k2)⟩

theorem ba_nil {m : ByteArray} (h : m.size = 0) : m.toList.isEmpty = true := by
  rw [ByteArray.toList_eq]
  exact List.isEmpty_iff.2 (List.length_eq_zero_iff.1 h)
theorem ba_full {m : ByteArray} (h : m.size ≠ 0) : m.toList.isEmpty = false := by
  rw [ByteArray.toList_eq]
  cases e : m.data.toList with
  | nil => exact absurd (show m.data.toList.length = 0 by rw [e]; rfl) h
  | cons _ _ => rfl
theorem entV_at {l : List Tg} {i : Nat} (h : i < l.length) : entV l i = if l[i].m.size = 0 then l[i].h else 1000 + (l.length - i) * 2 + (layN (l.take i)).size := by
  unfold entV; rw [List.getElem?_eq_getElem h]
theorem layN_take {l : List Tg} {i : Nat} (h : i < l.length) : layN (l.take (i + 1)) = layN (l.take i) ++ l[i].m := by
  rw [List.take_succ_eq_append_getElem h, layN_app]
  congr 1
  simp only [layN]
  exact ba_ext (by simp [ByteArray.data_append])
theorem layN_part {l : List Tg} {i : Nat} (h : i < l.length) : (layN (l.take i)).size + l[i].m.size ≤ (layN l).size := by
  rw [layN_at (List.getElem?_eq_getElem h), ByteArray.size_append, ByteArray.size_append]; omega

set_option maxRecDepth 100000 in
set_option maxHeartbeats 1000000 in
theorem layTargets_any (l : List Tg) (ao : Option Addr) (cap base : Nat) (w : World) (hb : (layF l).size ≤ 60000) (hh : ∀ x ∈ l, x.h ≤ 250) (hown : w.ownsRow base 84 3 (.slice ao l.length cap) l.length (gc l)) :
    Calls Tryd.prog 64 #[.slice ao l.length cap] w fun e w' => e = .returned (.string (layF l)) ∧ Below w.heap.size w w' := by
  have hsz := layF_size l
  have HLF : Hid (layF l = entP l l.length ++ layN l) := rfl
  obtain ⟨T, hT⟩ : ∃ T, (layF l).size = T := ⟨_, rfl⟩
  rw [hT] at hsz hb
  clear hT
  obtain ⟨U, hU⟩ : ∃ U, (layN l).size = U := ⟨_, rfl⟩
  have HP : Hid (∀ i (h : i < l.length), (layN (l.take i)).size + l[i].m.size ≤ U) := fun i h => by rw [← hU]; exact layN_part h
  rw [hU] at hsz
  clear hU
  go_enter Tryd.func64, Tryd.ntmps64
  go_wp2_with fail
  go_loopg [3, 4, 5] l.length (fun g x y z wr => ∃ (i : Nat) (E N : ByteArray), x = .string E ∧ y = .string N ∧ z = .int .i64 i ∧ g + i = l.length ∧ E.size = 2 * i ∧ N.size ≤ U ∧ Hid (E = entP l i) ∧ Hid (N = layN (l.take i)) ∧ Below w.heap.size w wr)
  case atStart => exact ⟨0, ⟨#[]⟩, ⟨#[]⟩, rfl, rfl, rfl, by omega, rfl, Nat.zero_le _, rfl, rfl, Below.refl _ _⟩
  case round =>
    obtain ⟨i, E, N, rfl, rfl, rfl, hgi, hE, hN, HE, HN, hbel⟩ := hrel
    by_cases hlt : i < l.length
    · obtain ⟨g, rfl, hg1, hg2, hg3, hg4⟩ := own_some hown (by omega)
      unfold maxLen at hg4
      obtain ⟨c0, c1, c2⟩ := targ_cells hown hg2 hbel hlt
      have hx := hh l[i] (List.getElem_mem hlt)
      have hv := entV_at hlt
      have hp := HP.out i hlt
      have HN2 : Hid (N ++ l[i].m = layN (l.take (i + 1))) := by unfold Hid; rw [layN_take hlt, HN.out]
      rw [← HN.out] at hv hp
      have HE2 : Hid (∀ v, entV l i = v → E ++ u2 v = entP l (i + 1)) := fun v e => by rw [entP, HE.out, e]
      have hE2 : ∀ v, (E ++ u2 v).size = 2 * (i + 1) := fun v => by rw [ByteArray.size_append, u2_size, hE]; omega
      have HSE : Hid (∀ v, (E ++ u2 v).size = 2 * (i + 1)) := hE2
      have HSN : Hid ((N ++ l[i].m).size ≤ U) := by unfold Hid; rw [ByteArray.size_append]; exact hp
      obtain ⟨m, hm⟩ : ∃ m, l[i].m = m := ⟨_, rfl⟩
      rw [hm] at c1 hv hp HN2 HSN
      have HM : Hid (l[i].m = m) := hm
      clear hE2 hm HE HN
      by_cases h0 : m.size = 0
      · have hbe := ba_nil h0
        rw [if_pos h0] at hv
        have HE4 : Hid (E ++ u2 l[i].h = entP l (i + 1)) := HE2.out _ hv
        have hus := u2_size l[i].h
        clear hv h0 HE2
        go_wp2_with fail
        refine (numberText_any l[i].h _ (by omega)).mono ?_
        rintro e w1 ⟨rfl, hb1⟩
        have hbel1 := hbel.trans (hb1.mono hbel.size)
        obtain ⟨c0, c1, c2⟩ := targ_cells hown hg2 hbel1 hlt
        rw [HM.out] at c1
        go_wp2_with fail
        go_roundg (gk - 1)
        case measure => omega
        case rel => exact ⟨i + 1, _, _, rfl, rfl, int_eq (by omega), by omega, HSE.out _, HSN.out, HE4.out, HN2.out, hbel1⟩
      · have hbe := ba_full h0
        rw [if_neg h0] at hv
        obtain ⟨V, hV⟩ : ∃ V, 1000 + (l.length - i) * 2 + N.size = V := ⟨_, rfl⟩
        rw [hV] at hv
        have HE4 : Hid (E ++ u2 V = entP l (i + 1)) := HE2.out _ hv
        have hVb : V < 65536 := by omega
        have hVi : 1000 + ((l.length : Int) - (i : Int)) * 2 + (N.size : Int) = (V : Int) := by omega
        have hus := u2_size V
        clear hv h0 HE2 hV
        go_wp2_with fail
        refine (numberText_any V _ hVb).mono ?_
        rintro e w1 ⟨rfl, hb1⟩
        have hbel1 := hbel.trans (hb1.mono hbel.size)
        obtain ⟨c0, c1, c2⟩ := targ_cells hown hg2 hbel1 hlt
        rw [HM.out] at c1
        go_wp2_with fail
        go_roundg (gk - 1)
        case measure => omega
        case rel => exact ⟨i + 1, _, _, rfl, rfl, int_eq (by omega), by omega, HSE.out _, HSN.out, HE4.out, HN2.out, hbel1⟩
    · go_wp2_with fail
      go_ret
      refine ⟨ret1 (str_eq ?_), hbel⟩
      rw [HLF.out, HE.out, HN.out, show i = l.length from by omega, List.take_length]
end Go.Proofs.YtdfnmpmmkcpddaaDoor
/- The walks of the program's Compile: what bits lead to. -/
namespace Go.Proofs.YtdfnmpmmkcpddaaDoor
open Go.RowKit

/-- A target in a block of its own. -/
def Gb (w : World) (B : Nat) (h : Int) (m : ByteArray) (d : Int) : Prop := w.heap[B]? = some (.cells #[.int .i64 h, .string m, .int .i64 d] 84 (0, 0))
section
variable {w : World} {B : Nat} {h d : Int} {m : ByteArray}
theorem Gb.cells (k : Gb w B h m d) : w.cell? ⟨B, 0, none⟩ = some (.int .i64 h) ∧ w.cell? ⟨B, 1, none⟩ = some (.string m) ∧ w.cell? ⟨B, 2, none⟩ = some (.int .i64 d) := by
  refine ⟨?_, ?_, ?_⟩ <;> (rw [cell_of_row w B _ _ _ _ k]; rfl)
theorem Gb.free (k : Gb w B h m d) (j : Nat) : w.frozen? ⟨B, j, none⟩ = false := frozen_of_row w B j _ _ k
theorem Gb.set0 (k : Gb w B h m d) (x : Int) : Gb (w.setCell ⟨B, 0, none⟩ (.int .i64 x)) B x m d := heap_setCell_same w B 0 _ _ _ k
theorem Gb.set1 (k : Gb w B h m d) (x : ByteArray) : Gb (w.setCell ⟨B, 1, none⟩ (.string x)) B h x d := heap_setCell_same w B 1 _ _ _ k
theorem Gb.set2 (k : Gb w B h m d) (x : Int) : Gb (w.setCell ⟨B, 2, none⟩ (.int .i64 x)) B h m x := heap_setCell_same w B 2 _ _ _ k
theorem Gb.new (w : World) (h : Int) (m : ByteArray) (d : Int) : Gb (w.alloc (.cells #[.int .i64 h, .string m, .int .i64 d] 84)) w.heap.size h m d := heap_alloc_new w _
theorem Gb.lt (k : Gb w B h m d) : B < w.heap.size := (Array.getElem?_eq_some_iff.1 k).1
theorem Gb.below {w' : World} (k : Gb w B h m d) (hb : Below w.heap.size w w') : Gb w' B h m d := (hb.block B k.lt).trans k
/-- All three cells are written. -/
theorem Gb.store (k : Gb w B h m d) (x : Int) (y : ByteArray) (z : Int) :
    w.cell? ⟨B, 0, none⟩ = some (.int .i64 h) ∧ w.frozen? ⟨B, 0, none⟩ = false ∧ (w.setCell ⟨B, 0, none⟩ (.int .i64 x)).cell? ⟨B, 1, none⟩ = some (.string m) ∧ (w.setCell ⟨B, 0, none⟩ (.int .i64 x)).frozen? ⟨B, 1, none⟩ = false ∧
    ((w.setCell ⟨B, 0, none⟩ (.int .i64 x)).setCell ⟨B, 1, none⟩ (.string y)).cell? ⟨B, 2, none⟩ = some (.int .i64 d) ∧ ((w.setCell ⟨B, 0, none⟩ (.int .i64 x)).setCell ⟨B, 1, none⟩ (.string y)).frozen? ⟨B, 2, none⟩ = false ∧
    Gb (((w.setCell ⟨B, 0, none⟩ (.int .i64 x)).setCell ⟨B, 1, none⟩ (.string y)).setCell ⟨B, 2, none⟩ (.int .i64 z)) B x y z :=
  ⟨k.cells.1, k.free 0, (k.set0 x).cells.2.1, (k.set0 x).free 1, ((k.set0 x).set1 y).cells.2.2, ((k.set0 x).set1 y).free 2, ((k.set0 x).set1 y).set2 z⟩
theorem below_three {A : Nat} {w0 w : World} (hb : Below A w0 w) {B : Nat} (h : A ≤ B) (x y z : Value) : Below A w0 (((w.setCell ⟨B, 0, none⟩ x).setCell ⟨B, 1, none⟩ y).setCell ⟨B, 2, none⟩ z) :=
  ((hb.setCell (by show A ≤ B; omega) _).setCell (by show A ≤ B; omega) _).setCell (by show A ≤ B; omega) _
end

/-- The lines and the levels, as they lie. -/
structure Fx (w0 : World) (L : List Rt) (aoL : Option Addr) (capL g0 capV : Nat) (lv : List Value) : Prop where
  len : L.length ≤ 24
  bits : ∀ r ∈ ordR L, r.bits.size ≤ 12
  ok : Bits (ordR L)
  hops : ∀ r ∈ ordR L, r.hop ≤ 250
  own : ∃ base, w0.ownsRow base 78 2 (.slice aoL L.length capL) L.length (rc L)
  lev : Lev w0 (ordR L) (nodesF (ordR L)) lv
  cell : ∀ i, i < lv.length → w0.cell? ⟨g0, i, none⟩ = lv[i]?
  blk : g0 < w0.heap.size
  cap1 : lv.length ≤ capV
  cap2 : capV ≤ maxLen
  few : lv.length ≤ 12
def tgV (x : Tg) : Value := .agg #[.int .i64 (x.h : Nat), .string x.m, .int .i64 (x.d : Nat)]
/-- What is asked of targetOf with k levels. -/
def TgC (w0 : World) (L : List Rt) (aoL : Option Addr) (capL g0 capV k : Nat) : Prop := ∀ (b : ByteArray) (w : World), b.size ≤ 12 → Below w0.heap.size w0 w →
  Calls Tryd.prog 63 #[.slice aoL L.length capL, .slice (some ⟨g0, 0, none⟩) k capV, .string b] w fun e w' => e = .returned (tgV (tgF (ordR L) k b)) ∧ Below w.heap.size w w'
/-- What is asked of nodeTarget with k levels below. -/
def NdC (w0 : World) (L : List Rt) (aoL : Option Addr) (capL g0 capV k : Nat) : Prop := ∀ (b : ByteArray) (c : Int) (w : World), b.size ≤ 12 → 1 ≤ heightF (ordR L) b → Below w0.heap.size w0 w →
  Calls Tryd.prog 90 #[.slice aoL L.length capL, .slice (some ⟨g0, 0, none⟩) k capV, .agg #[.string b, .int .i64 (heightF (ordR L) b), .int .i64 (chF (ordR L) (k + 1) b), .int .i64 c]] w fun e w' => e = .returned (tgV (tgF (ordR L) (k + 1) b)) ∧ Below w.heap.size w w'

section
variable {w0 : World} {L : List Rt} {aoL : Option Addr} {capL g0 capV : Nat} {lv : List Value}

set_option maxRecDepth 100000 in
theorem targ_zero (H : Fx w0 L aoL capL g0 capV lv) : TgC w0 L aoL capL g0 capV 0 := by
  intro b w hb hbel
  obtain ⟨base, hown⟩ := H.own
  have HB : Hid ((bestF b L).2 = (bestF b (ordR L)).2) := (best_ord b L).symm
  have HH := fun w hb => hopOf_any b L aoL capL base w (by have := H.len; omega) (own_below hown hb)
  have HT : Hid (tgV (tgF (ordR L) 0 b) = .agg #[.int .i64 ((bestF b L).2 : Nat), .string ⟨#[]⟩, .int .i64 (0 : Nat)]) := by unfold Hid; rw [HB.out]; rfl
  have HH' : Hid (∀ w : World, Below w0.heap.size w0 w → Calls Tryd.prog 47 #[.slice aoL L.length capL, .string b] w fun e w' => e = .returned (.int .i64 (bestF b L).2) ∧ Below w.heap.size w w') := HH
  clear HH H hown HB
  go_enter Tryd.func63, Tryd.ntmps63
  go_wp2_with fail
  refine (HH'.out _ (hbel.alloc hbel.size _)).mono ?_
  rintro e w1 ⟨rfl, hb1⟩
  have k0 := (Gb.new w 0 ⟨#[]⟩ 0).below hb1
  obtain ⟨k1, k2, k3, k4, k5, k6, k7⟩ := k0.store ((bestF b L).2 : Nat) ⟨#[]⟩ 0
  obtain ⟨m1, m2, m3⟩ := k7.cells
  have hB : Below w.heap.size w w1 := ((Below.refl _ _).alloc (Nat.le_refl _) _).trans (hb1.mono (by simp))
  go_wp2_with fail
  rw [HT.out]
  refine bodyPost_ret (v := .agg #[.int .i64 ((bestF b L).2 : Nat), .string ⟨#[]⟩, .int .i64 0]) (by simp [results, Tryd.results63, go_sem, m1, m2, m3]) rfl ⟨rfl, ?_⟩
  exact below_three hB (Nat.le_refl _) _ _ _

theorem nodes_mem {R : List Rt} {b : ByteArray} : b ∈ nodesF R ↔ 1 ≤ heightF R b := by
  constructor
  · exact nodes_height
  · intro h
    obtain ⟨r, hr, hp, he⟩ := height_at h
    exact nodesF_mem.2 ⟨r, hr, b.size, by have := pre_size hp; omega, pre_eq hp⟩
theorem kbits_node (R : List Rt) (k : Nat) (ns : List ByteArray) : kbits (ns.map (nodeK R k)) = ns := by
  unfold kbits; rw [List.map_map]
  have : (Tn.b ∘ nodeK R k) = id := rfl
  rw [this, List.map_id]

set_option maxRecDepth 100000 in
set_option maxHeartbeats 1000000 in
theorem targ_next {k : Nat} (H : Fx w0 L aoL capL g0 capV lv) (hk : k < lv.length) (HN : NdC w0 L aoL capL g0 capV k) : TgC w0 L aoL capL g0 capV (k + 1) := by
  intro b w hb hbel
  have hnl := nodes_length H.bits
  have hRl := ordR_length L
  have hLl := H.len
  have hcV := H.cap1
  have hcM := H.cap2
  have hk12 := H.few
  unfold maxLen at hcM
  obtain ⟨ao, cap, b0, hv, hown⟩ := H.lev k lv[k] (by simp)
  have hc := H.cell k hk
  rw [List.getElem?_eq_getElem hk, hv] at hc
  obtain ⟨ns, hn⟩ : ∃ ns, nodesF (ordR L) = ns := ⟨_, rfl⟩
  rw [hn] at hown hc hnl
  have hml : (ns.map (nodeK (ordR L) (k + 1))).length = ns.length := by simp
  have HOW : Hid (w0.ownsRow b0 76 4 (.slice ao ns.length cap) ns.length (tnc (ns.map (nodeK (ordR L) (k + 1))))) := hown
  have HFN : Hid (∀ w : World, Below w0.heap.size w0 w → Calls Tryd.prog 89 #[.slice ao ns.length cap, .string b] w fun e w' => e = .returned (.int .i64 (fxF b ns 0)) ∧ w' = w) := fun w hb => by
    have := findNode_any b (ns.map (nodeK (ordR L) (k + 1))) ao cap b0 w (by omega) (by rw [hml]; exact own_below hown hb)
    rw [hml, kbits_node] at this
    exact this
  have hcw : w.cell? ⟨g0, k, none⟩ = some (.slice ao ns.length cap) := (hbel.cell (p := ⟨g0, k, none⟩) H.blk).trans hc
  have HCE : Hid (∀ w : World, Below w0.heap.size w0 w → w.cell? ⟨g0, k, none⟩ = some (.slice ao ns.length cap)) := fun w hb => (hb.cell (p := ⟨g0, k, none⟩) H.blk).trans hc
  have hsub : ((k + 1 : Nat) : Int) - 1 = (k : Int) := by omega
  have hwk : IntKind.i64.wrap (k : Int) = (k : Int) := by rw [IntKind.wrap_i64]; omega
  have hkc : k ≤ capV := by omega
  have hb1 : Below w0.heap.size w0 (w.alloc (.cells #[.int .i64 0, .string ⟨#[]⟩, .int .i64 0] 84)) := hbel.alloc hbel.size _
  have hc1 := HCE.out _ hb1
  by_cases hm : 1 ≤ heightF (ordR L) b
  · obtain ⟨ix, hix, hat⟩ := fx_yes (i := 0) (show b ∈ ns by rw [← hn]; exact nodes_mem.2 hm)
    rw [Nat.zero_add] at hix
    have hixl := (List.getElem?_eq_some_iff.1 hat).1
    have hnb : ns[ix] = b := (List.getElem?_eq_some_iff.1 hat).2
    obtain ⟨g, rfl, hg1, hg2, hg3, hg4⟩ := own_some hown (by omega)
    unfold maxLen at hg4
    have HNC := HN b (costZ (ordR L) (k + 1) b)
    have HCC : Hid (∀ wr : World, Below w0.heap.size w0 wr → wr.cell? ⟨g, ix * 4, none⟩ = some (.string b) ∧ wr.cell? ⟨g, ix * 4 + 1, none⟩ = some (.int .i64 (heightF (ordR L) b : Nat)) ∧ wr.cell? ⟨g, ix * 4 + 2, none⟩ = some (.int .i64 (chF (ordR L) (k + 1) b : Nat)) ∧ wr.cell? ⟨g, ix * 4 + 3, none⟩ = some (.int .i64 (costZ (ordR L) (k + 1) b))) := fun wr hb => by
      have hown2 := hown
      rw [← hml] at hown2
      have := node_cells (i := ix) hown2 hg2 hb (by omega)
      rw [nodeK_at _ _ ns hixl, hnb] at this
      exact this
    have HFX : Hid (fxF b ns 0 = (ix : Int)) := hix
    obtain ⟨T, hT⟩ : ∃ T, tgF (ordR L) (k + 1) b = T := ⟨_, rfl⟩
    obtain ⟨hh, hhe⟩ : ∃ hh, heightF (ordR L) b = hh := ⟨_, rfl⟩
    obtain ⟨st, hste⟩ : ∃ st, chF (ordR L) (k + 1) b = st := ⟨_, rfl⟩
    obtain ⟨cz, hcze⟩ : ∃ cz, costZ (ordR L) (k + 1) b = cz := ⟨_, rfl⟩
    rw [hhe, hste, hcze] at HCC
    rw [hhe, hste, hcze, hT] at HNC
    rw [hhe] at hm
    rw [hT]
    have HNC' : Hid (∀ w : World, Below w0.heap.size w0 w → Calls Tryd.prog 90 #[.slice aoL L.length capL, .slice (some ⟨g0, 0, none⟩) k capV, .agg #[.string b, .int .i64 hh, .int .i64 st, .int .i64 cz]] w fun e w' => e = .returned (tgV T) ∧ Below w.heap.size w w') := fun w hw => HNC w hb hm hw
    have hm1 := hb1
    obtain ⟨d0, d1, d2, d3⟩ := HCC.out _ hb1
    clear HN HNC hown hc hix hat hnb hn hT hhe hste hcze H hv HOW hml hcw HCC HCE
    go_enter Tryd.func63, Tryd.ntmps63
    go_wp2_with fail
    refine (HFN.out _ hb1).mono ?_
    rintro e w1 ⟨rfl, rfl⟩
    rw [HFX.out]
    go_wp2_with fail
    generalize hw9 : w.alloc (.cells #[.int .i64 0, .string ⟨#[]⟩, .int .i64 0] 84) = w9 at d0 d1 d2 d3 hb1 hc1 ⊢
    have e0 : ({ heap := w9.heap, tape := w9.tape, drawn := w9.drawn + 1, os := w9.os, output := w9.output } : World).cell? ⟨g, ix * 4, none⟩ = some (.string b) := d0
    have e1 : ({ heap := w9.heap, tape := w9.tape, drawn := w9.drawn + 1, os := w9.os, output := w9.output } : World).cell? ⟨g, ix * 4 + 1, none⟩ = some (.int .i64 hh) := d1
    have e2 : ({ heap := w9.heap, tape := w9.tape, drawn := w9.drawn + 1, os := w9.os, output := w9.output } : World).cell? ⟨g, ix * 4 + 2, none⟩ = some (.int .i64 st) := d2
    have e3 : ({ heap := w9.heap, tape := w9.tape, drawn := w9.drawn + 1, os := w9.os, output := w9.output } : World).cell? ⟨g, ix * 4 + 3, none⟩ = some (.int .i64 cz) := d3
    go_still_tail 10, (by kernel_rfl)
    have hG9 : Gb w9 w.heap.size 0 ⟨#[]⟩ 0 := by rw [← hw9]; exact Gb.new w 0 ⟨#[]⟩ 0
    have hB9 : Below w.heap.size w w9 := by rw [← hw9]; exact (Below.refl _ _).alloc (Nat.le_refl _) _
    have hz9 : w.heap.size < w9.heap.size := hG9.lt
    go_wp2_with fail
    refine (HNC'.out _ (below_drewN hb1 1)).mono ?_
    rintro e w2 ⟨rfl, hb2⟩
    have hb2' : Below w9.heap.size w9 w2 := (below_drewN (Below.refl w9.heap.size w9) 1).trans hb2
    have k0 := hG9.below hb2'
    obtain ⟨k1, k2, k3, k4, k5, k6, k7⟩ := k0.store (T.h : Nat) T.m (T.d : Nat)
    obtain ⟨m1, m2, m3⟩ := k7.cells
    have hB2 : Below w.heap.size w w2 := hB9.trans (hb2'.mono (by omega))
    clear e0 e1 e2 e3 d0 d1 d2 d3 hc1
    unfold tgV
    go_wp2_with fail
    refine bodyPost_ret (v := .agg #[.int .i64 (T.h : Nat), .string T.m, .int .i64 (T.d : Nat)]) (by simp [results, Tryd.results63, go_sem, m1, m2, m3]) rfl ⟨rfl, ?_⟩
    exact below_three hB2 (Nat.le_refl _) _ _ _
  · obtain ⟨base, hownL⟩ := H.own
    have HB : Hid ((bestF b L).2 = (bestF b (ordR L)).2) := (best_ord b L).symm
    have HH := fun w hb => hopOf_any b L aoL capL base w (by omega) (own_below hownL hb)
    have HT : Hid (tgV (tgF (ordR L) (k + 1) b) = .agg #[.int .i64 ((bestF b L).2 : Nat), .string ⟨#[]⟩, .int .i64 (0 : Nat)]) := by unfold Hid; rw [HB.out, tgF, if_pos (by omega)]; rfl
    have HH' : Hid (∀ w : World, Below w0.heap.size w0 w → Calls Tryd.prog 47 #[.slice aoL L.length capL, .string b] w fun e w' => e = .returned (.int .i64 (bestF b L).2) ∧ Below w.heap.size w w') := HH
    have HFX : Hid (fxF b ns 0 = -1) := fx_no fun e => hm (nodes_mem.1 (by rw [hn]; exact e))
    clear HN HH H hown hc hn HB hv HOW hml hcw HCE hownL hm
    go_enter Tryd.func63, Tryd.ntmps63
    go_wp2_with fail
    refine (HFN.out _ hb1).mono ?_
    rintro e w1 ⟨rfl, rfl⟩
    rw [HFX.out]
    go_wp2_with fail
    refine (HH'.out _ hb1).mono ?_
    rintro e w1 ⟨rfl, hb2⟩
    have k0 := (Gb.new w 0 ⟨#[]⟩ 0).below hb2
    obtain ⟨k1, k2, k3, k4, k5, k6, k7⟩ := k0.store ((bestF b L).2 : Nat) ⟨#[]⟩ 0
    obtain ⟨m1, m2, m3⟩ := k7.cells
    have hB : Below w.heap.size w w1 := ((Below.refl _ _).alloc (Nat.le_refl _) _).trans (hb2.mono (by simp))
    go_wp2_with fail
    rw [HT.out]
    refine bodyPost_ret (v := .agg #[.int .i64 ((bestF b L).2 : Nat), .string ⟨#[]⟩, .int .i64 0]) (by simp [results, Tryd.results63, go_sem, m1, m2, m3]) rfl ⟨rfl, ?_⟩
    exact below_three hB (Nat.le_refl _) _ _ _
end
end Go.Proofs.YtdfnmpmmkcpddaaDoor
