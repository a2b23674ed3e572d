import Derived.Test.YtdfnmpmmkcpddaaDoorQ26
import Derived.Deep.RegionWith
/- The walks of the program's Compile: a node's bytes. -/
namespace Go.Proofs.YtdfnmpmmkcpddaaDoor
open Go.RowKit

/-- The runs, as they lie. -/
def Runs (w : World) (B g Z : Nat) (kid : Nat → Tg) (n : Nat) : Prop := w.ownsRow B 5 1 (.slice (some ⟨g, 0, none⟩) Z Z) Z ((runL kid n Z).map fun v => .int .u8 (v : Nat))
theorem Runs.cell {w : World} {B g Z n q : Nat} {kid : Nat → Tg} (h : Runs w B g Z kid n) (hq : q < Z) : w.cell? ⟨g, q, none⟩ = some (.int .u8 (runF kid n q : Nat)) := by
  rw [h.cellAt q (by omega)]; simp [runL, hq]
theorem runs_start {w : World} {B g Z : Nat} (kid : Nat → Tg) (h : w.ownsRow B 5 1 (.slice (some ⟨g, 0, none⟩) Z Z) Z (madeCells #[Value.int .u8 0] Z).toList) : Runs w B g Z kid 0 := by
  unfold Runs
  have e : (madeCells #[Value.int .u8 0] Z).toList = ((runL kid 0 Z).map fun v => Value.int .u8 (v : Nat)) := by
    unfold madeCells runL
    rw [Array.toList_map, Array.toList_range]
    refine List.ext_getElem (by simp) fun i h1 h2 => ?_
    simp [Nat.mod_one, runF]
  rw [← e]; exact h
theorem runL_yes {kid : Nat → Tg} {n : Nat} (Z : Nat) (h : begF kid n) : runL kid (n + 1) Z = (runL kid n Z).set (n / 8) (runF kid n (n / 8) + 2 ^ (n % 8)) := by
  unfold runL
  refine List.ext_getElem (by simp) fun i h1 h2 => ?_
  rw [List.getElem_map, List.getElem_range, List.getElem_set]
  by_cases e : n / 8 = i
  · rw [if_pos e, ← e, run_yes h]
  · rw [if_neg e, run_else (fun k => e k.2.symm)]; simp
theorem runL_no {kid : Nat → Tg} {n : Nat} (Z : Nat) (h : ¬ begF kid n) : runL kid (n + 1) Z = runL kid n Z := by
  unfold runL
  refine List.map_congr_left fun q _ => ?_
  exact run_else fun k => h k.1

section
variable {w0 : World} {L : List Rt} {aoL : Option Addr} {capL g0 capV : Nat} {lv : List Value}

theorem Tryd.infoByte : (Tryd.prog.info? 5).map (fun i => (i.zero, i.size, i.bytes)) = some (some (.int .u8 0), 1, 1) := by kernel_rfl
theorem Tryd.infoTarget : (Tryd.prog.info? 84).map (fun i => (i.zero, i.size, i.bytes)) = some (some (.agg #[.int .i64 0, .string ⟨#[]⟩, .int .i64 0]), 3, 32) := by kernel_rfl

theorem tg_ne {x y : Tg} (h : x ≠ y) : ((x.h : Int) == (y.h : Int)) = false ∨ (x.h = y.h ∧ (x.m.toList == y.m.toList) = false) ∨ (x.h = y.h ∧ x.m = y.m ∧ ((x.d : Int) == (y.d : Int)) = false) := by
  by_cases h1 : x.h = y.h
  · by_cases h2 : x.m = y.m
    · refine .inr (.inr ⟨h1, h2, ?_⟩)
      rw [beq_eq_false_iff_ne]
      intro e
      refine h ?_
      obtain ⟨a, b, c⟩ := x
      obtain ⟨a', b', c'⟩ := y
      simp only [Tg.mk.injEq] at h1 h2 e ⊢
      exact ⟨h1, h2, by omega⟩
    · exact .inr (.inl ⟨h1, ba_ne h2⟩)
  · left; rw [beq_eq_false_iff_ne]; omega
theorem by8 {j q t : Nat} (hq : j / 8 = q) (ht : j % 8 = t) : Int.tdiv (j : Int) 8 = (q : Int) ∧ Int.tmod (j : Int) 8 = (t : Int) ∧ t < 8 ∧ (j : Int) / 8 = (q : Int) ∧ (j : Int) % 8 = (t : Int) := by
  refine ⟨?_, ?_, by omega, by omega, by omega⟩
  · rw [Int.tdiv_eq_ediv_of_nonneg (by omega)]; omega
  · rw [Int.tmod_eq_emod_of_nonneg (by omega)]; omega
theorem or_bit : ∀ t : Fin 8, ∀ a : Fin 256, a.val < 2 ^ t.val → Go.bits BinOp.or IntKind.u8 (a.val : Int) (2 ^ t.val % 256) = ((a.val + 2 ^ t.val : Nat) : Int) := by decide +kernel
theorem run_or {kid : Nat → Tg} {j q t : Nat} (hq : j / 8 = q) (ht : j % 8 = t) (hb : begF kid j) : Go.bits BinOp.or IntKind.u8 (runF kid j q : Int) (2 ^ t % 256) = ((runF kid (j + 1) q : Nat) : Int) := by
  subst hq ht
  have h1 := run_now (kid := kid) j
  have h2 := run_256 (kid := kid) j (j / 8)
  have := or_bit ⟨j % 8, by omega⟩ ⟨runF kid j (j / 8), h2⟩ h1
  rw [run_yes hb]
  exact this
theorem runs_next {w : World} {B g Z j q : Nat} {v : Int} {kid : Nat → Tg} (h : Runs w B g Z kid j) (hb : begF kid j) (hq : j / 8 = q) (hv : v = ((runF kid (j + 1) q : Nat) : Int)) : Runs (w.setCell ⟨g, q, none⟩ (.int .u8 v)) B g Z kid (j + 1) := by
  have := (World.ownsRow.stored h q (.int .u8 v)).1
  unfold Runs
  rw [runL_yes Z hb, List.map_set, ← run_yes hb, hq, ← hv]
  exact this
theorem Gb.kept {w w' : World} {B : Nat} {h d : Int} {m : ByteArray} {row : Option Nat} (k : Gb w B h m d) (hg : w.grownBy w' row) (hne : some B ≠ row) : Gb w' B h m d := (hg.block B k.lt hne).trans k
theorem runs_text {w : World} {B g Z n : Nat} {kid : Nat → Tg} (h : Runs w B g Z kid n) : Sem.run Tryd.prog (convert 107 9 (.slice (some ⟨g, 0, none⟩) Z Z)) w = .ok (.string (runB kid n Z)) w := by
  have hl : ((runL kid n Z).map UInt8.ofNat).length = Z := by simp [runL]
  have := run_convert_bytes_back (P := Tryd.prog) w 107 9 5 ⟨g, 0, none⟩ Z ((runL kid n Z).map UInt8.ofNat) Tryd.underlying107 Tryd.underlying5 Tryd.underlying9 (fun j hj => by
    have hj' : j < Z := by rw [hl] at hj; exact hj
    have h1 := h.cell hj'
    have h2 := run_256 (kid := kid) n j
    have e : (⟨g, 0, none⟩ : Addr).add j = ⟨g, j, none⟩ := by simp [Addr.add]; intro h; exact h.symm
    rw [e, h1]
    simp [runL]
    omega)
  rw [hl] at this
  exact this
theorem tg_few {R : List Rt} (hS : ∀ r ∈ R, r.bits.size ≤ 12) (hH : ∀ r ∈ R, r.hop ≤ 250) (k : Nat) (b : ByteArray) : (tgF R k b).d ≤ k := by
  rw [tg_depth]; exact (fit_depth _ _ _ (tree_fit hS hH (ch_least hS) k b)).2
theorem zed {P Z : Nat} (h : (P + 7) / 8 = Z) (hP : P ≤ 4096) : Int.tdiv ((P : Int) + 7) 8 = (Z : Int) ∧ 8 * Z ≤ P + 7 ∧ P ≤ 8 * Z ∧ Z ≤ 600 ∧ wrap64 ((P : Int) + 7) = (P : Int) + 7 ∧ wrap64 (Z : Int) = (Z : Int) := by
  refine ⟨?_, by omega, by omega, by omega, ?_, ?_⟩
  · rw [Int.tdiv_eq_ediv_of_nonneg (by omega)]; omega
  · unfold wrap64; omega
  · unfold wrap64; omega
theorem mk_bd {Z : Nat} (h : Z ≤ 600) : 1 * Z ≤ 281474976710656 ∧ Z ≤ maxLen := ⟨by omega, by unfold maxLen; omega⟩

set_option maxRecDepth 100000 in
set_option maxHeartbeats 2000000 in
theorem node_any {k : Nat} (H : Fx w0 L aoL capL g0 capV lv) (hk : k < lv.length) (HT : TgC w0 L aoL capL g0 capV k) : NdC w0 L aoL capL g0 capV k := by
  intro b c w hb hm hbel
  obtain ⟨i0, hi, hz0, hz1, hz2⟩ := info_parts Tryd.infoByte
  obtain ⟨i1, hi1, hy0, hy1, hy2⟩ := info_parts Tryd.infoTarget
  have hch := chF_bd (ordR L) (k + 1) hm
  have hh := heightF_le (b := b) H.bits
  have hTk : ∀ j, (tgF (ordR L) k (kidB b (chF (ordR L) (k + 1) b) j)).h ≤ 250 := fun j => tg_hop H.hops _ _
  have hTS := tg_small H.ok H.bits H.hops (k + 1) b
  rw [tgF, if_neg (by omega)] at hTS
  have HTG : Hid (tgF (ordR L) (k + 1) b = mkNode (chF (ordR L) (k + 1) b) fun j => tgF (ordR L) k (kidB b (chF (ordR L) (k + 1) b) j)) := by unfold Hid; rw [tgF, if_neg (by omega)]
  obtain ⟨s, hs⟩ : ∃ s, chF (ordR L) (k + 1) b = s := ⟨_, rfl⟩
  rw [hs] at hch hTk hTS HTG ⊢
  have hsb : s ≤ 12 := by omega
  have hs1 : 1 ≤ s := by omega
  obtain ⟨kid, hkid⟩ : ∃ kid, (fun j => tgF (ordR L) k (kidB b s j)) = kid := ⟨_, rfl⟩
  have hke : ∀ j, tgF (ordR L) k (kidB b s j) = kid j := fun j => by rw [← hkid]
  rw [hkid] at hTS HTG
  have HTC : Hid (∀ (j : Nat) (w : World), Below w0.heap.size w0 w → Calls Tryd.prog 63 #[.slice aoL L.length capL, .slice (some ⟨g0, 0, none⟩) k capV, .string (b ++ addr j s)] w fun e w' => e = .returned (tgV (kid j)) ∧ Below w.heap.size w w') := fun j w hw => by
    have := HT (kidB b s j) w (by rw [kidB_size]; omega) hw
    rw [hke] at this
    exact this
  have HH : Hid (∀ j, (kid j).h ≤ 250) := fun j => by rw [← hke]; exact hTk j
  have HD : Hid (∀ j, (kid j).d ≤ 12) := fun j => by
    rw [← hke]
    have h1 := tg_few H.bits H.hops k (kidB b s j)
    have h2 := H.few
    omega
  rw [mkNode_size] at hTS
  obtain ⟨hv, hhe⟩ : ∃ hv, heightF (ordR L) b = hv := ⟨_, rfl⟩
  rw [hhe] at hch hh ⊢
  rw [HTG.out]
  clear hs hkid hke hTk HT hhe hm HTG H hch hh
  have hpp := pow_st (t := s) hs1 hsb
  obtain ⟨P, hP⟩ : ∃ P : Nat, 2 ^ s = P := ⟨_, rfl⟩
  rw [hP] at hpp hTS
  obtain ⟨Z, hZ⟩ : ∃ Z, (P + 7) / 8 = Z := ⟨_, rfl⟩
  rw [hZ] at hTS
  obtain ⟨hZi, hZb, hZ2, hZl, hw7, hwZ⟩ := zed hZ hpp.2.1
  have HP1 : Hid (P ≤ 4096 ∧ 2 ≤ P) := hpp.2
  have hpw := hpp.1
  have HPP : Hid (2 ^ s = P) := hP
  have HZZ : Hid ((P + 7) / 8 = Z) := hZ
  have HTS : Hid (1 + Z + (layF (tsF kid P)).size ≤ 20480) := hTS
  have HZB : Hid (8 * Z ≤ P + 7 ∧ P ≤ 8 * Z ∧ Z ≤ 600) := ⟨hZb, hZ2, hZl⟩
  clear hP hZ hTS hZb hZ2 hZl hpp
  go_enter Tryd.func90, Tryd.ntmps90
  obtain ⟨wB, HWB, HTb, HGb, HBw, HzB⟩ : ∃ wB, Hid ((w.alloc (.cells #[.string b, .int .i64 hv, .int .i64 s, .int .i64 c] 76)).alloc (.cells #[.int .i64 0, .string ⟨#[]⟩, .int .i64 0] 84) = wB) ∧ Hid (Tb wB w.heap.size b hv s c) ∧ Hid (Gb wB (w.heap.size + 1) 0 ⟨#[]⟩ 0) ∧ Hid (Below w.heap.size w wB) ∧ Hid (wB.heap.size = w.heap.size + 2) := by
    refine ⟨_, rfl, (Tb.new w b hv s c).below ((Below.refl _ _).alloc (Nat.le_refl _) _), ?_, ((Below.refl _ _).alloc (Nat.le_refl _) _).alloc (by simp) _, by unfold Hid; simp⟩
    have := Gb.new (w.alloc (.cells #[.string b, .int .i64 hv, .int .i64 s, .int .i64 c] 76)) 0 ⟨#[]⟩ 0
    rw [show (w.alloc (.cells #[.string b, .int .i64 hv, .int .i64 s, .int .i64 c] 76)).heap.size = w.heap.size + 1 from by simp] at this
    exact this
  go_wp2_with (at_make; refine wpList_make_full _ rfl (.tmp 21) (.tmp 21) 107 rfl (w.heap.size + 2) 5 i0 (.int .u8 0) 1 Tryd.underlying107 hi hz0 hz1 .i64 .i64 _ _ Z rfl rfl hwZ hwZ (by rw [hz2]; exact (mk_bd HZB.out.2.2).1) (mk_bd HZB.out.2.2).2 (by simp) ?_)
  intro w2 hmk hgr2
  obtain ⟨G, hG⟩ : ∃ G, w.heap.size + 1 + 1 = G := ⟨_, rfl⟩
  rw [hG] at hmk ⊢
  rw [HWB.out] at hgr2
  have hR0 := runs_start kid hmk
  have hB2 : Below wB.heap.size wB w2 := ⟨hgr2.os, hgr2.tape, hgr2.output, hgr2.size, fun k hk => hgr2.block k hk (by simp)⟩
  clear hmk hgr2 hpw hw7 hwZ hZi HWB
  obtain ⟨hP1, hP2⟩ := HP1.out
  go_wp2_with fail
  go_loopg [9, 10, 11] P (fun g x y z wr => ∃ (j dm : Nat) (ts : List Tg), y = .int .i64 dm ∧ z = .int .i64 j ∧ g + j = P ∧ ts.length ≤ j ∧ dm ≤ 12 ∧ wr.ownsRow G 84 3 x ts.length (gc ts) ∧ Runs wr G G Z kid j ∧ Below wB.heap.size wB wr ∧ Hid (ts = tsF kid j) ∧ Hid (dm = maxD kid j))
  case atStart => exact ⟨0, 0, [], rfl, rfl, by omega, Nat.le_refl _, by omega, World.ownsRow_nil _ _ _ _, hR0, hB2, rfl, rfl⟩
  case round =>
    obtain ⟨j, dm, ts, rfl, rfl, hgj, hts, hdm, hrow, hruns, hbr, HTS2, HDM⟩ := hrel
    clear hR0 hB2
    obtain ⟨ao2, cap2, rfl⟩ := own_shape hrow
    have hzB := HzB.out
    have hzr := hbr.size
    have hw0r : Below w0.heap.size w0 wr := (hbel.trans (HBw.out.mono hbel.size)).trans (hbr.mono (by have := hbel.size; omega))
    obtain ⟨c0, c1, c2, c3⟩ := (HTb.out.below hbr).cells
    have hGlt : G < wr.heap.size := (World.ownsRow.lt hruns G rfl).2
    by_cases hlt : j < P
    · have hja : j < 4096 := by omega
      obtain ⟨A, hAe⟩ : ∃ A, addr j s = A := ⟨_, rfl⟩
      have HAB := fun w => addressBits_any j s w hja hsb
      have hAs : A.size ≤ 12 := by rw [← hAe, addr_size]; exact hsb
      have HTj := HTC.out j
      rw [hAe] at HTj
      simp only [hAe] at HAB
      have HAB' : Hid (∀ w : World, Calls Tryd.prog 46 #[.int .i64 j, .int .i64 s] w fun e w' => e = .returned (.string A) ∧ w' = w) := HAB
      have HTj' : Hid (∀ w : World, Below w0.heap.size w0 w → Calls Tryd.prog 63 #[.slice aoL L.length capL, .slice (some ⟨g0, 0, none⟩) k capV, .string (b ++ A)] w fun e w' => e = .returned (tgV (kid j)) ∧ Below w.heap.size w w') := HTj
      have d0 : ({ heap := wr.heap, tape := wr.tape, drawn := wr.drawn + 1, os := wr.os, output := wr.output } : World).cell? ⟨w.heap.size, 0, none⟩ = some (.string b) := c0
      have d2 : ({ heap := wr.heap, tape := wr.tape, drawn := wr.drawn + 1, os := wr.os, output := wr.output } : World).cell? ⟨w.heap.size, 2, none⟩ = some (.int .i64 s) := c2
      have hcat : ¬ 9223372036854775807 < b.size + A.size := by omega
      have hdr : Below wr.heap.size wr wr.drew := below_drewN (Below.refl _ _) 1
      have hdz : wr.drew.heap.size = wr.heap.size := rfl
      clear HAB HTj hAe
      obtain ⟨T, hT⟩ : ∃ T, kid j = T := ⟨_, rfl⟩
      rw [hT] at HTj'
      by_cases hbeg : begF kid j
      · by_cases hj0 : j = 0
        · have hts0 : ts.length = 0 := by omega
          have hn0 : ¬ (0 : Int) < (ts.length : Int) := by omega
          have hn1 : decide ((0 : Int) < (ts.length : Int)) = false := by rw [decide_eq_false_iff_not]; exact hn0
          have hn2 : ¬ 0 < ts.length := by omega
          clear hj0 hts0
          go_wp2_with fail
          refine wp_region_still_lit (by kernel_rfl) (by kernel_rfl) ?_
          repeat still_step
          still_call (HAB'.out _)
          repeat still_step
          refine wpStill_nil ?_
          go_wp2_with fail
          generalize wr.drew = w3 at hdr hdz ⊢
          have hw03 : Below w0.heap.size w0 w3 := hw0r.trans (hdr.mono hw0r.size)
          refine (HTj'.out _ hw03).mono ?_
          rintro e w4 ⟨rfl, hb4⟩
          have hb34 : Below wr.heap.size wr w4 := hdr.trans (hb4.mono (by omega))
          unfold tgV
          go_wp2_with fail
          have hG5 := Gb.new w4 T.h T.m T.d
          have hb5 : Below wr.heap.size wr (w4.alloc (.cells #[.int .i64 T.h, .string T.m, .int .i64 T.d] 84)) := hb34.alloc hb34.size _
          generalize w4.alloc (.cells #[.int .i64 T.h, .string T.m, .int .i64 T.d] 84) = w5 at hG5 hb5 ⊢
          obtain ⟨n0, n1, n2⟩ := hG5.cells
          go_quiet (fail)
          have hb6 := below_drewN hb5 nq
          have hG6 : Gb (w5.drewN nq) w4.heap.size T.h T.m T.d := hG5
          generalize w5.drewN nq = w6 at hb6 hG6 ⊢
          have hr6 : Runs w6 G G Z kid j := own_below hruns hb6
          obtain ⟨q, hq⟩ : ∃ q, j / 8 = q := ⟨_, rfl⟩
          obtain ⟨t, ht⟩ : ∃ t, j % 8 = t := ⟨_, rfl⟩
          have ht8 := (by8 hq ht).2.2.1
          have hqe := (by8 hq ht).2.2.2.1
          have hre := (by8 hq ht).2.2.2.2
          have hqZ : q < Z := by have := HZB.out.2.1; omega
          have hrc := hr6.cell hqZ
          have hrf := hr6.frozenAt q
          have hr7 := runs_next hr6 hbeg hq (run_or hq ht hbeg)
          have hg7 := (World.ownsRow.stored hr6 q (.int .u8 (Go.bits BinOp.or IntKind.u8 (runF kid j q : Int) (2 ^ t % 256)))).2
          have hrow6 := own_below hrow hb6
          have hrow7 := hrow6.kept hg7 (own_ne hrow6 hr6 (by decide))
          have hz4 := hb34.size
          have hG7 := hG6.kept hg7 (by intro e; simp at e; omega)
          have hb7 : Below wB.heap.size wB w6 := hbr.trans (hb6.mono hbr.size)
          have hb8 : Below wB.heap.size wB (w6.setCell ⟨G, q, none⟩ (.int .u8 (Go.bits BinOp.or IntKind.u8 (runF kid j q : Int) (2 ^ t % 256)))) := hb7.setCell (by show wB.heap.size ≤ G; omega) _
          obtain ⟨y0, y1, y2⟩ := hG7.cells
          have HTN : Hid (ts ++ [T] = tsF kid (j + 1)) := by unfold Hid; rw [tsF_yes hbeg, HTS2.out, hT]
          have hTd : T.d ≤ 12 := by rw [← hT]; exact HD.out j
          have HDN : Hid (maxD kid (j + 1) = max dm T.d) := by unfold Hid; rw [HDM.out, ← hT]; rfl
          clear hq ht
          generalize hwS : w6.setCell ⟨G, q, none⟩ (.int .u8 (Go.bits BinOp.or IntKind.u8 (runF kid j q : Int) (2 ^ t % 256))) = w7 at hr7 hg7 hrow7 hG7 hb8 y0 y1 y2
          go_wp2_with (at_builtin; refine wpList_append_own _ rfl (.tmp 63) (.tmp 65) 87 rfl G 84 i1 _ 3 32 Tryd.underlying87 hi1 hy0 hy1 hy2 rfl (by decide) _ _ _ rfl (hrow7.alloc _) ⟨w7.heap.size, 0, none⟩ 1 1 [.int .i64 T.h, .string T.m, .int .i64 T.d] rfl rfl ?c1 ?c2 ?c3 ?c4 ?c5 ?_)
          case c1 =>
            intro j u hj
            match j, hj with
            | 0, hj => simp at hj; subst hj; simp [Addr.add]
            | 1, hj => simp at hj; subst hj; simp [Addr.add]
            | 2, hj => simp at hj; subst hj; simp [Addr.add]
          case c2 => intro u hu; simp at hu; rcases hu with rfl | rfl | rfl <;> rfl
          case c3 => unfold maxLen; omega
          case c4 => omega
          case c5 => have := hb8.size; simp; omega
          intro v' w8 hown8 hgrow _
          have hz7 := hb8.size
          have hlow : ∀ e, Value.ownBlock (.slice ao2 ts.length cap2) = some e → e < wr.heap.size := fun e he => (hrow.lt e he).2
          have hG8 : Gb w8 w4.heap.size T.h T.m T.d := (hG7.below ((Below.refl _ _).alloc (Nat.le_refl _) _)).kept hgrow (by intro e; have := hlow _ e.symm; omega)
          have hr8 : Runs w8 G G Z kid (j + 1) := World.ownsRow.kept (World.ownsRow.alloc hr7 _) hgrow (own_ne hr7 hrow7 (by decide))
          have hb9 : Below wB.heap.size wB w8 := (hb8.alloc hz7 _).grown hgrow (by simp; omega) (fun e he => by have := hrow.lt e he; omega)
          obtain ⟨z0, z1, z2⟩ := hG8.cells
          obtain ⟨ao8, cap8, rfl⟩ := own_shape hown8
          rw [← gc_snoc] at hown8
          clear hwS hrc hrf
          by_cases hdd : dm < T.d
          · have HD2 : Hid (T.d = maxD kid (j + 1)) := by unfold Hid; rw [HDN.out]; omega
            go_wp2_with fail
            go_roundg (gk - 1)
            case measure => omega
            case rel => exact ⟨j + 1, T.d, ts ++ [T], rfl, int_eq (by omega), by omega, by simp; omega, hTd, by rw [List.length_append]; exact hown8, hr8, hb9, HTN.out, HD2.out⟩
          · have HD2 : Hid (dm = maxD kid (j + 1)) := by unfold Hid; rw [HDN.out]; omega
            have hd2 : decide ((dm : Int) < (T.d : Int)) = false := by rw [decide_eq_false_iff_not]; omega
            go_wp2_with fail
            go_roundg (gk - 1)
            case measure => omega
            case rel => exact ⟨j + 1, dm, ts ++ [T], rfl, int_eq (by omega), by omega, by simp; omega, hdm, by rw [List.length_append]; exact hown8, hr8, hb9, HTN.out, HD2.out⟩
        · obtain ⟨i, hji⟩ : ∃ i, j = i + 1 := ⟨j - 1, by omega⟩
          have hlast := ts_last (kid := kid) i
          rw [← hji, ← HTS2.out, List.getLast?_eq_getElem?] at hlast
          have hpos : 0 < ts.length := by
            have := (List.getElem?_eq_some_iff.1 hlast).1; omega
          obtain ⟨hl1, hl2⟩ := List.getElem?_eq_some_iff.1 hlast
          obtain ⟨g, rfl, hg1, hg2, hg3, hg4⟩ := own_some hrow hpos
          unfold maxLen at hg4
          obtain ⟨T', hT'⟩ : ∃ T', kid i = T' := ⟨_, rfl⟩
          rw [hT'] at hl2
          have hne : T' ≠ T := by rw [← hT', ← hT]; rw [hji] at hbeg ⊢; exact hbeg
          clear hji hlast hj0
          have hsub : (ts.length : Int) - 1 = ((ts.length - 1 : Nat) : Int) := by omega
          go_wp2_with fail
          refine wp_region_still_lit (by kernel_rfl) (by kernel_rfl) ?_
          repeat still_step
          still_call (HAB'.out _)
          repeat still_step
          refine wpStill_nil ?_
          go_wp2_with fail
          generalize wr.drew = w3 at hdr hdz ⊢
          have hw03 : Below w0.heap.size w0 w3 := hw0r.trans (hdr.mono hw0r.size)
          refine (HTj'.out _ hw03).mono ?_
          rintro e w4 ⟨rfl, hb4⟩
          have hb34 : Below wr.heap.size wr w4 := hdr.trans (hb4.mono (by omega))
          unfold tgV
          go_wp2_with fail
          have hG5 := Gb.new w4 T.h T.m T.d
          have hb5 : Below wr.heap.size wr (w4.alloc (.cells #[.int .i64 T.h, .string T.m, .int .i64 T.d] 84)) := hb34.alloc hb34.size _
          generalize w4.alloc (.cells #[.int .i64 T.h, .string T.m, .int .i64 T.d] 84) = w5 at hG5 hb5 ⊢
          obtain ⟨n0, n1, n2⟩ := hG5.cells
          obtain ⟨t0, t1, t2⟩ := targ_cells hrow hg2 hb5 hl1
          rw [hl2] at t0 t1 t2
          have hLL : ts.length - 1 < ts.length := by omega
          have hwl : IntKind.i64.wrap ((ts.length - 1 : Nat) : Int) = ((ts.length - 1 : Nat) : Int) := by rw [IntKind.wrap_i64]; omega
          have hil : ((ts.length - 1 : Nat) : Int) < (ts.length : Int) := by omega
          have hcase := tg_ne hne
          rcases hcase with h1 | ⟨h0, h1⟩ | ⟨h0, h00, h1⟩
          · go_quiet (fail)
            have hb6 := below_drewN hb5 nq
            have hG6 : Gb (w5.drewN nq) w4.heap.size T.h T.m T.d := hG5
            generalize w5.drewN nq = w6 at hb6 hG6 ⊢
            have hr6 : Runs w6 G G Z kid j := own_below hruns hb6
            obtain ⟨q, hq⟩ : ∃ q, j / 8 = q := ⟨_, rfl⟩
            obtain ⟨t, ht⟩ : ∃ t, j % 8 = t := ⟨_, rfl⟩
            have ht8 := (by8 hq ht).2.2.1
            have hqe := (by8 hq ht).2.2.2.1
            have hre := (by8 hq ht).2.2.2.2
            have hqZ : q < Z := by have := HZB.out.2.1; omega
            have hrc := hr6.cell hqZ
            have hrf := hr6.frozenAt q
            have hr7 := runs_next hr6 hbeg hq (run_or hq ht hbeg)
            have hg7 := (World.ownsRow.stored hr6 q (.int .u8 (Go.bits BinOp.or IntKind.u8 (runF kid j q : Int) (2 ^ t % 256)))).2
            have hrow6 := own_below hrow hb6
            have hrow7 := hrow6.kept hg7 (own_ne hrow6 hr6 (by decide))
            have hz4 := hb34.size
            have hG7 := hG6.kept hg7 (by intro e; simp at e; omega)
            have hb7 : Below wB.heap.size wB w6 := hbr.trans (hb6.mono hbr.size)
            have hb8 : Below wB.heap.size wB (w6.setCell ⟨G, q, none⟩ (.int .u8 (Go.bits BinOp.or IntKind.u8 (runF kid j q : Int) (2 ^ t % 256)))) := hb7.setCell (by show wB.heap.size ≤ G; omega) _
            obtain ⟨y0, y1, y2⟩ := hG7.cells
            have HTN : Hid (ts ++ [T] = tsF kid (j + 1)) := by unfold Hid; rw [tsF_yes hbeg, HTS2.out, hT]
            have hTd : T.d ≤ 12 := by rw [← hT]; exact HD.out j
            have HDN : Hid (maxD kid (j + 1) = max dm T.d) := by unfold Hid; rw [HDM.out, ← hT]; rfl
            clear hq ht
            generalize hwS : w6.setCell ⟨G, q, none⟩ (.int .u8 (Go.bits BinOp.or IntKind.u8 (runF kid j q : Int) (2 ^ t % 256))) = w7 at hr7 hg7 hrow7 hG7 hb8 y0 y1 y2
            go_wp2_with (at_builtin; refine wpList_append_own _ rfl (.tmp 63) (.tmp 65) 87 rfl G 84 i1 _ 3 32 Tryd.underlying87 hi1 hy0 hy1 hy2 rfl (by decide) _ _ _ rfl (hrow7.alloc _) ⟨w7.heap.size, 0, none⟩ 1 1 [.int .i64 T.h, .string T.m, .int .i64 T.d] rfl rfl ?c1 ?c2 ?c3 ?c4 ?c5 ?_)
            case c1 =>
              intro j u hj
              match j, hj with
              | 0, hj => simp at hj; subst hj; simp [Addr.add]
              | 1, hj => simp at hj; subst hj; simp [Addr.add]
              | 2, hj => simp at hj; subst hj; simp [Addr.add]
            case c2 => intro u hu; simp at hu; rcases hu with rfl | rfl | rfl <;> rfl
            case c3 => unfold maxLen; omega
            case c4 => omega
            case c5 => have := hb8.size; simp; omega
            intro v' w8 hown8 hgrow _
            have hz7 := hb8.size
            have hlow : ∀ e, Value.ownBlock (.slice (some ⟨g, 0, none⟩) ts.length cap2) = some e → e < wr.heap.size := fun e he => (hrow.lt e he).2
            have hG8 : Gb w8 w4.heap.size T.h T.m T.d := (hG7.below ((Below.refl _ _).alloc (Nat.le_refl _) _)).kept hgrow (by intro e; have := hlow _ e.symm; omega)
            have hr8 : Runs w8 G G Z kid (j + 1) := World.ownsRow.kept (World.ownsRow.alloc hr7 _) hgrow (own_ne hr7 hrow7 (by decide))
            have hb9 : Below wB.heap.size wB w8 := (hb8.alloc hz7 _).grown hgrow (by simp; omega) (fun e he => by have := hrow.lt e he; omega)
            obtain ⟨z0, z1, z2⟩ := hG8.cells
            obtain ⟨ao8, cap8, rfl⟩ := own_shape hown8
            rw [← gc_snoc] at hown8
            clear hwS hrc hrf
            by_cases hdd : dm < T.d
            · have HD2 : Hid (T.d = maxD kid (j + 1)) := by unfold Hid; rw [HDN.out]; omega
              go_wp2_with fail
              go_roundg (gk - 1)
              case measure => omega
              case rel => exact ⟨j + 1, T.d, ts ++ [T], rfl, int_eq (by omega), by omega, by simp; omega, hTd, by rw [List.length_append]; exact hown8, hr8, hb9, HTN.out, HD2.out⟩
            · have HD2 : Hid (dm = maxD kid (j + 1)) := by unfold Hid; rw [HDN.out]; omega
              have hd2 : decide ((dm : Int) < (T.d : Int)) = false := by rw [decide_eq_false_iff_not]; omega
              go_wp2_with fail
              go_roundg (gk - 1)
              case measure => omega
              case rel => exact ⟨j + 1, dm, ts ++ [T], rfl, int_eq (by omega), by omega, by simp; omega, hdm, by rw [List.length_append]; exact hown8, hr8, hb9, HTN.out, HD2.out⟩
          · rw [h0] at t0
            go_quiet (fail)
            have hb6 := below_drewN hb5 nq
            have hG6 : Gb (w5.drewN nq) w4.heap.size T.h T.m T.d := hG5
            generalize w5.drewN nq = w6 at hb6 hG6 ⊢
            have hr6 : Runs w6 G G Z kid j := own_below hruns hb6
            obtain ⟨q, hq⟩ : ∃ q, j / 8 = q := ⟨_, rfl⟩
            obtain ⟨t, ht⟩ : ∃ t, j % 8 = t := ⟨_, rfl⟩
            have ht8 := (by8 hq ht).2.2.1
            have hqe := (by8 hq ht).2.2.2.1
            have hre := (by8 hq ht).2.2.2.2
            have hqZ : q < Z := by have := HZB.out.2.1; omega
            have hrc := hr6.cell hqZ
            have hrf := hr6.frozenAt q
            have hr7 := runs_next hr6 hbeg hq (run_or hq ht hbeg)
            have hg7 := (World.ownsRow.stored hr6 q (.int .u8 (Go.bits BinOp.or IntKind.u8 (runF kid j q : Int) (2 ^ t % 256)))).2
            have hrow6 := own_below hrow hb6
            have hrow7 := hrow6.kept hg7 (own_ne hrow6 hr6 (by decide))
            have hz4 := hb34.size
            have hG7 := hG6.kept hg7 (by intro e; simp at e; omega)
            have hb7 : Below wB.heap.size wB w6 := hbr.trans (hb6.mono hbr.size)
            have hb8 : Below wB.heap.size wB (w6.setCell ⟨G, q, none⟩ (.int .u8 (Go.bits BinOp.or IntKind.u8 (runF kid j q : Int) (2 ^ t % 256)))) := hb7.setCell (by show wB.heap.size ≤ G; omega) _
            obtain ⟨y0, y1, y2⟩ := hG7.cells
            have HTN : Hid (ts ++ [T] = tsF kid (j + 1)) := by unfold Hid; rw [tsF_yes hbeg, HTS2.out, hT]
            have hTd : T.d ≤ 12 := by rw [← hT]; exact HD.out j
            have HDN : Hid (maxD kid (j + 1) = max dm T.d) := by unfold Hid; rw [HDM.out, ← hT]; rfl
            clear hq ht
            generalize hwS : w6.setCell ⟨G, q, none⟩ (.int .u8 (Go.bits BinOp.or IntKind.u8 (runF kid j q : Int) (2 ^ t % 256))) = w7 at hr7 hg7 hrow7 hG7 hb8 y0 y1 y2
            go_wp2_with (at_builtin; refine wpList_append_own _ rfl (.tmp 63) (.tmp 65) 87 rfl G 84 i1 _ 3 32 Tryd.underlying87 hi1 hy0 hy1 hy2 rfl (by decide) _ _ _ rfl (hrow7.alloc _) ⟨w7.heap.size, 0, none⟩ 1 1 [.int .i64 T.h, .string T.m, .int .i64 T.d] rfl rfl ?c1 ?c2 ?c3 ?c4 ?c5 ?_)
            case c1 =>
              intro j u hj
              match j, hj with
              | 0, hj => simp at hj; subst hj; simp [Addr.add]
              | 1, hj => simp at hj; subst hj; simp [Addr.add]
              | 2, hj => simp at hj; subst hj; simp [Addr.add]
            case c2 => intro u hu; simp at hu; rcases hu with rfl | rfl | rfl <;> rfl
            case c3 => unfold maxLen; omega
            case c4 => omega
            case c5 => have := hb8.size; simp; omega
            intro v' w8 hown8 hgrow _
            have hz7 := hb8.size
            have hlow : ∀ e, Value.ownBlock (.slice (some ⟨g, 0, none⟩) ts.length cap2) = some e → e < wr.heap.size := fun e he => (hrow.lt e he).2
            have hG8 : Gb w8 w4.heap.size T.h T.m T.d := (hG7.below ((Below.refl _ _).alloc (Nat.le_refl _) _)).kept hgrow (by intro e; have := hlow _ e.symm; omega)
            have hr8 : Runs w8 G G Z kid (j + 1) := World.ownsRow.kept (World.ownsRow.alloc hr7 _) hgrow (own_ne hr7 hrow7 (by decide))
            have hb9 : Below wB.heap.size wB w8 := (hb8.alloc hz7 _).grown hgrow (by simp; omega) (fun e he => by have := hrow.lt e he; omega)
            obtain ⟨z0, z1, z2⟩ := hG8.cells
            obtain ⟨ao8, cap8, rfl⟩ := own_shape hown8
            rw [← gc_snoc] at hown8
            clear hwS hrc hrf
            by_cases hdd : dm < T.d
            · have HD2 : Hid (T.d = maxD kid (j + 1)) := by unfold Hid; rw [HDN.out]; omega
              go_wp2_with fail
              go_roundg (gk - 1)
              case measure => omega
              case rel => exact ⟨j + 1, T.d, ts ++ [T], rfl, int_eq (by omega), by omega, by simp; omega, hTd, by rw [List.length_append]; exact hown8, hr8, hb9, HTN.out, HD2.out⟩
            · have HD2 : Hid (dm = maxD kid (j + 1)) := by unfold Hid; rw [HDN.out]; omega
              have hd2 : decide ((dm : Int) < (T.d : Int)) = false := by rw [decide_eq_false_iff_not]; omega
              go_wp2_with fail
              go_roundg (gk - 1)
              case measure => omega
              case rel => exact ⟨j + 1, dm, ts ++ [T], rfl, int_eq (by omega), by omega, by simp; omega, hdm, by rw [List.length_append]; exact hown8, hr8, hb9, HTN.out, HD2.out⟩
          · rw [h0] at t0
            rw [h00] at t1
            go_quiet (fail)
            have hb6 := below_drewN hb5 nq
            have hG6 : Gb (w5.drewN nq) w4.heap.size T.h T.m T.d := hG5
            generalize w5.drewN nq = w6 at hb6 hG6 ⊢
            have hr6 : Runs w6 G G Z kid j := own_below hruns hb6
            obtain ⟨q, hq⟩ : ∃ q, j / 8 = q := ⟨_, rfl⟩
            obtain ⟨t, ht⟩ : ∃ t, j % 8 = t := ⟨_, rfl⟩
            have ht8 := (by8 hq ht).2.2.1
            have hqe := (by8 hq ht).2.2.2.1
            have hre := (by8 hq ht).2.2.2.2
            have hqZ : q < Z := by have := HZB.out.2.1; omega
            have hrc := hr6.cell hqZ
            have hrf := hr6.frozenAt q
            have hr7 := runs_next hr6 hbeg hq (run_or hq ht hbeg)
            have hg7 := (World.ownsRow.stored hr6 q (.int .u8 (Go.bits BinOp.or IntKind.u8 (runF kid j q : Int) (2 ^ t % 256)))).2
            have hrow6 := own_below hrow hb6
            have hrow7 := hrow6.kept hg7 (own_ne hrow6 hr6 (by decide))
            have hz4 := hb34.size
            have hG7 := hG6.kept hg7 (by intro e; simp at e; omega)
            have hb7 : Below wB.heap.size wB w6 := hbr.trans (hb6.mono hbr.size)
            have hb8 : Below wB.heap.size wB (w6.setCell ⟨G, q, none⟩ (.int .u8 (Go.bits BinOp.or IntKind.u8 (runF kid j q : Int) (2 ^ t % 256)))) := hb7.setCell (by show wB.heap.size ≤ G; omega) _
            obtain ⟨y0, y1, y2⟩ := hG7.cells
            have HTN : Hid (ts ++ [T] = tsF kid (j + 1)) := by unfold Hid; rw [tsF_yes hbeg, HTS2.out, hT]
            have hTd : T.d ≤ 12 := by rw [← hT]; exact HD.out j
            have HDN : Hid (maxD kid (j + 1) = max dm T.d) := by unfold Hid; rw [HDM.out, ← hT]; rfl
            clear hq ht
            generalize hwS : w6.setCell ⟨G, q, none⟩ (.int .u8 (Go.bits BinOp.or IntKind.u8 (runF kid j q : Int) (2 ^ t % 256))) = w7 at hr7 hg7 hrow7 hG7 hb8 y0 y1 y2
            go_wp2_with (at_builtin; refine wpList_append_own _ rfl (.tmp 63) (.tmp 65) 87 rfl G 84 i1 _ 3 32 Tryd.underlying87 hi1 hy0 hy1 hy2 rfl (by decide) _ _ _ rfl (hrow7.alloc _) ⟨w7.heap.size, 0, none⟩ 1 1 [.int .i64 T.h, .string T.m, .int .i64 T.d] rfl rfl ?c1 ?c2 ?c3 ?c4 ?c5 ?_)
            case c1 =>
              intro j u hj
              match j, hj with
              | 0, hj => simp at hj; subst hj; simp [Addr.add]
              | 1, hj => simp at hj; subst hj; simp [Addr.add]
              | 2, hj => simp at hj; subst hj; simp [Addr.add]
            case c2 => intro u hu; simp at hu; rcases hu with rfl | rfl | rfl <;> rfl
            case c3 => unfold maxLen; omega
            case c4 => omega
            case c5 => have := hb8.size; simp; omega
            intro v' w8 hown8 hgrow _
            have hz7 := hb8.size
            have hlow : ∀ e, Value.ownBlock (.slice (some ⟨g, 0, none⟩) ts.length cap2) = some e → e < wr.heap.size := fun e he => (hrow.lt e he).2
            have hG8 : Gb w8 w4.heap.size T.h T.m T.d := (hG7.below ((Below.refl _ _).alloc (Nat.le_refl _) _)).kept hgrow (by intro e; have := hlow _ e.symm; omega)
            have hr8 : Runs w8 G G Z kid (j + 1) := World.ownsRow.kept (World.ownsRow.alloc hr7 _) hgrow (own_ne hr7 hrow7 (by decide))
            have hb9 : Below wB.heap.size wB w8 := (hb8.alloc hz7 _).grown hgrow (by simp; omega) (fun e he => by have := hrow.lt e he; omega)
            obtain ⟨z0, z1, z2⟩ := hG8.cells
            obtain ⟨ao8, cap8, rfl⟩ := own_shape hown8
            rw [← gc_snoc] at hown8
            clear hwS hrc hrf
            by_cases hdd : dm < T.d
            · have HD2 : Hid (T.d = maxD kid (j + 1)) := by unfold Hid; rw [HDN.out]; omega
              go_wp2_with fail
              go_roundg (gk - 1)
              case measure => omega
              case rel => exact ⟨j + 1, T.d, ts ++ [T], rfl, int_eq (by omega), by omega, by simp; omega, hTd, by rw [List.length_append]; exact hown8, hr8, hb9, HTN.out, HD2.out⟩
            · have HD2 : Hid (dm = maxD kid (j + 1)) := by unfold Hid; rw [HDN.out]; omega
              have hd2 : decide ((dm : Int) < (T.d : Int)) = false := by rw [decide_eq_false_iff_not]; omega
              go_wp2_with fail
              go_roundg (gk - 1)
              case measure => omega
              case rel => exact ⟨j + 1, dm, ts ++ [T], rfl, int_eq (by omega), by omega, by simp; omega, hdm, by rw [List.length_append]; exact hown8, hr8, hb9, HTN.out, HD2.out⟩
      · obtain ⟨i, rfl⟩ : ∃ i, j = i + 1 := ⟨j - 1, by
          by_cases h0 : j = 0
          · subst h0; exact absurd trivial hbeg
          · omega⟩
        have hke : kid i = T := by rw [← hT]; exact Classical.byContradiction hbeg
        have hlast := ts_last (kid := kid) i
        rw [← HTS2.out, hke, List.getLast?_eq_getElem?] at hlast
        have hpos : 0 < ts.length := by
          have := (List.getElem?_eq_some_iff.1 hlast).1; omega
        obtain ⟨hl1, hl2⟩ := List.getElem?_eq_some_iff.1 hlast
        obtain ⟨g, rfl, hg1, hg2, hg3, hg4⟩ := own_some hrow hpos
        unfold maxLen at hg4
        have hsub : (ts.length : Int) - 1 = ((ts.length - 1 : Nat) : Int) := by omega
        have HTN : Hid (ts = tsF kid (i + 1 + 1)) := by unfold Hid; rw [tsF_no hbeg, HTS2.out]
        have HDN : Hid (dm = maxD kid (i + 1 + 1)) := by
          unfold Hid
          have h1 := HDM.out
          have h2 := maxN_ge (g := fun j => (kid j).d) (n := i + 1) (j := i) (by omega)
          have h3 : maxD kid (i + 1 + 1) = max (maxD kid (i + 1)) (kid (i + 1)).d := rfl
          simp only [hke] at h2
          rw [hT] at h3
          have h4 : maxD kid (i + 1) = maxN (fun j => (kid j).d) (i + 1) := rfl
          omega
        have hrunN : Runs wr G G Z kid (i + 1 + 1) := by unfold Runs; rw [runL_no Z hbeg]; exact hruns
        go_wp2_with fail
        refine wp_region_still_lit (by kernel_rfl) (by kernel_rfl) ?_
        repeat still_step
        still_call (HAB'.out _)
        repeat still_step
        refine wpStill_nil ?_
        go_wp2_with fail
        generalize wr.drew = w3 at hdr hdz ⊢
        have hw03 : Below w0.heap.size w0 w3 := hw0r.trans (hdr.mono hw0r.size)
        refine (HTj'.out _ hw03).mono ?_
        rintro e w4 ⟨rfl, hb4⟩
        have hb34 : Below wr.heap.size wr w4 := hdr.trans (hb4.mono (by omega))
        unfold tgV
        go_wp2_with fail
        have hG5 := Gb.new w4 T.h T.m T.d
        have hb5 : Below wr.heap.size wr (w4.alloc (.cells #[.int .i64 T.h, .string T.m, .int .i64 T.d] 84)) := hb34.alloc hb34.size _
        generalize w4.alloc (.cells #[.int .i64 T.h, .string T.m, .int .i64 T.d] 84) = w5 at hG5 hb5 ⊢
        obtain ⟨n0, n1, n2⟩ := hG5.cells
        obtain ⟨t0, t1, t2⟩ := targ_cells hrow hg2 hb5 hl1
        rw [hl2] at t0 t1 t2
        have hLL : ts.length - 1 < ts.length := by omega
        go_quiet (fail)
        have hb6 := below_drewN hb5 nq
        generalize w5.drewN nq = w6 at hb6 ⊢
        go_wp2_with fail
        go_roundg (gk - 1)
        case measure => omega
        case rel => exact ⟨i + 1 + 1, dm, ts, rfl, int_eq (by omega), by omega, by omega, hdm, own_below hrow hb6, own_below hrunN hb6, hbr.trans (hb6.mono hbr.size), HTN.out, HDN.out⟩
    · have hjP : j = P := by omega
      rw [hjP] at HTS2 HDM hruns
      clear hgj hjP hw0r
      have hLb : (layF ts).size ≤ 20480 := by rw [HTS2.out]; have := HTS.out; omega
      have hLh : ∀ x ∈ ts, x.h ≤ 250 := fun x hx => by
        rw [HTS2.out] at hx
        obtain ⟨i, _, rfl⟩ := ts_mem hx
        exact HH.out i
      have HLAY := layTargets_any ts ao2 cap2 G wr (by omega) hLh hrow
      obtain ⟨Y, hY⟩ : ∃ Y, layF ts = Y := ⟨_, rfl⟩
      rw [hY] at HLAY hLb
      have HL2 : Hid (Calls Tryd.prog 64 #[.slice ao2 ts.length cap2] wr fun e w' => e = .returned (.string Y) ∧ Below wr.heap.size wr w') := HLAY
      have HY : Hid (layF (tsF kid P) = Y) := by unfold Hid; rw [← hY, HTS2.out]
      clear HLAY hLh hY
      go_wp2_with fail
      refine HL2.out.mono ?_
      rintro e w3 ⟨rfl, hb3⟩
      have hb3B : Below wB.heap.size wB w3 := hbr.trans (hb3.mono hzr)
      have hr3 : Runs w3 G G Z kid P := own_below hruns hb3
      obtain ⟨c0, c1, c2, c3⟩ := (HTb.out.below hb3B).cells
      have hG3 := HGb.out.below hb3B
      obtain ⟨X, hX⟩ : ∃ X, runB kid P Z = X := ⟨_, rfl⟩
      have hXs : X.size = Z := by rw [← hX, runB_size]
      have HCV : Hid (∀ wx : World, Runs wx G G Z kid P → Sem.run Tryd.prog (convert 107 9 (.slice (some ⟨G, 0, none⟩) Z Z)) wx = .ok (.string X) wx) := fun wx hx => by rw [← hX]; exact runs_text hx
      have HX : Hid (runB kid P Z = X) := hX
      have hZl := HZB.out.2.2
      have ho1 := o1_size s
      have hs256 : s < 256 := by omega
      have hcv3 := HCV.out w3.drew hr3
      have e2 : w3.drew.cell? ⟨w.heap.size, 2, none⟩ = some (.int .i64 s) := c2
      have HMK : Hid (tgV (mkNode s kid) = .agg #[.int .i64 0, .string (o1 s ++ X ++ Y), .int .i64 ((dm : Int) + 1)]) := by
        unfold Hid tgV mkNode
        simp only [HPP.out, HZZ.out, HY.out, HX.out, ← HDM.out]
        rfl
      clear hX
      go_wp2_with fail
      go_region_with (go_at_call 65; refine (byteText_any s _ hs256).mono ?_; rintro e w4 ⟨rfl, hb4⟩; have hb4' : Below w3.heap.size w3 w4 := (below_drewN (Below.refl w3.heap.size w3) 1).trans hb4; have hcv4 := HCV.out w4 (own_below hr3 hb4'); have hG4 := hG3.below hb4'; obtain ⟨k1, k2, k3, k4, k5, k6, k7⟩ := hG4.store 0 (o1 s ++ X ++ Y) ((dm : Int) + 1); obtain ⟨m1, m2, m3⟩ := k7.cells)
      all_goals
        have hBw4 : Below w.heap.size w w4 := (HBw.out.trans (hb3B.mono (by omega))).trans (hb4'.mono (by have := hb3B.size; omega))
        go_wp2_with fail
        rw [HMK.out]
        refine bodyPost_ret (v := .agg #[.int .i64 0, .string (o1 s ++ X ++ Y), .int .i64 ((dm : Int) + 1)]) (by simp [results, Tryd.results90, go_sem, m1, m2, m3]) rfl ⟨rfl, ?_⟩
        exact below_three hBw4 (by omega) _ _ _
end
end Go.Proofs.YtdfnmpmmkcpddaaDoor
