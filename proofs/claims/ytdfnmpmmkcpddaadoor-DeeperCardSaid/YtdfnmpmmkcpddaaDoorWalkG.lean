/- The walk of the document's reader: read. -/
import Derived.Test.YtdfnmpmmkcpddaaDoorWalkF
namespace Go.Proofs.YtdfnmpmmkcpddaaDoor
open Go.RowKit

/-- 'eat' on the place and the mark. -/
def eatF (s : ByteArray) (c : Nat) (x : Nat × Bool) : Nat × Bool := if x.2 = true then x else if byt s x.1 = c then (x.1 + 1, false) else (x.1, true)
/-- 'hop' on the place and the mark. -/
def hopF (s : ByteArray) (x : Nat × Bool) : Nat × Nat × Bool := if x.2 = true then (0, x) else ((hopGo s 3 0 x.1).1, (hopGo s 3 0 x.1).2, decide ((hopGo s 3 0 x.1).1 = 0))

theorem eatF_le {s : ByteArray} {c : Nat} {x : Nat × Bool} (hc : c < 256) (h : x.1 ≤ s.size) : (eatF s c x).1 ≤ s.size := by
  unfold eatF; split
  · exact h
  · split
    · have := byt_lt_size (s := s) (k := x.1) (by omega); simp only []; omega
    · exact h
theorem hopF_le {s : ByteArray} {x : Nat × Bool} (h : x.1 ≤ s.size) : (hopF s x).2.1 ≤ s.size := by
  unfold hopF; split
  · exact h
  · exact (hopGo_end s 3 0 x.1 h).1

theorem eat_any (s : ByteArray) (B W c : Nat) (x : Nat × Bool) (v : Value) (w : World) (hs : s.size ≤ 400) (hc : c < 256) (hr : Rd w B s W x.1 v x.2) :
    Calls Tryd.prog 92 #[.pointer (some ⟨B, 0, none⟩), .int .u8 c] w fun e w' => e = .returned (.tuple #[]) ∧ Rd w' B s W (eatF s c x).1 v (eatF s c x).2 ∧ w.grownBy w' (some B) := by
  obtain ⟨p, b⟩ := x
  unfold eatF
  cases b with
  | true => simp only [if_true]; exact eat_bad s B W p c v w hr
  | false =>
    simp only [Bool.false_eq_true, if_false]
    by_cases h : byt s p = c
    · rw [if_pos h]; exact eat_yes s B W p c v w hs hr (by omega) (by omega) (by omega)
    · rw [if_neg h]; exact eat_no s B W p c v w hr (by omega) (by omega) (by omega)
theorem eat_32 (s : ByteArray) (B W : Nat) (x : Nat × Bool) (v : Value) (w : World) (hs : s.size ≤ 400) (hr : Rd w B s W x.1 v x.2) :
    Calls Tryd.prog 92 #[.pointer (some ⟨B, 0, none⟩), .int .u8 32] w fun e w' => e = .returned (.tuple #[]) ∧ Rd w' B s W (eatF s 32 x).1 v (eatF s 32 x).2 ∧ w.grownBy w' (some B) := eat_any s B W 32 x v w hs (by omega) hr
theorem eat_10 (s : ByteArray) (B W : Nat) (x : Nat × Bool) (v : Value) (w : World) (hs : s.size ≤ 400) (hr : Rd w B s W x.1 v x.2) :
    Calls Tryd.prog 92 #[.pointer (some ⟨B, 0, none⟩), .int .u8 10] w fun e w' => e = .returned (.tuple #[]) ∧ Rd w' B s W (eatF s 10 x).1 v (eatF s 10 x).2 ∧ w.grownBy w' (some B) := eat_any s B W 10 x v w hs (by omega) hr
theorem rhop_all (s : ByteArray) (B W : Nat) (x : Nat × Bool) (v : Value) (w : World) (hs : s.size ≤ 400) (hr : Rd w B s W x.1 v x.2) :
    Calls Tryd.prog 93 #[.pointer (some ⟨B, 0, none⟩)] w fun e w' => e = .returned (.int .i64 (hopF s x).1) ∧ Rd w' B s W (hopF s x).2.1 v (hopF s x).2.2 ∧ w.grownBy w' (some B) := by
  obtain ⟨p, b⟩ := x
  unfold hopF
  cases b with
  | true => simp only [if_true]; exact rhop_bad s B W p v w hr
  | false => simp only [Bool.false_eq_true, if_false]; exact rhop_any s B W p v w hs hr

/-- What a line's four calls leave: the hop, the place, the mark. -/
def lineF (s : ByteArray) (W p : Nat) : Nat × Bool := eatF s 10 (hopF s (eatF s 32 (bEnd s W p, decide (bEnd s W p = p)))).2
def lineH (s : ByteArray) (W p : Nat) : Nat := (hopF s (eatF s 32 (bEnd s W p, decide (bEnd s W p = p)))).1

theorem lineF_bad {s : ByteArray} {W p : Nat} (h : lBad s W p = true) : lineF s W p = (lAt s W p, true) := by
  simp only [lBad, decide_eq_true_eq] at h
  unfold lineF lAt
  by_cases h1 : bEnd s W p = p
  · rw [if_pos (.inl h1)]; simp [eatF, hopF, h1]
  by_cases h2 : byt s (bEnd s W p) = 32
  · rw [if_neg (by omega)]
    by_cases h3 : (hopGo s 3 0 (bEnd s W p + 1)).1 = 0
    · simp [eatF, hopF, h1, h2, h3]
    · have h4 : byt s (hopGo s 3 0 (bEnd s W p + 1)).2 ≠ 10 := by omega
      simp [eatF, hopF, h1, h2, h3, h4]
  · rw [if_pos (.inr h2)]; simp [eatF, hopF, h1, h2]
theorem lineF_good {s : ByteArray} {W p : Nat} (h : lBad s W p = false) : lineF s W p = (lAt s W p + 1, false) ∧ lineH s W p = (lRt s W p).hop := by
  simp only [lBad, decide_eq_false_iff_not] at h
  have h1 : ¬ bEnd s W p = p := by omega
  have h2 : byt s (bEnd s W p) = 32 := by omega
  have h3 : ¬ (hopGo s 3 0 (bEnd s W p + 1)).1 = 0 := by omega
  have h4 : byt s (hopGo s 3 0 (bEnd s W p + 1)).2 = 10 := by omega
  unfold lineF lineH lAt lRt
  rw [if_neg (by omega)]
  simp [eatF, hopF, h1, h2, h3, h4]

/-- The routes, each once: the last one counts. -/
def dedup (l : List Rt) : List Rt := l.foldl (fun a r => putR a r.bits r.hop) []
theorem dedup_snoc (l : List Rt) (r : Rt) : dedup (l ++ [r]) = putR (dedup l) r.bits r.hop := by simp [dedup]
theorem putR_length (l : List Rt) (b : ByteArray) (h : Nat) : (putR l b h).length ≤ l.length + 1 := by
  induction l with
  | nil => simp [putR]
  | cons r l ih => unfold putR; split <;> simp; omega

theorem own_base {w : World} {base base' : Nat} {e : TypeId} {size : Nat} {v : Value} {n : Nat} {xs : List Value} (h : w.ownsRow base e size v n xs) (hb : base' ≤ base) : w.ownsRow base' e size v n xs := by
  refine ⟨h.1, ?_⟩
  rcases h.2 with hn | ⟨g, cap, cur, h1, h2, h3⟩
  · exact .inl hn
  · exact .inr ⟨g, cap, cur, h1, by omega, h3⟩
theorem own_grown {w w' : World} {B : Nat} {e : TypeId} {size : Nat} {v : Value} {n : Nat} {xs : List Value} (h : w.ownsRow (B + 1) e size v n xs) (hg : w.grownBy w' (some B)) : w'.ownsRow (B + 1) e size v n xs :=
  h.kept hg (by
    cases hv : v.ownBlock with
    | none => exact .inl rfl
    | some k => exact .inr (by have := h.lt k hv; simp; omega))

theorem read_long (s : ByteArray) (W : Int) (w : World) (hm : s.size ≤ maxLen) (h : 400 < s.size) :
    Calls Tryd.prog 73 #[.string s, .int .i64 W] w fun e w' => e = .returned (.tuple #[.slice none 0 0, .int .i64 1, .int .i64 0]) ∧ w' = w := by
  unfold maxLen at hm
  go_enter Tryd.func73, Tryd.ntmps73
  go_wp2_with fail
  go_ret3
  exact ⟨rfl, rfl⟩
theorem read_arg (s : ByteArray) (W : Int) (w : World) (hs : s.size ≤ 400) (h : W < 1 ∨ 12 < W) :
    Calls Tryd.prog 73 #[.string s, .int .i64 W] w fun e w' => e = .returned (.tuple #[.slice none 0 0, .int .i64 2, .int .i64 0]) ∧ w' = w := by
  rcases h with h | h
  · go_enter Tryd.func73, Tryd.ntmps73
    go_wp2_with fail
    go_ret3
    exact ⟨rfl, rfl⟩
  · go_enter Tryd.func73, Tryd.ntmps73
    go_wp2_with fail
    go_ret3
    exact ⟨rfl, rfl⟩

set_option maxRecDepth 100000 in
theorem read_walk (s : ByteArray) (W : Nat) (w : World) (hs : s.size ≤ 400) (hW1 : 1 ≤ W) (hW : W ≤ 12) :
    Calls Tryd.prog 73 #[.string s, .int .i64 W] w fun e w' => ∃ ao cap, e = .returned (.tuple #[.slice ao (dedup (tRts s W)).length cap, .int .i64 (tErr s W), .int .i64 (tAt s W)]) ∧
      w'.ownsRow w.heap.size 98 2 (.slice ao (dedup (tRts s W)).length cap) (dedup (tRts s W)).length (rc (dedup (tRts s W))) ∧ Below w.heap.size w w' := by
  go_enter Tryd.func73, Tryd.ntmps73
  go_wp2_with fail
  go_loopg [8] (s.size + 1) (fun g x wr => ∃ (p k : Nat) (v : Value) (bad : Bool) (l : List Rt), x = .int .i64 k ∧ p ≤ s.size ∧ k + g ≤ s.size + 1 ∧ l.length ≤ k ∧
    Rd wr w.heap.size s W p v bad ∧ wr.ownsRow (w.heap.size + 1) 98 2 v l.length (rc l) ∧ Below w.heap.size w wr ∧ Hid (bad = true → table s W = (none, p)) ∧
    Hid (bad = false → s.size < g + p ∧ ∃ f acc, s.size < f + p ∧ parse s W f p acc = table s W ∧ l = dedup acc ∧ k = acc.length))
  case atStart =>
    refine ⟨0, 0, .slice none 0 0, false, [], rfl, by omega, by omega, by simp, ?_, World.ownsRow_nil _ _ _ _, (Below.refl _ _).alloc (Nat.le_refl _) _, fun h => by simp at h, fun _ => ⟨by omega, s.size + 1, [], by omega, rfl, rfl, rfl⟩⟩
    exact heap_alloc_new w _
  case round =>
    obtain ⟨p, k, v, bad, l, rfl, hp, hk, hl, hrd, hown, hbel, HB, HG⟩ := hrel
    obtain ⟨c0, c1, c2, c3, c4⟩ := hrd.cells
    cases bad with
    | true =>
      have HT : Hid (table s W = (none, p)) := HB.out rfl
      clear HB HG
      by_cases hlt : p < s.size
      · go_wp2_with fail
        go_quiet (fail)
        go_wp2_with fail
        go_ret3
        obtain ⟨e1, e2, e3⟩ := t_bad hs hW1 hW HT.out
        rw [e1, e2, e3]
        exact ⟨none, 0, ret3 rfl rfl rfl, World.ownsRow_nil _ _ _ _, below_drewN hbel _⟩
      · go_wp2_with fail
        go_quiet (fail)
        go_wp2_with fail
        go_ret3
        obtain ⟨e1, e2, e3⟩ := t_bad hs hW1 hW HT.out
        rw [e1, e2, e3]
        exact ⟨none, 0, ret3 rfl rfl rfl, World.ownsRow_nil _ _ _ _, below_drewN hbel _⟩
    | false =>
      have HG' : Hid (s.size < gk + p ∧ ∃ f acc, s.size < f + p ∧ parse s W f p acc = table s W ∧ l = dedup acc ∧ k = acc.length) := HG.out rfl
      clear HB HG
      by_cases hlt : p < s.size
      · have hbe := bEnd_le s W p hp
        have hgk : 0 < gk := by have := HG'.out.1; omega
        go_wp2_with fail
        refine (rbits_any s w.heap.size W p v _ hs hp hW hrd).mono ?_
        rintro e w1 ⟨rfl, hr1, hg1⟩
        go_wp2_with fail
        refine (eat_32 s w.heap.size W (bEnd s W p, decide (bEnd s W p = p)) v _ hs hr1).mono ?_
        rintro e w2 ⟨rfl, hr2, hg2⟩
        go_wp2_with fail
        refine (rhop_all s w.heap.size W _ v _ hs hr2).mono ?_
        rintro e w3 ⟨rfl, hr3, hg3⟩
        go_wp2_with fail
        refine (eat_10 s w.heap.size W _ v _ hs hr3).mono ?_
        rintro e w4 ⟨rfl, hr4, hg4⟩
        have hg := g_trans hg1 (g_trans hg2 (g_trans hg3 hg4))
        go_wp2_with fail
        refine (put_any s w.heap.size W _ v _ l _ _ _ (by omega) hr4 (own_grown hown hg)).mono ?_
        rintro e w5 ⟨rfl, v5, hr5, ho5, hb5⟩
        go_wp2_with fail
        have hpl := putR_length l (bOf s W p) (lineH s W p)
        have hb5' : Below w.heap.size w w5 := (hbel.trans (g_below hg hbel.size)).trans hb5
        go_roundg (gk - 1)
        case measure => omega
        case rel =>
          obtain ⟨hf1, f, acc, hf2, hpar, hdd, hkl⟩ := HG'.out
          refine ⟨(lineF s W p).1, k + 1, v5, (lineF s W p).2, putR l (bOf s W p) (lineH s W p), int_eq (by omega), ?_, by omega, by omega, hr5, ho5, hb5', ?_, ?_⟩
          · exact eatF_le (by omega) (hopF_le (eatF_le (by omega) hbe.1))
          · intro hb
            cases hbad : lBad s W p with
            | true => rw [lineF_bad hbad]; exact (hpar.symm.trans (parse_bad hf2 hlt hbad))
            | false => rw [(lineF_good hbad).1] at hb; simp at hb
          · intro hb
            cases hbad : lBad s W p with
            | true => rw [lineF_bad hbad] at hb; simp at hb
            | false =>
              have hat := lAt_lt s W p hbad
              rw [(lineF_good hbad).1, (lineF_good hbad).2]
              obtain ⟨f', hf', hst⟩ := parse_step hf2 hlt hbad (acc := acc)
              refine ⟨by simp only []; omega, f', acc ++ [lRt s W p], hf', hst.symm.trans hpar, ?_, by rw [List.length_append, hkl]; rfl⟩
              rw [dedup_snoc, ← hdd]; rfl
      · obtain ⟨hf1, f, acc, hf2, hpar, hdd, hkl⟩ := HG'.out
        have HD : Hid (table s W = (some acc, 0)) := hpar.symm.trans (parse_done hf2 (by omega))
        have HL : Hid (l = dedup acc ∧ k = acc.length) := ⟨hdd, hkl⟩
        clear HG' hf1 hf2 hpar hdd hkl
        by_cases hmany : 24 < k
        · go_wp2_with fail
          go_ret3
          obtain ⟨e1, e2, e3⟩ := t_many hs hW1 hW HD.out (by have := HL.out.2; omega)
          rw [e1, e2, e3]
          exact ⟨none, 0, ret3 rfl rfl rfl, World.ownsRow_nil _ _ _ _, hbel⟩
        · go_wp2_with fail
          go_ret3
          obtain ⟨e1, e2, e3⟩ := t_ok hs hW1 hW HD.out (by have := HL.out.2; omega)
          rw [e1, e2, e3, ← HL.out.1]
          obtain ⟨ao, cap, hv⟩ := own_shape hown
          subst hv
          exact ⟨ao, cap, ret3 rfl rfl rfl, own_base hown (by omega), hbel⟩

theorem read_any (s : ByteArray) (W : Int) (w : World) (hm : s.size ≤ maxLen) :
    Calls Tryd.prog 73 #[.string s, .int .i64 W] w fun e w' => ∃ ao cap, e = .returned (.tuple #[.slice ao (dedup (tRts s W)).length cap, .int .i64 (tErr s W), .int .i64 (tAt s W)]) ∧
      w'.ownsRow w.heap.size 98 2 (.slice ao (dedup (tRts s W)).length cap) (dedup (tRts s W)).length (rc (dedup (tRts s W))) ∧ Below w.heap.size w w' := by
  by_cases h1 : 400 < s.size
  · obtain ⟨e1, e2, e3⟩ := t_long (W := W) h1
    rw [e1, e2, e3]
    refine (read_long s W w hm h1).mono ?_
    rintro e w1 ⟨rfl, rfl⟩
    exact ⟨none, 0, rfl, World.ownsRow_nil _ _ _ _, Below.refl _ _⟩
  by_cases h2 : W < 1 ∨ 12 < W
  · obtain ⟨e1, e2, e3⟩ := t_arg (s := s) (by omega) h2
    rw [e1, e2, e3]
    refine (read_arg s W w (by omega) h2).mono ?_
    rintro e w1 ⟨rfl, rfl⟩
    exact ⟨none, 0, rfl, World.ownsRow_nil _ _ _ _, Below.refl _ _⟩
  obtain ⟨k, rfl⟩ := Int.eq_ofNat_of_zero_le (show 0 ≤ W by omega)
  exact read_walk s k w (by omega) (by omega) (by omega)
end Go.Proofs.YtdfnmpmmkcpddaaDoor
