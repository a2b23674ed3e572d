import Derived.Test.YtdfnmpmmkcpddaaDoorQ04
/- The walks of the document's reader: bits, hop. -/
namespace Go.Proofs.YtdfnmpmmkcpddaaDoor
open Go.RowKit

theorem rbits_star (s : ByteArray) (B W p : Nat) (v : Value) (w : World) (hs : s.size ≤ 400) (hr : Rd w B s W p v false) (h : byt s p = 42) :
    Calls Tryd.prog 91 #[.pointer (some ⟨B, 0, none⟩)] w fun e w' => e = .returned (.string ⟨#[]⟩) ∧ Rd w' B s W (p + 1) v false ∧ w.grownBy w' (some B) := by
  obtain ⟨c0, c1, c2, c3, c4⟩ := hr.cells
  have hf := hr.free
  have hp : p < s.size := byt_lt_size (by omega)
  have H : Hid (byt s p = 42) := h
  clear h
  go_enter Tryd.func91, Tryd.ntmps91
  go_wp2_with fail
  refine (at_yes s B W p 42 42 v false _ hr (by omega) (by have := H.out; omega) (by have := H.out; omega) (by omega)).mono ?_
  rintro e w1 ⟨rfl, n, rfl⟩
  go_wp2_with fail
  go_ret
  exact ⟨rfl, (hr.drew n).setP (p + 1), g_set (g_drew (g_refl _ _) n) _⟩

theorem rbits_walk (s : ByteArray) (B W p : Nat) (v : Value) (w : World) (hs : s.size ≤ 400) (hp : p ≤ s.size) (hW : W ≤ 12) (hr : Rd w B s W p v false) (h : ¬ byt s p = 42) :
    Calls Tryd.prog 91 #[.pointer (some ⟨B, 0, none⟩)] w fun e w' => e = .returned (.string (s.extract p (p + nbits s W p))) ∧ Rd w' B s W (p + nbits s W p) v (decide (nbits s W p = 0)) ∧ w.grownBy w' (some B) := by
  obtain ⟨c0, c1, c2, c3, c4⟩ := hr.cells
  go_enter Tryd.func91, Tryd.ntmps91
  go_wp2_with fail
  refine (at_no s B W p 42 42 v false _ hr (by omega) (by omega) (by omega) (by omega)).mono ?_
  rintro e w1 ⟨rfl, n, rfl⟩
  go_wp2_with fail
  clear c0 c1 c2 c3 c4
  go_loopg [5] W (fun g _ wr => ∃ k : Nat, g + k = W ∧ p + k ≤ s.size ∧ Rd wr B s W (p + k) v false ∧ w.grownBy wr (some B) ∧ Hid (nbits s W p = k + nbits s (W - k) (p + k)))
  case atStart => exact ⟨0, by omega, by omega, hr.drew n, g_drew (g_refl _ _) n, by unfold Hid; simp⟩
  case round =>
    obtain ⟨k, hk, hpk, hrd, hgr, HN⟩ := hrel
    obtain ⟨c0, c1, c2, c3, c4⟩ := hrd.cells
    have hf := hrd.free
    by_cases hlt : k < W
    · by_cases hb : byt s (p + k) = 48 ∨ byt s (p + k) = 49
      · have HB : Hid (byt s (p + k) = 48 ∨ byt s (p + k) = 49) := hb
        have hps : p + k < s.size := byt_lt_size (by omega)
        clear hb
        go_wp2_with fail
        go_quiet (fail)
        go_wp2_with fail
        refine (at_yes s B W (p + k) 48 49 v false _ (hrd.drew nq) (by omega) (by have := HB.out; omega) (by have := HB.out; omega) (by omega)).mono ?_
        rintro e w1 ⟨rfl, n1, rfl⟩
        go_wp2_with fail
        go_roundg (W - (k + 1))
        case measure => omega
        case rel => exact ⟨k + 1, by omega, by omega, ((hrd.drew nq).drew n1).setP (p + (k + 1)), g_set (g_drew hgr _) _, rb_step hlt HB HN⟩
      · have hN : Hid (nbits s W p = k) := rb_stop hb HN
        go_wp2_with fail
        go_quiet (fail)
        go_wp2_with fail
        refine (at_no s B W (p + k) 48 49 v false _ (hrd.drew nq) (by omega) (by omega) (by omega) (by omega)).mono ?_
        rintro e w1 ⟨rfl, n1, rfl⟩
        clear hb
        by_cases hk0 : k = 0
        · subst hk0
          have e1 : (((p : Int) + ((0 : Nat) : Int)) == (p : Int)) = true := by simp
          go_wp2_with fail
          go_quiet (fail)
          go_wp2_with fail
          go_ret
          rw [hN.out]
          exact ⟨ret1 (str_eq (by simp)), ((hrd.drew _).setBad true).drew _, by repeat (first | exact hgr | apply g_drew | apply g_set)⟩
        · have e1 : (((p : Int) + (k : Int)) == (p : Int)) = false := by rw [beq_eq_false_iff_ne]; omega
          go_wp2_with fail
          go_quiet (fail)
          go_wp2_with fail
          go_ret
          rw [hN.out, show decide (k = 0) = false from by simp [hk0]]
          exact ⟨rfl, (hrd.drew _).drew _, by repeat (first | exact hgr | apply g_drew | apply g_set)⟩
    · have hN : Hid (nbits s W p = k) := rb_full (by omega) hlt HN
      go_wp2_with fail
      go_quiet (fail)
      by_cases hk0 : k = 0
      · subst hk0
        have e1 : (((p : Int) + ((0 : Nat) : Int)) == (p : Int)) = true := by simp
        go_wp2_with fail
        go_quiet (fail)
        go_wp2_with fail
        go_ret
        rw [hN.out]
        exact ⟨ret1 (str_eq (by simp)), ((hrd.drew _).setBad true).drew _, by repeat (first | exact hgr | apply g_drew | apply g_set)⟩
      · have e1 : (((p : Int) + (k : Int)) == (p : Int)) = false := by rw [beq_eq_false_iff_ne]; omega
        go_wp2_with fail
        go_quiet (fail)
        go_wp2_with fail
        go_ret
        rw [hN.out, show decide (k = 0) = false from by simp [hk0]]
        exact ⟨rfl, (hrd.drew _).drew _, by repeat (first | exact hgr | apply g_drew | apply g_set)⟩

theorem rbits_any (s : ByteArray) (B W p : Nat) (v : Value) (w : World) (hs : s.size ≤ 400) (hp : p ≤ s.size) (hW : W ≤ 12) (hr : Rd w B s W p v false) :
    Calls Tryd.prog 91 #[.pointer (some ⟨B, 0, none⟩)] w fun e w' => e = .returned (.string (bOf s W p)) ∧ Rd w' B s W (bEnd s W p) v (decide (bEnd s W p = p)) ∧ w.grownBy w' (some B) := by
  unfold bOf bEnd
  by_cases h : byt s p = 42
  · rw [if_pos h, if_pos h, show decide (p + 1 = p) = false from by simp]; exact rbits_star s B W p v w hs hr h
  · rw [if_neg h, if_neg h, show decide (p + nbits s W p = p) = decide (nbits s W p = 0) from by simp]; exact rbits_walk s B W p v w hs hp hW hr h

theorem rhop_bad (s : ByteArray) (B W p : Nat) (v : Value) (w : World) (hr : Rd w B s W p v true) :
    Calls Tryd.prog 93 #[.pointer (some ⟨B, 0, none⟩)] w fun e w' => e = .returned (.int .i64 0) ∧ Rd w' B s W p v true ∧ w.grownBy w' (some B) := by
  obtain ⟨c0, c1, c2, c3, c4⟩ := hr.cells
  go_enter Tryd.func93, Tryd.ntmps93
  go_wp2_with fail
  go_ret
  exact ⟨rfl, hr, g_refl _ _⟩
theorem rhop_no (s : ByteArray) (B W p : Nat) (v : Value) (w : World) (hr : Rd w B s W p v false) (h : ¬ (49 ≤ byt s p ∧ byt s p ≤ 57)) :
    Calls Tryd.prog 93 #[.pointer (some ⟨B, 0, none⟩)] w fun e w' => e = .returned (.int .i64 0) ∧ Rd w' B s W p v true ∧ w.grownBy w' (some B) := by
  obtain ⟨c0, c1, c2, c3, c4⟩ := hr.cells
  have hf := hr.free
  go_enter Tryd.func93, Tryd.ntmps93
  go_wp2_with fail
  refine (at_no s B W p 49 57 v false _ hr (by omega) (by omega) (by omega) (by omega)).mono ?_
  rintro e w1 ⟨rfl, n, rfl⟩
  go_wp2_with fail
  go_ret
  exact ⟨rfl, (hr.drew n).setBad true, g_set (g_drew (g_refl _ _) n) _⟩
theorem rhop_walk (s : ByteArray) (B W p : Nat) (v : Value) (w : World) (hs : s.size ≤ 400) (hr : Rd w B s W p v false) (h1 : 49 ≤ byt s p) (h2 : byt s p ≤ 57) :
    Calls Tryd.prog 93 #[.pointer (some ⟨B, 0, none⟩)] w fun e w' => e = .returned (.int .i64 (hopGo s 3 0 p).1) ∧ Rd w' B s W (hopGo s 3 0 p).2 v false ∧ w.grownBy w' (some B) := by
  obtain ⟨c0, c1, c2, c3, c4⟩ := hr.cells
  have hps : p < s.size := byt_lt_size (by omega)
  go_enter Tryd.func93, Tryd.ntmps93
  go_wp2_with fail
  refine (at_yes s B W p 49 57 v false _ hr (by omega) (by omega) (by omega) (by omega)).mono ?_
  rintro e w1 ⟨rfl, n, rfl⟩
  go_wp2_with fail
  clear c0 c1 c2 c3 c4
  go_loopg [4, 5] 3 (fun f x _ wr => ∃ m q : Nat, x = .int .i64 m ∧ q ≤ s.size ∧ m ≤ 250 ∧ Rd wr B s W q v false ∧ w.grownBy wr (some B) ∧ Hid (hopGo s f m q = hopGo s 3 0 p) ∧ Hid ((f = 3 ∧ m = 0 ∧ 49 ≤ byt s q) ∨ (f = 2 ∧ 1 ≤ m) ∨ (f = 1 ∧ 10 ≤ m) ∨ (f = 0 ∧ 100 ≤ m)))
  case atStart => exact ⟨0, p, rfl, by omega, by omega, hr.drew n, g_drew (g_refl _ _) n, rfl, .inl ⟨rfl, rfl, h1⟩⟩
  case round =>
    obtain ⟨m, q, rfl, hq, hm, hrd, hgr, HN, HF⟩ := hrel
    obtain ⟨c0, c1, c2, c3, c4⟩ := hrd.cells
    have hf := hrd.free
    by_cases hd : 48 ≤ byt s q ∧ byt s q ≤ 57
    · obtain ⟨hd1, hd2⟩ := hd
      have hlt : q < s.size := byt_lt_size (by omega)
      have HB : Hid (byt s q = (s[q]'hlt).toNat) := byt_in hlt
      have hc1 : 48 ≤ (s[q]'hlt).toNat := by have := HB.out; omega
      have hc2 : (s[q]'hlt).toNat ≤ 57 := by have := HB.out; omega
      by_cases hl : 10 * m + ((s[q]'hlt).toNat - 48) ≤ 250
      · go_wp2_with fail
        refine (at_yes s B W q 48 57 v false _ hrd (by omega) (by omega) (by omega) (by omega)).mono ?_
        rintro e w1 ⟨rfl, n1, rfl⟩
        go_wp2_with fail
        go_quiet (fail)
        go_wp2_with fail
        go_quiet (fail)
        go_wp2_with fail
        go_roundg (gk - 1)
        case measure => have := HF.out; omega
        case rel =>
          have HB' := HB.out
          have HF' := HF.out
          refine ⟨10 * m + ((s[q]'hlt).toNat - 48), q + 1, int_eq (by omega), by omega, hl, (hrd.drew _).setP (q + 1), g_set (g_drew hgr _) _, ?_, by unfold Hid; omega⟩
          unfold Hid
          rw [← HN.out, hopGo_step (s := s) (f := gk) (n := m) (p := q) (by omega) (by omega), HB']
      · have hst : Hid ((m, q) = hopGo s 3 0 p) := (hopGo_stop (s := s) (f := gk) (n := m) (p := q) (by rw [HB.out]; omega)).symm.trans HN
        go_wp2_with fail
        refine (at_yes s B W q 48 57 v false _ hrd (by omega) (by omega) (by omega) (by omega)).mono ?_
        rintro e w1 ⟨rfl, n1, rfl⟩
        go_wp2_with fail
        go_quiet (fail)
        go_wp2_with fail
        go_ret
        rw [← hst.out]
        exact ⟨rfl, (hrd.drew _).drew _, g_drew (g_drew hgr _) _⟩
    · have hst : Hid ((m, q) = hopGo s 3 0 p) := (hopGo_stop (s := s) (f := gk) (n := m) (p := q) (by omega)).symm.trans HN
      go_wp2_with fail
      refine (at_no s B W q 48 57 v false _ hrd (by omega) (by omega) (by omega) (by omega)).mono ?_
      rintro e w1 ⟨rfl, n1, rfl⟩
      clear hd
      go_wp2_with fail
      go_quiet (fail)
      go_wp2_with fail
      go_ret
      rw [← hst.out]
      exact ⟨rfl, (hrd.drew _).drew _, g_drew (g_drew hgr _) _⟩

theorem hopGo_no {s : ByteArray} {p : Nat} (h : ¬ (49 ≤ byt s p ∧ byt s p ≤ 57)) : hopGo s 3 0 p = (0, p) := hopGo_stop (by omega)
theorem hopGo_pos (s : ByteArray) : ∀ (f n p : Nat), 1 ≤ n → 1 ≤ (hopGo s f n p).1
  | 0, _, _, h => by simpa [hopGo] using h
  | f + 1, n, p, h => by
    unfold hopGo; split
    · exact hopGo_pos s f _ _ (by omega)
    · exact h
theorem hopGo_yes {s : ByteArray} {p : Nat} (h1 : 49 ≤ byt s p) (h2 : byt s p ≤ 57) : 1 ≤ (hopGo s 3 0 p).1 := by
  rw [hopGo_step (by omega) (by omega)]; exact hopGo_pos s _ _ _ (by omega)

theorem rhop_any (s : ByteArray) (B W p : Nat) (v : Value) (w : World) (hs : s.size ≤ 400) (hr : Rd w B s W p v false) :
    Calls Tryd.prog 93 #[.pointer (some ⟨B, 0, none⟩)] w fun e w' => e = .returned (.int .i64 (hopGo s 3 0 p).1) ∧ Rd w' B s W (hopGo s 3 0 p).2 v (decide ((hopGo s 3 0 p).1 = 0)) ∧ w.grownBy w' (some B) := by
  by_cases h : 49 ≤ byt s p ∧ byt s p ≤ 57
  · have := hopGo_yes h.1 h.2
    rw [show decide ((hopGo s 3 0 p).1 = 0) = false from by rw [decide_eq_false_iff_not]; omega]; exact rhop_walk s B W p v w hs hr h.1 h.2
  · rw [hopGo_no h]; exact rhop_no s B W p v w hr h
end Go.Proofs.YtdfnmpmmkcpddaaDoor
/- The walks of the document's reader: put. -/
namespace Go.Proofs.YtdfnmpmmkcpddaaDoor
open Go.RowKit

/-- A route, in place of one with the same bits, or behind all. -/
def putR : List Rt → ByteArray → Nat → List Rt
  | [], b, h => [⟨b, h⟩]
  | r :: l, b, h => if r.bits = b then ⟨r.bits, h⟩ :: l else r :: putR l b h

theorem rc_cons (r : Rt) (l : List Rt) : rc (r :: l) = .string r.bits :: .int .i64 (r.hop : Nat) :: rc l := by simp [rc, rc1]
theorem rc_length (l : List Rt) : (rc l).length = l.length * 2 := by
  induction l with
  | nil => rfl
  | cons r l ih => rw [rc_cons]; simp only [List.length_cons, ih]; omega
theorem rc_bits : ∀ (l : List Rt) (i : Nat) (r : Rt), l[i]? = some r → (rc l)[i * 2]? = some (.string r.bits)
  | r0 :: l, 0, r, h => by simp at h; subst h; rw [rc_cons]; rfl
  | r0 :: l, i + 1, r, h => by rw [rc_cons, show (i + 1) * 2 = i * 2 + 1 + 1 from by omega]; simpa using rc_bits l i r (by simpa using h)
  | [], i, r, h => by simp at h
theorem rc_hop : ∀ (l : List Rt) (i : Nat) (r : Rt), l[i]? = some r → (rc l)[i * 2 + 1]? = some (.int .i64 (r.hop : Nat))
  | r0 :: l, 0, r, h => by simp at h; subst h; rw [rc_cons]; rfl
  | r0 :: l, i + 1, r, h => by rw [rc_cons, show (i + 1) * 2 + 1 = i * 2 + 1 + 1 + 1 from by omega]; simpa using rc_hop l i r (by simpa using h)
  | [], i, r, h => by simp at h

theorem putR_hit : ∀ (l : List Rt) (i : Nat) (r : Rt) (b : ByteArray) (h : Nat), l[i]? = some r → r.bits = b → (∀ j r', j < i → l[j]? = some r' → r'.bits ≠ b) → putR l b h = l.set i ⟨r.bits, h⟩
  | r0 :: l, 0, r, b, h, hi, hb, _ => by simp at hi; subst hi; simp [putR, hb]
  | r0 :: l, i + 1, r, b, h, hi, hb, hn => by
    have h0 : r0.bits ≠ b := hn 0 r0 (by omega) rfl
    unfold putR
    rw [if_neg h0, putR_hit l i r b h (by simpa using hi) hb (fun j r' hj hr => hn (j + 1) r' (by omega) (by simpa using hr))]
    simp
  | [], i, r, b, h, hi, _, _ => by simp at hi
theorem putR_miss : ∀ (l : List Rt) (b : ByteArray) (h : Nat), (∀ (j : Nat) r', l[j]? = some r' → r'.bits ≠ b) → putR l b h = l ++ [⟨b, h⟩]
  | [], b, h, _ => rfl
  | r0 :: l, b, h, hn => by
    unfold putR
    rw [if_neg (hn 0 r0 rfl), putR_miss l b h (fun j r' hr => hn (j + 1) r' (by simpa using hr))]
    rfl
theorem rc_set : ∀ (l : List Rt) (i : Nat) (r : Rt) (h : Nat), l[i]? = some r → rc (l.set i ⟨r.bits, h⟩) = (rc l).set (i * 2 + 1) (.int .i64 (h : Nat))
  | r0 :: l, 0, r, h, hi => by simp at hi; subst hi; simp [rc_cons]
  | r0 :: l, i + 1, r, h, hi => by
    rw [rc_cons, show (i + 1) * 2 + 1 = i * 2 + 1 + 1 + 1 from by omega]
    simp only [List.set_cons_succ, rc_cons, List.cons.injEq, true_and]
    exact rc_set l i r h (by simpa using hi)
  | [], i, r, h, hi => by simp at hi

theorem own_some {w : World} {base : Nat} {e : TypeId} {size n cap : Nat} {ao : Option Addr} {xs : List Value} (h : w.ownsRow base e size (.slice ao n cap) n xs) (hn : 0 < n) : ∃ g, ao = some ⟨g, 0, none⟩ ∧ base ≤ g ∧ g < w.heap.size ∧ n ≤ cap ∧ cap ≤ maxLen := by
  rcases h.2 with ⟨_, h0⟩ | ⟨g, c, cur, hv, hb, hg, h1, h2, _⟩
  · omega
  · simp only [Value.slice.injEq] at hv
    obtain ⟨rfl, _, rfl⟩ := hv
    exact ⟨g, rfl, hb, (Array.getElem?_eq_some_iff.1 hg).1, h1, h2⟩

theorem Tryd.infoRefRoute : (Tryd.prog.info? 98).map (fun i => (i.zero, i.size, i.bytes)) = some (some (.agg #[.string ⟨#[]⟩, .int .i64 0]), 2, 24) := by kernel_rfl
set_option maxRecDepth 100000 in
theorem put_any (s : ByteArray) (B W p : Nat) (v : Value) (bad : Bool) (l : List Rt) (b : ByteArray) (h : Nat) (w : World) (hl : l.length ≤ 400) (hr : Rd w B s W p v bad) (hown : w.ownsRow (B + 1) 98 2 v l.length (rc l)) :
    Calls Tryd.prog 94 #[.pointer (some ⟨B, 0, none⟩), .string b, .int .i64 h] w fun e w' => e = .returned (.tuple #[]) ∧ ∃ v', Rd w' B s W p v' bad ∧ w'.ownsRow (B + 1) 98 2 v' (putR l b h).length (rc (putR l b h)) ∧ Below B w w' := by
  obtain ⟨ao, cap, rfl⟩ := own_shape hown
  obtain ⟨c0, c1, c2, c3, c4⟩ := hr.cells
  have hf := hr.free
  go_enter Tryd.func94, Tryd.ntmps94
  go_wp2_with fail
  go_loopg [6] l.length (fun g x wr => ∃ i : Nat, wr = w ∧ x = .int .i64 i ∧ g + i = l.length ∧ Hid (∀ (j : Nat) r', j < i → l[j]? = some r' → r'.bits ≠ b))
  case atStart => exact ⟨0, rfl, rfl, by omega, fun j r' hj => by omega⟩
  case round =>
    obtain ⟨i, rfl, rfl, hgi, HN⟩ := hrel
    by_cases hlt : i < l.length
    · obtain ⟨g, rfl, hg1, hg2, hg3, hg4⟩ := own_some hown (by omega)
      unfold maxLen at hg4
      have hb0 := (hown.cellAt (i * 2) (by omega)).trans (rc_bits l i l[i] (by simp))
      have hb1 := (hown.cellAt (i * 2 + 1) (by omega)).trans (rc_hop l i l[i] (by simp))
      have hh0 := hown.frozenAt (i * 2 + 1)
      by_cases hit : l[i].bits = b
      · go_wp2_with fail
        have hph := putR_hit l i l[i] b h (by simp) hit HN
        have hst := hown.stored (i * 2 + 1) (.int .i64 h)
        rw [← rc_set l i l[i] h (by simp)] at hst
        refine bodyPost_ret (results_none rfl _ _ _) rfl ⟨rfl, _, hr.kept hst.2 (by simp; omega), ?_, (Below.refl _ _).setCell (by simp; omega) _⟩
        rw [hph, List.length_set]; exact hst.1
      · have e1 := ba_ne hit
        go_wp2_with fail
        go_roundg (gk - 1)
        case measure => omega
        case rel =>
          refine ⟨i + 1, rfl, int_eq (by omega), by omega, ?_⟩
          intro j r' hj hr'
          by_cases hji : j = i
          · subst hji
            have : l[j] = r' := by rw [List.getElem?_eq_getElem hlt] at hr'; exact Option.some.inj hr'
            rw [← this]; exact hit
          · exact HN.out j r' (by omega) hr'
    · obtain ⟨i0, hi, hz0, hz1, hz2⟩ := info_parts Tryd.infoRefRoute
      have hsz : B + 1 ≤ wr.heap.size := hr.lt
      have HM : Hid (putR l b h = l ++ [⟨b, h⟩]) := putR_miss l b h fun j r' hr' => HN.out j r' (by
        have := (List.getElem?_eq_some_iff.1 hr').1; omega) hr'
      go_wp2_with (at_builtin; refine wpList_append_own _ rfl (.tmp 38) (.tmp 42) 66 rfl (B + 1) 98 i0 _ 2 24 Tryd.underlying66 hi hz0 hz1 hz2 rfl (by decide) _ _ _ rfl (hown.alloc _) ⟨wr.heap.size, 0, none⟩ 1 1 [.string b, .int .i64 h] rfl rfl ?c1 ?c2 ?c3 ?c4 ?c5 ?_)
      case c1 =>
        intro j u hj
        match j, hj with
        | 0, hj => simp at hj; subst hj; simp [Addr.add]
        | 1, hj => simp at hj; subst hj; simp [Addr.add]
      case c2 => intro u hu; simp at hu; rcases hu with rfl | rfl <;> rfl
      case c3 => unfold maxLen; omega
      case c4 => omega
      case c5 => simp; omega
      intro v' w2 hown2 hgrow _
      obtain ⟨ao2, cap2, rfl⟩ := own_shape hown2
      have hr2 : Rd w2 B s W p (.slice ao l.length cap) bad := (hr.kept (World.grownBy_alloc wr _ none) (by simp)).kept hgrow (by
        intro e; have := hown.lt B e.symm; omega)
      have hb2 : Below B wr w2 := ((Below.refl B wr).alloc (by omega) _).grown hgrow (by simp; omega) (fun k hk => by have := hown.lt k hk; omega)
      have hf2 := hr2.free
      obtain ⟨d0, d1, d2, d3, d4⟩ := hr2.cells
      go_wp2_with fail
      go_end0
      refine ⟨rfl, _, hr2.setL _, ?_, hb2.setCell (by simp) _⟩
      rw [HM.out, List.length_append, rc_snoc]
      exact hown2.kept (g_set (g_refl w2 _) _) (by
        cases hv : (Value.slice ao2 (l.length + 1) cap2).ownBlock with
        | none => exact .inl rfl
        | some k => exact .inr (by have := hown2.lt k hv; simp; omega))
end Go.Proofs.YtdfnmpmmkcpddaaDoor
/- The walk of the document's reader: read. -/
namespace Go.Proofs.YtdfnmpmmkcpddaaDoor
open Go.RowKit

/-- 'eat' on the place and the mark. -/
def eatF (s : ByteArray) (c : Nat) (x : Nat × Bool) : Nat × Bool := if x.2 = true then x else if byt s x.1 = c then (x.1 + 1, false) else (x.1, true)
/-- 'hop' on the place and the mark. -/
def hopF (s : ByteArray) (x : Nat × Bool) : Nat × Nat × Bool := if x.2 = true then (0, x) else ((hopGo s 3 0 x.1).1, (hopGo s 3 0 x.1).2, decide ((hopGo s 3 0 x.1).1 = 0))

theorem eatF_le {s : ByteArray} {c : Nat} {x : Nat × Bool} (hc : c < 256) (h : x.1 ≤ s.size) : (eatF s c x).1 ≤ s.size := by
  unfold eatF; split
  · exact h
  · split
    · have := byt_lt_size (s := s) (k := x.1) (by omega); simp only []; omega
    · exact h
theorem hopF_le {s : ByteArray} {x : Nat × Bool} (h : x.1 ≤ s.size) : (hopF s x).2.1 ≤ s.size := by
  unfold hopF; split
  · exact h
  · exact (hopGo_end s 3 0 x.1 h).1

theorem eat_any (s : ByteArray) (B W c : Nat) (x : Nat × Bool) (v : Value) (w : World) (hs : s.size ≤ 400) (hc : c < 256) (hr : Rd w B s W x.1 v x.2) :
    Calls Tryd.prog 92 #[.pointer (some ⟨B, 0, none⟩), .int .u8 c] w fun e w' => e = .returned (.tuple #[]) ∧ Rd w' B s W (eatF s c x).1 v (eatF s c x).2 ∧ w.grownBy w' (some B) := by
  obtain ⟨p, b⟩ := x
  unfold eatF
  cases b with
  | true => simp only [if_true]; exact eat_bad s B W p c v w hr
  | false =>
    simp only [Bool.false_eq_true, if_false]
    by_cases h : byt s p = c
    · rw [if_pos h]; exact eat_yes s B W p c v w hs hr (by omega) (by omega) (by omega)
    · rw [if_neg h]; exact eat_no s B W p c v w hr (by omega) (by omega) (by omega)
theorem eat_32 (s : ByteArray) (B W : Nat) (x : Nat × Bool) (v : Value) (w : World) (hs : s.size ≤ 400) (hr : Rd w B s W x.1 v x.2) :
    Calls Tryd.prog 92 #[.pointer (some ⟨B, 0, none⟩), .int .u8 32] w fun e w' => e = .returned (.tuple #[]) ∧ Rd w' B s W (eatF s 32 x).1 v (eatF s 32 x).2 ∧ w.grownBy w' (some B) := eat_any s B W 32 x v w hs (by omega) hr
theorem eat_10 (s : ByteArray) (B W : Nat) (x : Nat × Bool) (v : Value) (w : World) (hs : s.size ≤ 400) (hr : Rd w B s W x.1 v x.2) :
    Calls Tryd.prog 92 #[.pointer (some ⟨B, 0, none⟩), .int .u8 10] w fun e w' => e = .returned (.tuple #[]) ∧ Rd w' B s W (eatF s 10 x).1 v (eatF s 10 x).2 ∧ w.grownBy w' (some B) := eat_any s B W 10 x v w hs (by omega) hr
theorem rhop_all (s : ByteArray) (B W : Nat) (x : Nat × Bool) (v : Value) (w : World) (hs : s.size ≤ 400) (hr : Rd w B s W x.1 v x.2) :
    Calls Tryd.prog 93 #[.pointer (some ⟨B, 0, none⟩)] w fun e w' => e = .returned (.int .i64 (hopF s x).1) ∧ Rd w' B s W (hopF s x).2.1 v (hopF s x).2.2 ∧ w.grownBy w' (some B) := by
  obtain ⟨p, b⟩ := x
  unfold hopF
  cases b with
  | true => simp only [if_true]; exact rhop_bad s B W p v w hr
  | false => simp only [Bool.false_eq_true, if_false]; exact rhop_any s B W p v w hs hr

/-- What a line's four calls leave: the hop, the place, the mark. -/
def lineF (s : ByteArray) (W p : Nat) : Nat × Bool := eatF s 10 (hopF s (eatF s 32 (bEnd s W p, decide (bEnd s W p = p)))).2
def lineH (s : ByteArray) (W p : Nat) : Nat := (hopF s (eatF s 32 (bEnd s W p, decide (bEnd s W p = p)))).1

theorem lineF_bad {s : ByteArray} {W p : Nat} (h : lBad s W p = true) : lineF s W p = (lAt s W p, true) := by
  simp only [lBad, decide_eq_true_eq] at h
  unfold lineF lAt
  by_cases h1 : bEnd s W p = p
  · rw [if_pos (.inl h1)]; simp [eatF, hopF, h1]
  by_cases h2 : byt s (bEnd s W p) = 32
  · rw [if_neg (by omega)]
    by_cases h3 : (hopGo s 3 0 (bEnd s W p + 1)).1 = 0
    · simp [eatF, hopF, h1, h2, h3]
    · have h4 : byt s (hopGo s 3 0 (bEnd s W p + 1)).2 ≠ 10 := by omega
      simp [eatF, hopF, h1, h2, h3, h4]
  · rw [if_pos (.inr h2)]; simp [eatF, hopF, h1, h2]
theorem lineF_good {s : ByteArray} {W p : Nat} (h : lBad s W p = false) : lineF s W p = (lAt s W p + 1, false) ∧ lineH s W p = (lRt s W p).hop := by
  simp only [lBad, decide_eq_false_iff_not] at h
  have h1 : ¬ bEnd s W p = p := by omega
  have h2 : byt s (bEnd s W p) = 32 := by omega
  have h3 : ¬ (hopGo s 3 0 (bEnd s W p + 1)).1 = 0 := by omega
  have h4 : byt s (hopGo s 3 0 (bEnd s W p + 1)).2 = 10 := by omega
  unfold lineF lineH lAt lRt
  rw [if_neg (by omega)]
  simp [eatF, hopF, h1, h2, h3, h4]

/-- The routes, each once: the last one counts. -/
def dedup (l : List Rt) : List Rt := l.foldl (fun a r => putR a r.bits r.hop) []
theorem dedup_snoc (l : List Rt) (r : Rt) : dedup (l ++ [r]) = putR (dedup l) r.bits r.hop := by simp [dedup]
theorem putR_length (l : List Rt) (b : ByteArray) (h : Nat) : (putR l b h).length ≤ l.length + 1 := by
  induction l with
  | nil => simp [putR]
  | cons r l ih => unfold putR; split <;> simp; omega

theorem own_base {w : World} {base base' : Nat} {e : TypeId} {size : Nat} {v : Value} {n : Nat} {xs : List Value} (h : w.ownsRow base e size v n xs) (hb : base' ≤ base) : w.ownsRow base' e size v n xs := by
  refine ⟨h.1, ?_⟩
  rcases h.2 with hn | ⟨g, cap, cur, h1, h2, h3⟩
  · exact .inl hn
  · exact .inr ⟨g, cap, cur, h1, by omega, h3⟩
theorem own_grown {w w' : World} {B : Nat} {e : TypeId} {size : Nat} {v : Value} {n : Nat} {xs : List Value} (h : w.ownsRow (B + 1) e size v n xs) (hg : w.grownBy w' (some B)) : w'.ownsRow (B + 1) e size v n xs :=
  h.kept hg (by
    cases hv : v.ownBlock with
    | none => exact .inl rfl
    | some k => exact .inr (by have := h.lt k hv; simp; omega))

theorem read_long (s : ByteArray) (W : Int) (w : World) (hm : s.size ≤ maxLen) (h : 400 < s.size) :
    Calls Tryd.prog 73 #[.string s, .int .i64 W] w fun e w' => e = .returned (.tuple #[.slice none 0 0, .int .i64 1, .int .i64 0]) ∧ w' = w := by
  unfold maxLen at hm
  go_enter Tryd.func73, Tryd.ntmps73
  go_wp2_with fail
  go_ret3
  exact ⟨rfl, rfl⟩
theorem read_arg (s : ByteArray) (W : Int) (w : World) (hs : s.size ≤ 400) (h : W < 1 ∨ 12 < W) :
    Calls Tryd.prog 73 #[.string s, .int .i64 W] w fun e w' => e = .returned (.tuple #[.slice none 0 0, .int .i64 2, .int .i64 0]) ∧ w' = w := by
  rcases h with h | h
  · go_enter Tryd.func73, Tryd.ntmps73
    go_wp2_with fail
    go_ret3
    exact ⟨rfl, rfl⟩
  · go_enter Tryd.func73, Tryd.ntmps73
    go_wp2_with fail
    go_ret3
    exact ⟨rfl, rfl⟩

set_option maxRecDepth 100000 in
theorem read_walk (s : ByteArray) (W : Nat) (w : World) (hs : s.size ≤ 400) (hW1 : 1 ≤ W) (hW : W ≤ 12) :
    Calls Tryd.prog 73 #[.string s, .int .i64 W] w fun e w' => ∃ ao cap, e = .returned (.tuple #[.slice ao (dedup (tRts s W)).length cap, .int .i64 (tErr s W), .int .i64 (tAt s W)]) ∧
      w'.ownsRow w.heap.size 98 2 (.slice ao (dedup (tRts s W)).length cap) (dedup (tRts s W)).length (rc (dedup (tRts s W))) ∧ Below w.heap.size w w' := by
  go_enter Tryd.func73, Tryd.ntmps73
  go_wp2_with fail
  go_loopg [8] (s.size + 1) (fun g x wr => ∃ (p k : Nat) (v : Value) (bad : Bool) (l : List Rt), x = .int .i64 k ∧ p ≤ s.size ∧ k + g ≤ s.size + 1 ∧ l.length ≤ k ∧
    Rd wr w.heap.size s W p v bad ∧ wr.ownsRow (w.heap.size + 1) 98 2 v l.length (rc l) ∧ Below w.heap.size w wr ∧ Hid (bad = true → table s W = (none, p)) ∧
    Hid (bad = false → s.size < g + p ∧ ∃ f acc, s.size < f + p ∧ parse s W f p acc = table s W ∧ l = dedup acc ∧ k = acc.length))
  case atStart =>
    refine ⟨0, 0, .slice none 0 0, false, [], rfl, by omega, by omega, by simp, ?_, World.ownsRow_nil _ _ _ _, (Below.refl _ _).alloc (Nat.le_refl _) _, fun h => by simp at h, fun _ => ⟨by omega, s.size + 1, [], by omega, rfl, rfl, rfl⟩⟩
    exact heap_alloc_new w _
  case round =>
    obtain ⟨p, k, v, bad, l, rfl, hp, hk, hl, hrd, hown, hbel, HB, HG⟩ := hrel
    obtain ⟨c0, c1, c2, c3, c4⟩ := hrd.cells
    cases bad with
    | true =>
      have HT : Hid (table s W = (none, p)) := HB.out rfl
      clear HB HG
      by_cases hlt : p < s.size
      · go_wp2_with fail
        go_quiet (fail)
        go_wp2_with fail
        go_ret3
        obtain ⟨e1, e2, e3⟩ := t_bad hs hW1 hW HT.out
        rw [e1, e2, e3]
        exact ⟨none, 0, ret3 rfl rfl rfl, World.ownsRow_nil _ _ _ _, below_drewN hbel _⟩
      · go_wp2_with fail
        go_quiet (fail)
        go_wp2_with fail
        go_ret3
        obtain ⟨e1, e2, e3⟩ := t_bad hs hW1 hW HT.out
        rw [e1, e2, e3]
        exact ⟨none, 0, ret3 rfl rfl rfl, World.ownsRow_nil _ _ _ _, below_drewN hbel _⟩
    | false =>
      have HG' : Hid (s.size < gk + p ∧ ∃ f acc, s.size < f + p ∧ parse s W f p acc = table s W ∧ l = dedup acc ∧ k = acc.length) := HG.out rfl
      clear HB HG
      by_cases hlt : p < s.size
      · have hbe := bEnd_le s W p hp
        have hgk : 0 < gk := by have := HG'.out.1; omega
        go_wp2_with fail
        refine (rbits_any s w.heap.size W p v _ hs hp hW hrd).mono ?_
        rintro e w1 ⟨rfl, hr1, hg1⟩
        go_wp2_with fail
        refine (eat_32 s w.heap.size W (bEnd s W p, decide (bEnd s W p = p)) v _ hs hr1).mono ?_
        rintro e w2 ⟨rfl, hr2, hg2⟩
        go_wp2_with fail
        refine (rhop_all s w.heap.size W _ v _ hs hr2).mono ?_
        rintro e w3 ⟨rfl, hr3, hg3⟩
        go_wp2_with fail
        refine (eat_10 s w.heap.size W _ v _ hs hr3).mono ?_
        rintro e w4 ⟨rfl, hr4, hg4⟩
        have hg := g_trans hg1 (g_trans hg2 (g_trans hg3 hg4))
        go_wp2_with fail
        refine (put_any s w.heap.size W _ v _ l _ _ _ (by omega) hr4 (own_grown hown hg)).mono ?_
        rintro e w5 ⟨rfl, v5, hr5, ho5, hb5⟩
        go_wp2_with fail
        have hpl := putR_length l (bOf s W p) (lineH s W p)
        have hb5' : Below w.heap.size w w5 := (hbel.trans (g_below hg hbel.size)).trans hb5
        go_roundg (gk - 1)
        case measure => omega
        case rel =>
          obtain ⟨hf1, f, acc, hf2, hpar, hdd, hkl⟩ := HG'.out
          refine ⟨(lineF s W p).1, k + 1, v5, (lineF s W p).2, putR l (bOf s W p) (lineH s W p), int_eq (by omega), ?_, by omega, by omega, hr5, ho5, hb5', ?_, ?_⟩
          · exact eatF_le (by omega) (hopF_le (eatF_le (by omega) hbe.1))
          · intro hb
            cases hbad : lBad s W p with
            | true => rw [lineF_bad hbad]; exact (hpar.symm.trans (parse_bad hf2 hlt hbad))
            | false => rw [(lineF_good hbad).1] at hb; simp at hb
          · intro hb
            cases hbad : lBad s W p with
            | true => rw [lineF_bad hbad] at hb; simp at hb
            | false =>
              have hat := lAt_lt s W p hbad
              rw [(lineF_good hbad).1, (lineF_good hbad).2]
              obtain ⟨f', hf', hst⟩ := parse_step hf2 hlt hbad (acc := acc)
              refine ⟨by simp only []; omega, f', acc ++ [lRt s W p], hf', hst.symm.trans hpar, ?_, by rw [List.length_append, hkl]; rfl⟩
              rw [dedup_snoc, ← hdd]; rfl
      · obtain ⟨hf1, f, acc, hf2, hpar, hdd, hkl⟩ := HG'.out
        have HD : Hid (table s W = (some acc, 0)) := hpar.symm.trans (parse_done hf2 (by omega))
        have HL : Hid (l = dedup acc ∧ k = acc.length) := ⟨hdd, hkl⟩
        clear HG' hf1 hf2 hpar hdd hkl
        by_cases hmany : 24 < k
        · go_wp2_with fail
          go_ret3
          obtain ⟨e1, e2, e3⟩ := t_many hs hW1 hW HD.out (by have := HL.out.2; omega)
          rw [e1, e2, e3]
          exact ⟨none, 0, ret3 rfl rfl rfl, World.ownsRow_nil _ _ _ _, hbel⟩
        · go_wp2_with fail
          go_ret3
          obtain ⟨e1, e2, e3⟩ := t_ok hs hW1 hW HD.out (by have := HL.out.2; omega)
          rw [e1, e2, e3, ← HL.out.1]
          obtain ⟨ao, cap, hv⟩ := own_shape hown
          subst hv
          exact ⟨ao, cap, ret3 rfl rfl rfl, own_base hown (by omega), hbel⟩

theorem read_any (s : ByteArray) (W : Int) (w : World) (hm : s.size ≤ maxLen) :
    Calls Tryd.prog 73 #[.string s, .int .i64 W] w fun e w' => ∃ ao cap, e = .returned (.tuple #[.slice ao (dedup (tRts s W)).length cap, .int .i64 (tErr s W), .int .i64 (tAt s W)]) ∧
      w'.ownsRow w.heap.size 98 2 (.slice ao (dedup (tRts s W)).length cap) (dedup (tRts s W)).length (rc (dedup (tRts s W))) ∧ Below w.heap.size w w' := by
  by_cases h1 : 400 < s.size
  · obtain ⟨e1, e2, e3⟩ := t_long (W := W) h1
    rw [e1, e2, e3]
    refine (read_long s W w hm h1).mono ?_
    rintro e w1 ⟨rfl, rfl⟩
    exact ⟨none, 0, rfl, World.ownsRow_nil _ _ _ _, Below.refl _ _⟩
  by_cases h2 : W < 1 ∨ 12 < W
  · obtain ⟨e1, e2, e3⟩ := t_arg (s := s) (by omega) h2
    rw [e1, e2, e3]
    refine (read_arg s W w (by omega) h2).mono ?_
    rintro e w1 ⟨rfl, rfl⟩
    exact ⟨none, 0, rfl, World.ownsRow_nil _ _ _ _, Below.refl _ _⟩
  obtain ⟨k, rfl⟩ := Int.eq_ofNat_of_zero_le (show 0 ≤ W by omega)
  exact read_walk s k w (by omega) (by omega) (by omega)
end Go.Proofs.YtdfnmpmmkcpddaaDoor
