import Derived.Test.YtdfnmpmmkcpddaaDoorQ19
import Derived.Test.YtdfnmpmmkcpddaaDoorQ15
import Derived.Test.YtdfnmpmmkcpddaaDoorQ09
/- What is printed is the same table: a printed table, read again. -/
namespace Go.Proofs.YtdfnmpmmkcpddaaDoor

/-- The byte at a place, of the bytes as a list. -/
theorem byt_list (s : ByteArray) (k : Nat) : byt s k = match s.data.toList[k]? with | some c => c.toNat | none => 256 := by
  by_cases h : k < s.size
  · have h' : k < s.data.toList.length := h
    rw [byt_in h, List.getElem?_eq_getElem h']
    rfl
  · have h' : s.data.toList.length ≤ k := by show s.size ≤ k; omega
    rw [byt_out h, List.getElem?_eq_none h']
theorem byt_mid {s : ByteArray} {P X Q : List UInt8} {k : Nat} {c : UInt8} (h : s.data.toList = P ++ (X ++ Q)) (hk : X[k]? = some c) : byt s (P.length + k) = c.toNat := by
  have hlt : k < X.length := (List.getElem?_eq_some_iff.1 hk).1
  rw [byt_list, h, List.getElem?_append_right (by omega), show P.length + k - P.length = k from by omega, List.getElem?_append_left hlt, hk]

theorem nbits_is (s : ByteArray) : ∀ (w p n : Nat), n ≤ w → (∀ j, j < n → byt s (p + j) = 48 ∨ byt s (p + j) = 49) → ¬ (byt s (p + n) = 48 ∨ byt s (p + n) = 49) → nbits s w p = n
  | 0, p, n, h, _, _ => by have : n = 0 := by omega
                           rw [this]; rfl
  | w + 1, p, 0, _, _, h3 => by unfold nbits; rw [if_neg (show ¬ (byt s p = 48 ∨ byt s p = 49) from h3)]
  | w + 1, p, n + 1, h1, h2, h3 => by
    unfold nbits
    rw [if_pos (show byt s p = 48 ∨ byt s p = 49 from h2 0 (by omega)), nbits_is s w (p + 1) n (by omega) (fun j hj => by have := h2 (j + 1) (by omega); rwa [show p + (j + 1) = p + 1 + j from by omega] at this) (by rwa [show p + (n + 1) = p + 1 + n from by omega] at h3)]

/-- The digits of a hop. -/
theorem dig1 {h : Nat} (h1 : h < 10) : Lib.decDigits h = [dgt h] := by unfold Lib.decDigits; rw [dif_pos h1]; rfl
theorem dig2 {h : Nat} (h1 : 10 ≤ h) (h2 : h < 100) : Lib.decDigits h = [dgt (h / 10), dgt (h % 10)] := by
  have := dec_step (q := h) (t := []) (by omega)
  rw [if_neg (by omega), List.append_nil, dig1 (by omega)] at this
  exact this.symm
theorem dig3 {h : Nat} (h1 : 100 ≤ h) (h2 : h < 1000) : Lib.decDigits h = [dgt (h / 100), dgt (h / 10 % 10), dgt (h % 10)] := by
  have := dec_step (q := h) (t := []) (by omega)
  rw [if_neg (by omega), List.append_nil, dig2 (by omega) (by omega), show h / 10 / 10 = h / 100 from by omega] at this
  exact this.symm
theorem dgtN {d : Nat} (h : d ≤ 9) : (dgt d).toNat = 48 + d := by have := dgt_toNat h; omega
/-- A hop's digits are read as the hop. -/
theorem hop_read {s : ByteArray} {q h : Nat} (h1 : 1 ≤ h) (h2 : h ≤ 250) (hd : ∀ j c, (Lib.decDigits h)[j]? = some c → byt s (q + j) = c.toNat) (he : byt s (q + (Lib.decDigits h).length) = 10) : hopGo s 3 0 q = (h, q + (Lib.decDigits h).length) := by
  by_cases c1 : h < 10
  · rw [dig1 c1] at hd he ⊢
    have a0 := hd 0 (dgt h) rfl
    rw [dgtN (by omega), Nat.add_zero] at a0
    simp only [List.length_cons, List.length_nil] at he ⊢
    rw [hopGo_step (by omega) (by omega), hopGo_stop (by rw [he]; omega)]
    refine Prod.ext ?_ rfl
    show 10 * 0 + (byt s q - 48) = h
    omega
  · by_cases c2 : h < 100
    · rw [dig2 (by omega) c2] at hd he ⊢
      have a0 := hd 0 (dgt (h / 10)) rfl
      have a1 := hd 1 (dgt (h % 10)) rfl
      rw [dgtN (by omega), Nat.add_zero] at a0
      rw [dgtN (by omega)] at a1
      simp only [List.length_cons, List.length_nil] at he ⊢
      have e1 : 10 * 0 + (byt s q - 48) = h / 10 := by omega
      rw [hopGo_step (by omega) (by omega), e1, hopGo_step (by omega) (by omega), hopGo_stop (by rw [show q + 1 + 1 = q + (0 + 1 + 1) from by omega, he]; omega)]
      refine Prod.ext ?_ ?_
      · show 10 * (h / 10) + (byt s (q + 1) - 48) = h
        omega
      · show q + 1 + 1 = _
        omega
    · rw [dig3 (by omega) (by omega)] at hd he ⊢
      have a0 := hd 0 (dgt (h / 100)) rfl
      have a1 := hd 1 (dgt (h / 10 % 10)) rfl
      have a2 := hd 2 (dgt (h % 10)) rfl
      rw [dgtN (by omega), Nat.add_zero] at a0
      rw [dgtN (by omega)] at a1
      rw [dgtN (by omega)] at a2
      simp only [List.length_cons, List.length_nil] at he ⊢
      have e1 : 10 * 0 + (byt s q - 48) = h / 100 := by omega
      have e2 : 10 * (h / 100) + (byt s (q + 1) - 48) = h / 10 := by omega
      rw [hopGo_step (by omega) (by omega), e1, hopGo_step (by omega) (by omega), e2, hopGo_step (by omega) (by rw [show q + 1 + 1 = q + 2 from rfl]; omega)]
      refine Prod.ext ?_ ?_
      · show 10 * (h / 10) + (byt s (q + 1 + 1) - 48) = h
        rw [show q + 1 + 1 = q + 2 from rfl]; omega
      · show q + 1 + 1 + 1 = _
        omega
/-- What a hop that is read has as digits. -/
theorem hop_len {s : ByteArray} {q : Nat} (h : (hopGo s 3 0 q).1 ≠ 0) : q + (Lib.decDigits (hopGo s 3 0 q).1).length = (hopGo s 3 0 q).2 := by
  by_cases c1 : 48 ≤ byt s q ∧ byt s q ≤ 57 ∧ 1 ≤ 10 * 0 + (byt s q - 48) ∧ 10 * 0 + (byt s q - 48) ≤ 250
  · rw [hopGo_step (by omega) c1] at h ⊢
    obtain ⟨n1, hn1⟩ : ∃ n, 10 * 0 + (byt s q - 48) = n := ⟨_, rfl⟩
    rw [hn1] at h ⊢
    by_cases c2 : 48 ≤ byt s (q + 1) ∧ byt s (q + 1) ≤ 57 ∧ 1 ≤ 10 * n1 + (byt s (q + 1) - 48) ∧ 10 * n1 + (byt s (q + 1) - 48) ≤ 250
    · rw [hopGo_step (by omega) c2] at h ⊢
      obtain ⟨n2, hn2⟩ : ∃ n, 10 * n1 + (byt s (q + 1) - 48) = n := ⟨_, rfl⟩
      rw [hn2] at h ⊢
      by_cases c3 : 48 ≤ byt s (q + 1 + 1) ∧ byt s (q + 1 + 1) ≤ 57 ∧ 1 ≤ 10 * n2 + (byt s (q + 1 + 1) - 48) ∧ 10 * n2 + (byt s (q + 1 + 1) - 48) ≤ 250
      · rw [hopGo_step (by omega) c3]
        show q + (Lib.decDigits (10 * n2 + (byt s (q + 1 + 1) - 48))).length = q + 1 + 1 + 1
        rw [dig3 (by omega) (by omega)]; rfl
      · rw [hopGo_stop c3]
        show q + (Lib.decDigits n2).length = q + 1 + 1
        rw [dig2 (by omega) (by omega)]; rfl
    · rw [hopGo_stop c2]
      show q + (Lib.decDigits n1).length = q + 1
      rw [dig1 (by omega)]; rfl
  · rw [hopGo_stop c1] at h
    exact absurd rfl h

/-- A route as a table's line can have it. -/
structure Plain (W : Nat) (r : Rt) : Prop where
  chars : ∀ c ∈ r.bits.data.toList, c.toNat = 48 ∨ c.toNat = 49
  wide : r.bits.size ≤ W
  hop1 : 1 ≤ r.hop
  hop2 : r.hop ≤ 250
def lineL (r : Rt) : List UInt8 := (bitsOr r.bits).data.toList ++ (32 :: (Lib.decDigits r.hop ++ [10]))
theorem lineB_list (r : Rt) : (lineB r).data.toList = lineL r := by
  unfold lineB lineL decB
  simp [ByteArray.data_append]
def textL (l : List Rt) : List UInt8 := l.flatMap lineL
theorem textB_list (l : List Rt) : (textB l).data.toList = textL l := by
  refine snoc_ind (p := fun l => (textB l).data.toList = textL l) ?_ ?_ l
  · rfl
  · intro l r ih
    rw [textB_snoc, ByteArray.data_append, Array.toList_append, ih, lineB_list]
    simp [textL]

set_option maxRecDepth 4000 in
/-- A line of a printed table is read as its route. -/
theorem line_read {s : ByteArray} {W : Nat} {P Q : List UInt8} {r : Rt} (hr : Plain W r) (h : s.data.toList = P ++ (lineL r ++ Q)) : lBad s W P.length = false ∧ lAt s W P.length = P.length + (lineL r).length - 1 ∧ lRt s W P.length = r := by
  obtain ⟨b, hb⟩ : ∃ b, (bitsOr r.bits).data.toList = b := ⟨_, rfl⟩
  have hl : lineL r = b ++ (32 :: (Lib.decDigits r.hop ++ [10])) := by rw [lineL, hb]
  have hll : (lineL r).length = b.length + (Lib.decDigits r.hop).length + 2 := by rw [hl]; simp; omega
  have hblank : byt s (P.length + b.length) = 32 := by
    have := byt_mid (k := b.length) (c := 32) h (by rw [hl]; simp)
    exact this
  have hdig : ∀ j c, (Lib.decDigits r.hop)[j]? = some c → byt s (P.length + b.length + 1 + j) = c.toNat := by
    intro j c hc
    have hj : j < (Lib.decDigits r.hop).length := (List.getElem?_eq_some_iff.1 hc).1
    have := byt_mid (k := b.length + 1 + j) (c := c) h (by
      rw [hl, List.getElem?_append_right (by omega), show b.length + 1 + j - b.length = j + 1 from by omega, List.getElem?_cons_succ, List.getElem?_append_left hj, hc])
    rwa [show P.length + (b.length + 1 + j) = P.length + b.length + 1 + j from by omega] at this
  have hlf : byt s (P.length + b.length + 1 + (Lib.decDigits r.hop).length) = 10 := by
    have := byt_mid (k := b.length + 1 + (Lib.decDigits r.hop).length) (c := 10) h (by
      rw [hl, List.getElem?_append_right (by omega), show b.length + 1 + (Lib.decDigits r.hop).length - b.length = (Lib.decDigits r.hop).length + 1 from by omega, List.getElem?_cons_succ]
      simp)
    rwa [show P.length + (b.length + 1 + (Lib.decDigits r.hop).length) = P.length + b.length + 1 + (Lib.decDigits r.hop).length from by omega] at this
  have hhop := hop_read hr.hop1 hr.hop2 hdig hlf
  have hsz : s.size = P.length + ((lineL r).length + Q.length) := by
    have := congrArg List.length h
    simpa using this
  have hends : bEnd s W P.length = P.length + b.length ∧ bOf s W P.length = r.bits ∧ 1 ≤ b.length := by
    by_cases he : r.bits = ⟨#[]⟩
    · have hb1 : b = [42] := by rw [← hb, bitsOr, if_pos he]
      have h42 : byt s P.length = 42 := by
        have := byt_mid (k := 0) (c := 42) h (by rw [hl, hb1]; rfl)
        exact this
      unfold bEnd bOf
      rw [if_pos h42, if_pos h42, hb1, he]
      exact ⟨rfl, rfl, by simp⟩
    · have hb1 : b = r.bits.data.toList := by rw [← hb, bitsOr, if_neg he]
      have hbl : b.length = r.bits.size := by rw [hb1]; rfl
      have hpos : 1 ≤ b.length := by
        rw [hbl]
        by_cases hz : r.bits.size = 0
        · exfalso
          apply he
          refine ba_ext ?_
          have : r.bits.data.toList.length = 0 := hz
          rw [List.length_eq_zero_iff.1 this]
        · omega
      have hch : ∀ j, j < b.length → byt s (P.length + j) = 48 ∨ byt s (P.length + j) = 49 := by
        intro j hj
        have e : b[j]? = some b[j] := List.getElem?_eq_getElem hj
        have := byt_mid (k := j) (c := b[j]) h (by rw [hl, List.getElem?_append_left hj, e])
        rw [this]
        exact hr.chars _ (by rw [← hb1]; exact List.getElem_mem hj)
      have hn : nbits s W P.length = b.length := nbits_is s W P.length b.length (by rw [hbl]; exact hr.wide) hch (by rw [hblank]; omega)
      have h0 := hch 0 (by omega)
      rw [Nat.add_zero] at h0
      unfold bEnd bOf
      rw [if_neg (by omega), if_neg (by omega), hn]
      refine ⟨rfl, ?_, hpos⟩
      refine ba_ext ?_
      have e1 : (s.extract P.length (P.length + b.length)).data.toList = (s.data.toList.drop P.length).take b.length := by
        simp [ByteArray.data_extract, List.extract_eq_take_drop]
      rw [e1, h, List.drop_left, hl, List.append_assoc, List.take_left, hb1]
  obtain ⟨e1, e2, e3⟩ := hends
  refine ⟨?_, ?_, ?_⟩
  · unfold lBad
    rw [e1, hhop, decide_eq_false_iff_not]
    simp only []
    rw [hblank, hlf]
    have := hr.hop1
    omega
  · unfold lAt
    rw [e1, hblank, if_neg (by omega), hhop]
    simp only []
    omega
  · unfold lRt
    rw [e1, e2, hhop]
/-- A printed table is read as its routes. -/
theorem parse_text {s : ByteArray} {W : Nat} : ∀ (l : List Rt) (P : List UInt8) (acc : List Rt) (f : Nat), (∀ r ∈ l, Plain W r) → s.data.toList = P ++ textL l → s.size < f + P.length → parse s W f P.length acc = (some (acc ++ l), 0)
  | [], P, acc, f, _, h, hf => by
    have hs : s.size = P.length := by have := congrArg List.length h; simpa [textL] using this
    rw [parse_done hf (by omega), List.append_nil]
  | r :: l, P, acc, f, hp, h, hf => by
    have h' : s.data.toList = P ++ (lineL r ++ textL l) := by rw [h]; simp [textL]
    obtain ⟨g1, g2, g3⟩ := line_read (hp r (by simp)) h'
    have hlen : 2 ≤ (lineL r).length := by unfold lineL; simp; omega
    have hs : s.size = P.length + ((lineL r).length + (textL l).length) := by have := congrArg List.length h'; simpa using this
    obtain ⟨f', hf', e⟩ := parse_step (acc := acc) hf (by omega) g1
    rw [e, g2, g3]
    have := parse_text l (P ++ lineL r) (acc ++ [r]) f' (fun x hx => hp x (by simp [hx])) (by rw [h', List.append_assoc]) (by rw [g2] at hf'; rw [List.length_append]; omega)
    rw [List.length_append] at this
    rw [show P.length + (lineL r).length - 1 + 1 = P.length + (lineL r).length from by omega, this, List.append_assoc]
    rfl
theorem table_text {W : Nat} {l : List Rt} (h : ∀ r ∈ l, Plain W r) : table (textB l) W = (some l, 0) := by
  have := parse_text (s := textB l) (W := W) l [] [] ((textB l).size + 1) h (by rw [textB_list]; rfl) (by simp)
  rw [List.nil_append] at this
  exact this

/-- A table's routes are plain; its text is as long as its lines. -/
theorem parse_plain {s : ByteArray} {W : Nat} (hW : W ≤ 12) : ∀ {f p : Nat} {acc l : List Rt} {q : Nat}, s.size < f + p → p ≤ s.size → parse s W f p acc = (some l, q) → ∃ l', l = acc ++ l' ∧ (∀ r ∈ l', Plain W r) ∧ (textL l').length = s.size - p
  | 0, p, acc, l, q, hf, hp, _ => by omega
  | f + 1, p, acc, l, q, hf, hp, h => by
    unfold parse at h
    split at h
    · rename_i hc
      simp at h
      exact ⟨[], by simp [h.1], by simp, by simp [textL]; omega⟩
    · rename_i hc
      split at h
      · simp at h
      · rename_i hb
        have hok : lBad s W p = false := by simpa using hb
        obtain ⟨hl1, hl2⟩ := lAt_lt s W p hok
        obtain ⟨l', e, k1, k2⟩ := parse_plain hW (by omega) (by omega) h
        have hfit := lRt_fit hW hok
        refine ⟨lRt s W p :: l', by rw [e]; simp, ?_, ?_⟩
        · intro r hr
          rcases List.mem_cons.1 hr with rfl | hr
          · refine ⟨?_, ?_, hfit.2.1, hfit.2.2⟩
            · intro c hc
              change c ∈ (bOf s W p).data.toList at hc
              unfold bOf at hc
              split at hc
              · simp at hc
              · have e1 : (s.extract p (p + nbits s W p)).data.toList = (s.data.toList.drop p).take (nbits s W p) := by
                  simp [ByteArray.data_extract, List.extract_eq_take_drop]
                rw [e1] at hc
                obtain ⟨j, hj, e2⟩ := List.getElem_of_mem hc
                rw [List.length_take] at hj
                have hj2 : j < nbits s W p := by omega
                have a := nbits_at s W p j hj2
                rw [byt_list] at a
                have e3 : s.data.toList[p + j]? = some c := by
                  rw [← e2, List.getElem_take, List.getElem_drop]
                  rw [List.length_drop] at hj
                  exact List.getElem?_eq_getElem (by omega)
                rw [e3] at a
                exact a
            · show (bOf s W p).size ≤ W
              unfold bOf; split
              · exact Nat.zero_le _
              · have := nbits_le s W p
                rw [ByteArray.size_extract]; omega
          · exact k1 r hr
        · have hline : (lineL (lRt s W p)).length = lAt s W p + 1 - p := by
            have hok' := hok
            simp only [lBad, decide_eq_false_iff_not] at hok'
            have hla : lAt s W p = (hopGo s 3 0 (bEnd s W p + 1)).2 := by unfold lAt; rw [if_neg (by omega)]
            have hh := hop_len (s := s) (q := bEnd s W p + 1) (by omega)
            have hbe := bEnd_le s W p (by omega)
            have hbl : (bitsOr (bOf s W p)).data.toList.length = bEnd s W p - p := by
              show (bitsOr (bOf s W p)).size = _
              unfold bOf bEnd
              by_cases h42 : byt s p = 42
              · rw [if_pos h42, if_pos h42, bitsOr, if_pos rfl]
                show 1 = p + 1 - p
                omega
              · rw [if_neg h42, if_neg h42]
                have hnb : nbits s W p ≠ 0 := by
                  intro e0
                  have : bEnd s W p = p := by unfold bEnd; rw [if_neg h42, e0]; rfl
                  omega
                have he := nbits_end s W p (by omega)
                have hsz : (s.extract p (p + nbits s W p)).size = nbits s W p := by rw [ByteArray.size_extract]; omega
                rw [bitsOr, if_neg, hsz]
                · omega
                · intro e0
                  rw [e0] at hsz
                  exact hnb hsz.symm
            unfold lineL
            rw [List.length_append, List.length_cons, List.length_append]
            show (bitsOr (bOf s W p)).data.toList.length + ((Lib.decDigits (hopGo s 3 0 (bEnd s W p + 1)).1).length + 1 + 1) = _
            rw [hbl]
            omega
          show ((lRt s W p :: l').flatMap lineL).length = s.size - p
          rw [List.flatMap_cons, List.length_append, hline]
          change lAt s W p + 1 - p + (textL l').length = s.size - p
          omega
theorem layR_text (x : Rt) : ∀ l : List Rt, (textL (layR l x)).length ≤ (textL l).length + (lineL x).length
  | [] => by simp [layR, textL]
  | r :: l => by
    have ih := layR_text x l
    unfold layR
    split
    · simp only [textL, List.flatMap_cons, List.length_append] at ih ⊢; omega
    · split
      · simp only [textL, List.flatMap_cons, List.length_append]; omega
      · simp only [textL, List.flatMap_cons, List.length_append]; omega
theorem ordR_text (l : List Rt) : (textL (ordR l)).length ≤ (textL l).length := by
  refine snoc_ind (p := fun l => (textL (ordR l)).length ≤ (textL l).length) ?_ ?_ l
  · exact Nat.le_refl _
  · intro l r ih
    have := layR_text r (ordR l)
    rw [ordR_snoc]
    simp only [textL, List.flatMap_append, List.length_append, List.flatMap_cons, List.flatMap_nil, List.append_nil] at this ih ⊢
    omega
theorem ordR_id {l : List Rt} (h : Ord l) : ordR l = l := by
  refine ord_unique (ordR_ord l) h fun r => ?_
  rw [ordR_mem]
  constructor
  · exact lastOf_mem
  · revert h
    refine snoc_ind (p := fun l => Ord l → r ∈ l → lastOf l r.bits = some r.hop) ?_ ?_ l
    · intro _ h; simp at h
    · intro l x ih h hr
      unfold Ord at h
      rw [List.pairwise_append] at h
      rw [lastOf_snoc]
      rcases List.mem_append.1 hr with h1 | h1
      · have := h.2.2 r h1 x (by simp)
        rw [if_neg (fun e => lt_ne this e.symm)]
        exact ih h.1 h1
      · rw [List.mem_singleton] at h1; subst h1; rw [if_pos rfl]
/-- What Print answers, read again: the routes in order. -/
theorem print_read {s : ByteArray} {W : Nat} (h : tErr s W = 0) (hs : s.size ≤ 400) (hW1 : 1 ≤ W) (hW : W ≤ 12) :
    (textB (ordR (tRts s W))).size ≤ s.size ∧ tErr (textB (ordR (tRts s W))) W = 0 ∧ tRts (textB (ordR (tRts s W))) W = ordR (tRts s W) ∧ (tRts s W = [] ↔ s.size = 0) := by
  cases ht : table s W with
  | mk o q =>
    cases o with
    | none => rw [(t_bad hs hW1 hW ht).2.1] at h; omega
    | some l =>
      by_cases hl : 24 < l.length
      · rw [(t_many hs hW1 hW ht hl).2.1] at h; omega
      · rw [(t_ok hs hW1 hW ht hl).1]
        obtain ⟨l', e, k1, k2⟩ := parse_plain hW (by omega) (Nat.zero_le _) ht
        rw [List.nil_append] at e
        subst e
        have hp : ∀ r ∈ ordR l, Plain W r := fun r hr => k1 r (lastOf_mem ((ordR_mem l r).1 hr))
        have hsz : (textB (ordR l)).size ≤ s.size := by
          have h1 := ordR_text l
          have h2 : (textB (ordR l)).size = (textL (ordR l)).length := by rw [← textB_list]; rfl
          omega
        have ht2 := table_text hp
        have hol := ordR_length l
        obtain ⟨g1, g2, _⟩ := t_ok (s := textB (ordR l)) (by omega) hW1 hW ht2 (by omega)
        refine ⟨hsz, g2, g1, ?_⟩
        constructor
        · intro e; rw [e] at k2; simp [textL] at k2; omega
        · intro e
          cases l with
          | nil => rfl
          | cons r l =>
            exfalso
            have : 2 ≤ (lineL r).length := by unfold lineL; simp; omega
            simp only [textL, List.flatMap_cons, List.length_append] at k2
            omega
end Go.Proofs.YtdfnmpmmkcpddaaDoor
/- The plain functions of images: a lookup. -/
namespace Go.Proofs.YtdfnmpmmkcpddaaDoor

/-- The next t bits of an address of W bits, behind the first B, as a number. -/
def slotF (A W B t : Nat) : Nat := A / 2 ^ (W - B - t) % 2 ^ t
/-- The entry that a lookup comes to behind the entry at p, which tells of a node: its place. -/
def nextF (s : ByteArray) (A W p B : Nat) : Nat := entF s (p + b2 s p - 1000) + 2 * (onesF s (p + b2 s p - 1000) (slotF A W B (byt s (p + b2 s p - 1000)) + 1) - 1)
/-- A lookup from the entry at p on, n nodes at most, behind B bits: the hop, the nodes. -/
def lookF (s : ByteArray) (A W : Nat) : Nat → Nat → Nat → Nat × Nat
  | 0, p, _ => (b2 s p, 0)
  | n + 1, p, B => if b2 s p ≤ 250 then (b2 s p, 0) else
      ((lookF s A W n (nextF s A W p B) (B + byt s (p + b2 s p - 1000))).1, (lookF s A W n (nextF s A W p B) (B + byt s (p + b2 s p - 1000))).2 + 1)

/-- The image that begins at a place of bytes; what a lookup answers there. -/
def imgAt (s : ByteArray) (i : Nat) : ByteArray := s.extract i (i + b2 s (i + 4))
def lookE (s : ByteArray) (i A : Int) : Nat :=
  if i < 0 ∨ (s.size : Int) < i then 2 else if (s.size : Int) < i + 10 ∨ s.size < i.toNat + b2 s (i.toNat + 4) then 6 else if imgF (imgAt s i.toNat) = false then 6 else
    if 0 ≤ A ∧ A < ((2 ^ byt (imgAt s i.toNat) 2 : Nat) : Int) then 0 else 2
def lookR (s : ByteArray) (i A : Int) : Nat × Nat :=
  if lookE s i A = 0 then lookF (imgAt s i.toNat) A.toNat (byt (imgAt s i.toNat) 2) (byt (imgAt s i.toNat) 3) 6 0 else (0, 0)

theorem slot_step {A W B i : Nat} (h : B + i + 1 ≤ W) : slotF A W B (i + 1) = 2 * slotF A W B i + A / 2 ^ (W - 1 - (B + i)) % 2 := by
  unfold slotF
  rw [show 2 ^ (i + 1) = 2 * 2 ^ i from by rw [Nat.pow_succ, Nat.mul_comm], Nat.mod_mul, Nat.div_div_eq_div_mul, ← Nat.pow_succ, show (W - B - (i + 1)).succ = W - B - i from by omega, show W - B - (i + 1) = W - 1 - (B + i) from by omega]
  omega
theorem slot_lt (A W B t : Nat) : slotF A W B t < 2 ^ t := Nat.mod_lt _ (Nat.pow_pos (by omega))

theorem lowb_get (A : Nat) : ∀ (W k : Nat), k < W → (lowb A W)[k]? = some (dg (A / 2 ^ (W - 1 - k) % 2))
  | W + 1, 0, _ => by simp [lowb]
  | W + 1, k + 1, h => by
    rw [lowb, List.getElem?_cons_succ, lowb_get A W k (by omega), show W + 1 - 1 - (k + 1) = W - 1 - k from by omega]
theorem addr_byt {A W k : Nat} (h : k < W) : byt (addr A W) k = 48 + A / 2 ^ (W - 1 - k) % 2 := by
  have hk : k < (addr A W).size := by rw [addr_size]; exact h
  rw [byt_in hk]
  have h1 := lowb_get A W k h
  have h2 : (addr A W)[k] = dg (A / 2 ^ (W - 1 - k) % 2) := by
    have h3 : (lowb A W)[k]'(by rw [lowb_length]; exact h) = dg (A / 2 ^ (W - 1 - k) % 2) := by
      rw [List.getElem?_eq_getElem (by rw [lowb_length]; exact h)] at h1; exact Option.some.inj h1
    have h4 : (addr A W)[k] = (lowb A W).toArray[k]'(by simp [lowb_length]; exact h) := rfl
    rw [h4, List.getElem_toArray, h3]
  rw [h2]
  have := dg_toNat (d := A / 2 ^ (W - 1 - k) % 2) (by omega)
  omega

theorem onesF_mono (s : ByteArray) (p : Nat) {a b : Nat} (h : a ≤ b) : onesF s p a ≤ onesF s p b := by
  induction b with
  | zero => have : a = 0 := by omega
            subst this; exact Nat.le_refl _
  | succ b ih =>
    by_cases e : a = b + 1
    · subst e; exact Nat.le_refl _
    · have := ih (by omega)
      rw [onesF]; split <;> omega
theorem onesF_pos {s : ByteArray} {p j : Nat} (h : setF s p 0 = true) : 1 ≤ onesF s p (j + 1) := by
  have h1 : onesF s p 1 = 1 := by simp [onesF, h]
  have := onesF_mono s p (show 1 ≤ j + 1 by omega)
  omega
theorem nodeF_set {s : ByteArray} {p e b : Nat} (h : nodeF s p e b = true) : setF s p 0 = true ∧ entF s p ≤ e := by
  simp only [nodeF, Bool.and_eq_true, decide_eq_true_eq] at h
  exact ⟨h.1.1.2, h.1.1.1.2⟩
theorem byt_extract {s : ByteArray} {i n k : Nat} (h : i + n ≤ s.size) (hk : k < n) : byt (s.extract i (i + n)) k = byt s (i + k) := by
  have h1 : k < (s.extract i (i + n)).size := by rw [ByteArray.size_extract]; omega
  rw [byt_in h1, byt_in (s := s) (k := i + k) (by omega)]
  congr 1
  show (s.extract i (i + n)).data[k]'h1 = s.data[i + k]'(by show i + k < s.size; omega)
  simp [ByteArray.data_extract]
theorem imgAt_size {s : ByteArray} {i : Nat} (h : i + b2 s (i + 4) ≤ s.size) : (imgAt s i).size = b2 s (i + 4) := by
  unfold imgAt; rw [ByteArray.size_extract]; omega
end Go.Proofs.YtdfnmpmmkcpddaaDoor
