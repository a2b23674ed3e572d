import Derived.Test.YtdfnmpmmkcpddaaDoorQ30
import Derived.Test.YtdfnmpmmkcpddaaDoorQ25
/- An image that holds a table's tree is as P7 asks. -/
namespace Go.Proofs.YtdfnmpmmkcpddaaDoor

theorem imgF_of {m : ByteArray} {W n : Nat} (h10 : 10 ≤ m.size) (h0 : byt m 0 = 70) (h1 : byt m 1 = 73) (h2 : byt m 2 = W) (h3 : byt m 3 = n) (h4 : b2 m 4 = m.size) (hW1 : 1 ≤ W) (hW : W ≤ 12) (hn : n ≤ W) (hs : sumF m (m.size - 2) = b2 m (m.size - 2)) (hg : goodF m (m.size - 2) n 6 W = true) : imgF m = true := by
  unfold imgF
  simp only [Bool.and_eq_true, decide_eq_true_eq]
  rw [h2, h3]
  exact ⟨⟨⟨⟨⟨h10, h0, h1⟩, h4⟩, hW1, hW, hn⟩, hs⟩, hg⟩
theorem ord_bits {s : ByteArray} {W : Nat} (h : tErr s W = 0) (hs : s.size ≤ 400) (hW1 : 1 ≤ W) (hW : W ≤ 12) : Bits (ordR (tRts s W)) := by
  cases ht : table s W with
  | mk o q =>
    cases o with
    | none => rw [(t_bad hs hW1 hW ht).2.1] at h; omega
    | some l =>
      by_cases hl : 24 < l.length
      · rw [(t_many hs hW1 hW ht hl).2.1] at h; omega
      · rw [(t_ok hs hW1 hW ht hl).1]
        obtain ⟨l', e, k1, _⟩ := parse_plain hW (by omega) (Nat.zero_le _) ht
        rw [List.nil_append] at e
        subst e
        intro r hr
        exact (k1 r (lastOf_mem ((ordR_mem l r).1 hr))).chars
/-- The tree of a table has at most its cost of slots. -/
theorem tree_cost {s : ByteArray} {W D : Nat} {ch : Nat → ByteArray → Nat} (he : prE s W D = 0) (hL : Least (ordR (tRts s W)) ch) : (slotsT (treeF (ordR (tRts s W)) ch D ⟨#[]⟩) : Int) = prC s W D := by
  obtain ⟨h1, h2, h3⟩ := prE_zero he
  obtain ⟨hs, hW1, hW2, _⟩ := t_zero h1
  rw [tab_prC he, Int.toNat_natCast, tabC]
  by_cases h0 : heightF (ordR (tRts s W)) ⟨#[]⟩ = 0
  · rw [if_pos h0, treeF_leaf h0]; rfl
  · rw [if_neg h0]
    exact tree_slots (ord_bits h1 hs (by omega) (by omega)) hL D _ (by omega) (by omega)
theorem comp_of {s m : ByteArray} {W D n : Nat} {ch : Nat → ByteArray → Nat} (he : prE s W D = 0) (hL : Least (ordR (tRts s W)) ch) (h10 : 10 ≤ m.size) (h0 : byt m 0 = 70) (h1 : byt m 1 = 73) (h2 : byt m 2 = W) (h3 : byt m 3 = n) (h4 : b2 m 4 = m.size) (hn : n ≤ D)
    (hs : sumF m (m.size - 2) = b2 m (m.size - 2)) (hfit : FitT (treeF (ordR (tRts s W)) ch D ⟨#[]⟩) W n) (henc : Enc m (m.size - 2) (treeF (ordR (tRts s W)) ch D ⟨#[]⟩) 6) (hb : m.size ≤ 10 + bytesT (treeF (ordR (tRts s W)) ch D ⟨#[]⟩)) : Comp s W D m := by
  obtain ⟨e1, e2, e3⟩ := prE_zero he
  obtain ⟨hsz, hW1, hW2, _⟩ := t_zero e1
  have hg := enc_good _ 6 W n henc hfit
  have himg := imgF_of h10 h0 h1 h2 h3 h4 (by omega) (by omega) (by omega) hs hg
  have hc := tree_cost he hL
  have hF : ∀ r ∈ ordR (tRts s W), r.bits.size ≤ W := fun r hr => (long_iff e1 hsz (by omega) (by omega)).2 r (lastOf_mem ((ordR_mem _ r).1 hr))
  refine ⟨himg, h2, by omega, ?_, ?_, ?_⟩
  · have := bytes_slots _ _ _ hfit
    omega
  · rw [h3, enc_slots _ 6 W n henc hfit, hc]; exact Int.le_refl _
  · intro A hA0 hA1
    have hz : (⟨#[]⟩ : ByteArray).size = 0 := rfl
    have hl : lookE m 0 A = 0 := look_self himg hA0 (by rw [h2]; exact hA1)
    unfold lookR
    rw [if_pos hl, show (0 : Int).toNat = 0 from rfl, imgAt_self h4, h2, h3, enc_look _ 6 W n 0 henc hfit]
    have := tree_look (A := A.toNat) (W := W) hF hL D ⟨#[]⟩ (pre_iff.2 List.nil_prefix) (.inr (by omega))
    rw [hz] at this
    rw [this, best_ord]
end Go.Proofs.YtdfnmpmmkcpddaaDoor
/- The program's image is as P7 asks. -/
namespace Go.Proofs.YtdfnmpmmkcpddaaDoor

theorem sum_app (a b : ByteArray) : ∀ n, n ≤ a.size → sumF (a ++ b) n = sumF a n
  | 0, _ => rfl
  | n + 1, h => by rw [sumF, sumF, sum_app a b n (by omega), byt_left (by omega)]
theorem body_size (R : List Rt) (W D : Nat) : (bodyF R W D).size = 8 + (tgF R D ⟨#[]⟩).m.size := by
  have h := layF_size [tgF R D ⟨#[]⟩]
  have e : (layN [tgF R D ⟨#[]⟩]).size = (tgF R D ⟨#[]⟩).m.size := by simp only [layN, ByteArray.size_append]; rfl
  have h2 : (⟨#[70, 73]⟩ : ByteArray).size = 2 := rfl
  rw [e] at h
  simp only [List.length_cons, List.length_nil] at h
  unfold bodyF
  rw [ByteArray.size_append, ByteArray.size_append, ByteArray.size_append, ByteArray.size_append, o1_size, o1_size, u2_size, h2, h]
  omega
theorem cF_size (R : List Rt) (W D : Nat) : (cF R W D).size = 10 + (tgF R D ⟨#[]⟩).m.size := by
  unfold cF; rw [ByteArray.size_append, u2_size, body_size]; omega
theorem cF_comp {s : ByteArray} {W D : Nat} (he : prE s W D = 0) : Comp s W D (cF (ordR (tRts s W)) W D) := by
  obtain ⟨e1, e2, e3⟩ := prE_zero he
  obtain ⟨hsz, hW1, hW2, _⟩ := t_zero e1
  have hB := ord_bits e1 hsz (by omega) (by omega)
  have hS : ∀ r ∈ ordR (tRts s W), r.bits.size ≤ 12 := fun r hr => (ordR_fit (tRts_fit s W) r hr).1
  have hH : ∀ r ∈ ordR (tRts s W), r.hop ≤ 250 := fun r hr => (ordR_fit (tRts_fit s W) r hr).2.2
  have hF : ∀ r ∈ ordR (tRts s W), r.bits.size ≤ W := fun r hr => (long_iff e1 hsz (by omega) (by omega)).2 r (lastOf_mem ((ordR_mem _ r).1 hr))
  obtain ⟨R, hR⟩ : ∃ R, ordR (tRts s W) = R := ⟨_, rfl⟩
  have hL : Least (ordR (tRts s W)) (chF R) := by rw [hR] at hS ⊢; exact ch_least hS
  rw [hR] at hB hS hH hF
  have hLR := ch_least hS
  have hfit := fit_depth _ _ _ (tree_fit hF hH hLR D ⟨#[]⟩)
  have hby := tg_bytes (R := R) D ⟨#[]⟩
  have hsm := tg_small hB hS hH D ⟨#[]⟩
  have hdp := tg_depth (R := R) D ⟨#[]⟩
  have hbs := body_size R W D
  have hcs := cF_size R W D
  have hz : (⟨#[]⟩ : ByteArray).size = 0 := rfl
  have hls := layF_size [tgF R D ⟨#[]⟩]
  have hln : (layN [tgF R D ⟨#[]⟩]).size = (tgF R D ⟨#[]⟩).m.size := by simp only [layN, ByteArray.size_append]; rfl
  rw [hln] at hls
  simp only [List.length_cons, List.length_nil] at hls
  rw [hz, Nat.sub_zero] at hfit
  have a0 : At (cF R W D) 0 (bodyF R W D) := At.left (At.self _)
  have aS : At (cF R W D) (0 + (bodyF R W D).size) (u2 (sumF (bodyF R W D) (bodyF R W D).size)) := At.right (At.self _)
  have aR := At.right a0
  have a1 := At.left a0
  have aL := At.right a1
  have a2 := At.left a1
  have aD := At.right a2
  have a3 := At.left a2
  have aW := At.right a3
  have aF := At.left a3
  have h2 : (⟨#[70, 73]⟩ : ByteArray).size = 2 := rfl
  simp only [ByteArray.size_append, o1_size, u2_size, h2, Nat.zero_add, Nat.reduceAdd] at aR aL aD aW aF aS
  have f0 : byt (cF R W D) 0 = 70 := (aF 0 (by rw [h2]; omega)).trans rfl
  have f1 : byt (cF R W D) 1 = 73 := (aF 1 (by rw [h2]; omega)).trans rfl
  have f2 : byt (cF R W D) 2 = W := At.one aW (by omega)
  have f3 : byt (cF R W D) 3 = depthT (treeF R (chF R) D ⟨#[]⟩) := by rw [At.one aD (by omega), hdp]
  have f4 : b2 (cF R W D) 4 = (cF R W D).size := by rw [At.two aL (by omega)]; omega
  have fs : sumF (cF R W D) ((cF R W D).size - 2) = b2 (cF R W D) ((cF R W D).size - 2) := by
    have hlt := sumF_lt (bodyF R W D) (bodyF R W D).size
    rw [show (cF R W D).size - 2 = (bodyF R W D).size from by omega, At.two aS (by omega), cF, sum_app _ _ _ (Nat.le_refl _)]
  have hE : Enc (cF R W D) ((cF R W D).size - 2) (treeF R (chF R) D ⟨#[]⟩) 6 := by
    refine tg_enc hB hS hH D ⟨#[]⟩ 6 ?_
    exact lay_holds (i := 0) aR (by omega) (by omega) (fun x hx => by rw [List.mem_singleton.1 hx]; exact tg_hop hH D _) rfl
  have := comp_of (s := s) (m := cF R W D) (W := W) (D := D) (n := depthT (treeF R (chF R) D ⟨#[]⟩)) (ch := chF R) he hL (by omega) f0 f1 f2 f3 f4 (by omega) fs
  rw [hR] at this
  rw [hR]
  exact this hfit.1 hE (by omega)
end Go.Proofs.YtdfnmpmmkcpddaaDoor
