import Derived.Test.YtdfnmpmmkcpddaaDoorQ34
import Derived.Test.YtdfnmpmmkcpddaaDoorQ32
import Derived.Test.YtdfnmpmmkcpddaaDoorQ13
import Derived.Test.YtdfnmpmmkcpddaaDoorQ31
/- Print: the law's step. -/
namespace Go.Proofs.YtdfnmpmmkcpddaaDoor
open Go.RowKit

theorem tables_print (W D L A : Int) (s : ByteArray) (w : World) (hm : s.size ≤ maxLen) (hE : Env w) :
    Calls Tryd.prog 31 #[opV 2 W D L A s] w fun e w' => e = .returned (.bool true) ∧ Below w.heap.size w w' := by
  unfold opV
  go_enter Tryd.func31, Tryd.ntmps31
  go_wp2_with fail
  refine (print_any s W _ hm (hE.alloc _)).mono ?_
  rintro e w1 ⟨rfl, hb1⟩
  obtain ⟨hc, _⟩ := bcell hb1
  have hz : w.heap.size < w1.heap.size := by have := hb1.size; simp at this; omega
  go_wp2_with fail
  refine (rprint_any s W _ hm).mono ?_
  rintro e w2 ⟨rfl, hb2⟩
  go_wp2_with (go_at_call 25; refine (num_any _ _).mono ?_; rintro e w3 ⟨rfl, rfl⟩)
  go_ret
  refine ⟨rfl, ?_⟩
  have h1 : Below w.heap.size w w1 := ((Below.refl _ _).alloc (Nat.le_refl _) _).trans (hb1.mono (by simp))
  exact h1.trans (hb2.mono (by omega))

theorem plays_print : Plays 2 2 := by
  intro k W D L A s w h1 h2 hm _ _ _ _ hE
  obtain rfl : k = 2 := by omega
  exact plays_tab 2 W D L A s w (.inr (.inl rfl)) hE fun w hE => tables_print W D L A s w hm hE

theorem prints_any (ao : Option Addr) (len cap : Nat) (w : World) (hs : Script w ao len) (hE : Env w) :
    Calls Tryd.prog 4 #[.slice ao len cap] w fun e w' => e = .returned (.bool true) ∧ Below w.heap.size w w' := by
  have HS : Hid (Script w ao len) := hs
  clear hs
  go_enter Tryd.func4, Tryd.ntmps4
  go_wp2_with fail
  refine (upTo_any 2 2 ao len cap _ plays_print hE HS.out).mono ?_
  rintro e w1 ⟨rfl, hb1⟩
  go_wp2_with fail
  go_ret
  exact ⟨rfl, hb1⟩
end Go.Proofs.YtdfnmpmmkcpddaaDoor
/- Compiles and All: the laws. -/
namespace Go.Proofs.YtdfnmpmmkcpddaaDoor
open Go.RowKit

theorem compiles_any (ao : Option Addr) (len cap : Nat) (w : World) (hs : Script w ao len) (hE : Env w) :
    Calls Tryd.prog 10 #[.slice ao len cap] w fun e w' => e = .returned (.bool true) ∧ Below w.heap.size w w' := by
  have HS : Hid (Script w ao len) := hs
  clear hs
  go_enter Tryd.func10, Tryd.ntmps10
  go_wp2_with fail
  refine (upTo_any 5 5 ao len cap _ (plays_compile comp_fib) hE HS.out).mono ?_
  rintro e w1 ⟨rfl, hb1⟩
  go_wp2_with fail
  go_ret
  exact ⟨rfl, hb1⟩
theorem all_any (ao : Option Addr) (len cap : Nat) (w : World) (hs : Script w ao len) (hE : Env w) :
    Calls Tryd.prog 14 #[.slice ao len cap] w fun e w' => e = .returned (.bool true) ∧ Below w.heap.size w w' := by
  have HS : Hid (Script w ao len) := hs
  clear hs
  go_enter Tryd.func14, Tryd.ntmps14
  go_wp2_with fail
  refine (upTo_any 1 7 ao len cap _ (plays_all comp_fib plays_print plays_find) hE HS.out).mono ?_
  rintro e w1 ⟨rfl, hb1⟩
  go_wp2_with fail
  go_ret
  exact ⟨rfl, hb1⟩
end Go.Proofs.YtdfnmpmmkcpddaaDoor
/- The program's image: its size, its lookups' nodes. -/
namespace Go.Proofs.YtdfnmpmmkcpddaaDoor

theorem cF_enc {s : ByteArray} {W D : Nat} (he : prE s W D = 0) : ∃ n, n ≤ D ∧ byt (cF (ordR (tRts s W)) W D) 2 = W ∧ byt (cF (ordR (tRts s W)) W D) 3 = n ∧ b2 (cF (ordR (tRts s W)) W D) 4 = (cF (ordR (tRts s W)) W D).size ∧ (cF (ordR (tRts s W)) W D).size ≤ 20490 ∧ 10 ≤ (cF (ordR (tRts s W)) W D).size ∧ FitT (treeF (ordR (tRts s W)) (chF (ordR (tRts s W))) D ⟨#[]⟩) W n ∧ Enc (cF (ordR (tRts s W)) W D) ((cF (ordR (tRts s W)) W D).size - 2) (treeF (ordR (tRts s W)) (chF (ordR (tRts s W))) D ⟨#[]⟩) 6 := by
  obtain ⟨e1, e2, e3⟩ := prE_zero he
  obtain ⟨hsz, hW1, hW2, _⟩ := t_zero e1
  have hB := ord_bits e1 hsz (by omega) (by omega)
  have hS : ∀ r ∈ ordR (tRts s W), r.bits.size ≤ 12 := fun r hr => (ordR_fit (tRts_fit s W) r hr).1
  have hH : ∀ r ∈ ordR (tRts s W), r.hop ≤ 250 := fun r hr => (ordR_fit (tRts_fit s W) r hr).2.2
  have hF : ∀ r ∈ ordR (tRts s W), r.bits.size ≤ W := fun r hr => (long_iff e1 hsz (by omega) (by omega)).2 r (lastOf_mem ((ordR_mem _ r).1 hr))
  obtain ⟨R, hR⟩ : ∃ R, ordR (tRts s W) = R := ⟨_, rfl⟩
  rw [hR] at hB hS hH hF
  have hLR := ch_least hS
  have hfit := fit_depth _ _ _ (tree_fit hF hH hLR D ⟨#[]⟩)
  have hby := tg_bytes (R := R) D ⟨#[]⟩
  have hsm := tg_small hB hS hH D ⟨#[]⟩
  have hdp := tg_depth (R := R) D ⟨#[]⟩
  have hbs := body_size R W D
  have hcs := cF_size R W D
  have hz : (⟨#[]⟩ : ByteArray).size = 0 := rfl
  have hls := layF_size [tgF R D ⟨#[]⟩]
  have hln : (layN [tgF R D ⟨#[]⟩]).size = (tgF R D ⟨#[]⟩).m.size := by simp only [layN, ByteArray.size_append]; rfl
  rw [hln] at hls
  simp only [List.length_cons, List.length_nil] at hls
  rw [hz, Nat.sub_zero] at hfit
  have a0 : At (cF R W D) 0 (bodyF R W D) := At.left (At.self _)
  have aS : At (cF R W D) (0 + (bodyF R W D).size) (u2 (sumF (bodyF R W D) (bodyF R W D).size)) := At.right (At.self _)
  have aR := At.right a0
  have a1 := At.left a0
  have aL := At.right a1
  have a2 := At.left a1
  have aD := At.right a2
  have a3 := At.left a2
  have aW := At.right a3
  have aF := At.left a3
  have h2 : (⟨#[70, 73]⟩ : ByteArray).size = 2 := rfl
  simp only [ByteArray.size_append, o1_size, u2_size, h2, Nat.zero_add, Nat.reduceAdd] at aR aL aD aW aF aS
  have f0 : byt (cF R W D) 0 = 70 := (aF 0 (by rw [h2]; omega)).trans rfl
  have f1 : byt (cF R W D) 1 = 73 := (aF 1 (by rw [h2]; omega)).trans rfl
  have f2 : byt (cF R W D) 2 = W := At.one aW (by omega)
  have f3 : byt (cF R W D) 3 = depthT (treeF R (chF R) D ⟨#[]⟩) := by rw [At.one aD (by omega), hdp]
  have f4 : b2 (cF R W D) 4 = (cF R W D).size := by rw [At.two aL (by omega)]; omega
  have hE : Enc (cF R W D) ((cF R W D).size - 2) (treeF R (chF R) D ⟨#[]⟩) 6 := by
    refine tg_enc hB hS hH D ⟨#[]⟩ 6 ?_
    exact lay_holds (i := 0) aR (by omega) (by omega) (fun x hx => by rw [List.mem_singleton.1 hx]; exact tg_hop hH D _) rfl
  rw [hR]
  exact ⟨depthT (treeF R (chF R) D ⟨#[]⟩), by omega, f2, f3, f4, by omega, by omega, hfit.1, hE⟩
/-- A lookup is the tree's. -/
theorem cF_look {s : ByteArray} {W D : Nat} (he : prE s W D = 0) {A : Int} (h0 : 0 ≤ A) (h1 : A < ((2 ^ W : Nat) : Int)) : lookR (cF (ordR (tRts s W)) W D) 0 A = lookT A.toNat W (treeF (ordR (tRts s W)) (chF (ordR (tRts s W))) D ⟨#[]⟩) 0 ∧ (lookR (cF (ordR (tRts s W)) W D) 0 A).2 ≤ D := by
  obtain ⟨n, hn, f2, f3, f4, _, _, hfit, henc⟩ := cF_enc he
  have hg := (cF_comp he).good
  obtain ⟨m, hm⟩ : ∃ m, cF (ordR (tRts s W)) W D = m := ⟨_, rfl⟩
  rw [hm] at f2 f3 f4 henc hg ⊢
  have hl : lookE m 0 A = 0 := look_self hg h0 (by rw [f2]; exact h1)
  have e : lookR m 0 A = lookT A.toNat W (treeF (ordR (tRts s W)) (chF (ordR (tRts s W))) D ⟨#[]⟩) 0 := by
    unfold lookR
    rw [if_pos hl, show (0 : Int).toNat = 0 from rfl, imgAt_self f4, f2, f3, enc_look _ 6 W n 0 henc hfit]
  refine ⟨e, ?_⟩
  rw [e]
  have := lookT_nodes (A := A.toNat) (W := W) _ _ _ 0 hfit
  omega
theorem cF_err {s : ByteArray} {W D : Nat} (he : prE s W D = 0) (A : Int) : lookE (cF (ordR (tRts s W)) W D) 0 A = if 0 ≤ A ∧ A < ((2 ^ W : Nat) : Int) then 0 else 2 := by
  obtain ⟨n, hn, f2, f3, f4, _, h10, _, _⟩ := cF_enc he
  have hg := (cF_comp he).good
  obtain ⟨m, hm⟩ : ∃ m, cF (ordR (tRts s W)) W D = m := ⟨_, rfl⟩
  rw [hm] at f2 f4 hg h10 ⊢
  unfold lookE
  rw [if_neg (by omega), if_neg (by rw [show (0 : Int).toNat = 0 from rfl, show b2 m (0 + 4) = m.size from f4]; omega), show (0 : Int).toNat = 0 from rfl, imgAt_self f4, if_neg (by rw [hg]; simp), f2]
theorem look_none {s : ByteArray} {i A : Int} (h : lookE s i A ≠ 0) : lookR s i A = (0, 0) := by unfold lookR; rw [if_neg h]
/-- With a limit that no image comes to. -/
theorem cmp_plenty {s : ByteArray} {W D : Nat} (he : prE s W D = 0) : cmpE cF s W D 1099511627776 = 0 ∧ cmpS cF s W D 1099511627776 = cF (ordR (tRts s W)) W D := by
  obtain ⟨n, _, _, _, _, h1, _, _, _⟩ := cF_enc he
  have e1 : cmpE cF s W D 1099511627776 = 0 := by
    unfold cmpE
    rw [if_pos he, Int.toNat_natCast, Int.toNat_natCast, if_neg (by omega)]
  refine ⟨e1, ?_⟩
  unfold cmpS
  rw [if_pos e1, Int.toNat_natCast, Int.toNat_natCast]
theorem cmp_bad {s : ByteArray} {W D : Int} (he : prE s W D ≠ 0) (L : Int) : cmpE cF s W D L = prE s W D ∧ cmpS cF s W D L = ⟨#[]⟩ := by
  have e1 : cmpE cF s W D L = prE s W D := by unfold cmpE; rw [if_neg he]
  exact ⟨e1, by unfold cmpS; rw [e1, if_neg he]⟩
end Go.Proofs.YtdfnmpmmkcpddaaDoor
