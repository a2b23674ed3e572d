import Derived.Test.YtdfnmpmmkcpddaaDoorQ23
/- A tree that an image holds: whatever bytes hold a tree are good, have its slots, and are looked up as it is. -/
namespace Go.Proofs.YtdfnmpmmkcpddaaDoor

/-- A tree: a hop, or a node with a stride and its slots' trees. -/
inductive Tr where
  | leaf (h : Nat)
  | node (s : Nat) (kid : Nat → Tr)
/-- The sum over the first n numbers. -/
def sumN (g : Nat → Nat) : Nat → Nat
  | 0 => 0
  | n + 1 => sumN g n + g n
theorem sumN_congr {g f : Nat → Nat} : ∀ {n : Nat}, (∀ j, j < n → g j = f j) → sumN g n = sumN f n
  | 0, _ => rfl
  | n + 1, h => by rw [sumN, sumN, sumN_congr fun j hj => h j (by omega), h n (by omega)]
def slotsT : Tr → Nat
  | .leaf _ => 0
  | .node s kid => 2 ^ s + sumN (fun j => slotsT (kid j)) (2 ^ s)
/-- A lookup of an address of W bits, behind the first B. -/
def lookT (A W : Nat) : Tr → Nat → Nat × Nat
  | .leaf h, _ => (h, 0)
  | .node s kid, B => ((lookT A W (kid (slotF A W B s)) (B + s)).1, (lookT A W (kid (slotF A W B s)) (B + s)).2 + 1)
/-- The tree has at most b bits and n nodes on a way; its hops are hops. -/
def FitT : Tr → Nat → Nat → Prop
  | .leaf h, _, _ => h ≤ 250
  | .node s kid, b, n => 1 ≤ n ∧ 1 ≤ s ∧ s ≤ b ∧ ∀ j, j < 2 ^ s → FitT (kid j) (b - s) (n - 1)
/-- The entry at p holds the tree; all lies ahead of e. -/
def Enc (m : ByteArray) (e : Nat) : Tr → Nat → Prop
  | .leaf h, p => b2 m p = h
  | .node s kid, p => 1002 ≤ b2 m p ∧ byt m (p + b2 m p - 1000) = s ∧ nodeF m (p + b2 m p - 1000) e s = true ∧
      ∀ j, j < 2 ^ s → Enc m e (kid j) (entF m (p + b2 m p - 1000) + 2 * (onesF m (p + b2 m p - 1000) (j + 1) - 1))

theorem nodeF_wider {m : ByteArray} {q e b b' : Nat} (h : nodeF m q e b = true) (hb : byt m q ≤ b') : nodeF m q e b' = true := by
  simp only [nodeF, Bool.and_eq_true, decide_eq_true_eq] at h ⊢
  obtain ⟨⟨⟨⟨⟨h1, h2⟩, h3⟩, h5⟩, h6⟩, h4⟩ := h
  exact ⟨⟨⟨⟨⟨h1, ⟨h2.1, hb⟩⟩, h3⟩, h5⟩, h6⟩, h4⟩
/-- Every entry is some slot's. -/
theorem ones_slot {m : ByteArray} {q : Nat} : ∀ {N i : Nat}, i < onesF m q N → ∃ j, j < N ∧ onesF m q (j + 1) - 1 = i
  | 0, i, h => by simp [onesF] at h
  | N + 1, i, h => by
    by_cases c : i < onesF m q N
    · obtain ⟨j, h1, h2⟩ := ones_slot c
      exact ⟨j, by omega, h2⟩
    · refine ⟨N, by omega, ?_⟩
      have : onesF m q (N + 1) ≤ onesF m q N + 1 := by rw [onesF]; split <;> omega
      omega
theorem enc_good {m : ByteArray} {e : Nat} : ∀ (T : Tr) (p b n : Nat), Enc m e T p → FitT T b n → goodF m e n p b = true := by
  intro T
  induction T with
  | leaf h =>
    intro p b n h1 h2
    exact goodF_hop (by have : b2 m p = h := h1
                        have : h ≤ 250 := h2
                        omega) n
  | node s kid ih =>
    intro p b n h1 h2
    obtain ⟨a1, a2, a3, a4⟩ := h1
    obtain ⟨c1, c2, c3, c4⟩ := h2
    obtain ⟨n, rfl⟩ : ∃ k, n = k + 1 := ⟨n - 1, by omega⟩
    rw [goodF]
    simp only [Bool.or_eq_true, decide_eq_true_eq, Bool.and_eq_true, List.all_eq_true, List.mem_range]
    right
    refine ⟨⟨a1, nodeF_wider a3 (by omega)⟩, ?_⟩
    rw [a2]
    intro i hi
    obtain ⟨j, hj, e1⟩ := ones_slot hi
    rw [← e1]
    exact ih j _ _ _ (a4 j hj) (c4 j hj)
theorem slSum_eq {m : ByteArray} {q : Nat} {g f : Nat → Nat} : ∀ {n : Nat}, (∀ j, j < n → g (onesF m q (j + 1) - 1) = f j) → slSum g m q n = sumN f n
  | 0, _ => rfl
  | n + 1, h => by rw [slSum, sumN, slSum_eq fun j hj => h j (by omega), h n (by omega)]
theorem enc_slots {m : ByteArray} {e : Nat} : ∀ (T : Tr) (p b n : Nat), Enc m e T p → FitT T b n → slotsF m n p = slotsT T := by
  intro T
  induction T with
  | leaf h =>
    intro p b n h1 h2
    exact slots_hop (by have : b2 m p = h := h1
                        have : h ≤ 250 := h2
                        omega) n
  | node s kid ih =>
    intro p b n h1 h2
    obtain ⟨a1, a2, a3, a4⟩ := h1
    obtain ⟨c1, c2, c3, c4⟩ := h2
    obtain ⟨n, rfl⟩ : ∃ k, n = k + 1 := ⟨n - 1, by omega⟩
    rw [slotsF, if_neg (by omega), slotsT, a2]
    congr 1
    exact slSum_eq fun j hj => ih j _ _ _ (a4 j hj) (c4 j hj)
theorem enc_look {m : ByteArray} {e A W : Nat} : ∀ (T : Tr) (p b n B : Nat), Enc m e T p → FitT T b n → lookF m A W n p B = lookT A W T B := by
  intro T
  induction T with
  | leaf h =>
    intro p b n B h1 h2
    have e1 : b2 m p = h := h1
    have e2 : h ≤ 250 := h2
    rw [look_hop (by omega), e1, lookT]
  | node s kid ih =>
    intro p b n B h1 h2
    obtain ⟨a1, a2, a3, a4⟩ := h1
    obtain ⟨c1, c2, c3, c4⟩ := h2
    obtain ⟨n, rfl⟩ : ∃ k, n = k + 1 := ⟨n - 1, by omega⟩
    have hs := slot_lt A W B s
    have hk := ih (slotF A W B s) (nextF m A W p B) (b - s) n (B + s) (by unfold nextF; rw [a2]; exact a4 _ hs) (c4 _ hs)
    rw [look_node (by omega), a2, hk, lookT]
theorem lookT_nodes {A W : Nat} : ∀ (T : Tr) (b n B : Nat), FitT T b n → (lookT A W T B).2 ≤ n := by
  intro T
  induction T with
  | leaf h => intro b n B _; exact Nat.zero_le _
  | node s kid ih =>
    intro b n B h
    obtain ⟨c1, c2, c3, c4⟩ := h
    have := ih (slotF A W B s) (b - s) (n - 1) (B + s) (c4 _ (slot_lt _ _ _ _))
    rw [lookT]
    simp only []
    omega

/-- No route goes on behind b: then every address behind b has b's hop. -/
theorem best_leaf {R : List Rt} {a b : ByteArray} (hb : pre b a = true) (h0 : heightF R b = 0) : (bestF a R).2 = (bestF b R).2 := by
  have key : ∀ c h, lastOf R c = some h → (pre c a = true ↔ pre c b = true) := by
    intro c h hc
    constructor
    · intro hp
      by_cases hs : c.size ≤ b.size
      · have e1 := pre_eq hp
        refine pre_iff.2 ?_
        have hc' := pre_iff.1 hp
        have hb' := pre_iff.1 hb
        exact List.prefix_of_prefix_length_le hc' hb' hs
      · exfalso
        have hbc : pre b c = true := pre_iff.2 (List.prefix_of_prefix_length_le (pre_iff.1 hb) (pre_iff.1 hp) (by show b.size ≤ c.size; omega))
        have := heightF_ge (D := R) (b := b) (r := ⟨c, h⟩) (lastOf_mem hc) hbc
        simp only [] at this
        omega
    · intro hp; exact pre_trans hp hb
  rcases bestF_spec a R with ⟨h1, h2⟩ | ⟨x, h1, h2, h3, h4⟩
  · rcases bestF_spec b R with ⟨k1, k2⟩ | ⟨y, k1, k2, k3, k4⟩
    · rw [h1, k1]
    · have := (key y _ k3).2 k1; rw [h2 y _ k3] at this; exact absurd this (by simp)
  · rcases bestF_spec b R with ⟨k1, k2⟩ | ⟨y, k1, k2, k3, k4⟩
    · have := (key x _ h3).1 h1; rw [k2 x _ h3] at this; exact absurd this (by simp)
    · have e1 := h4 y _ k3 ((key y _ k3).2 k1)
      have e2 := k4 x _ h3 ((key x _ h3).1 h1)
      have : x = y := pre_size_eq h1 ((key y _ k3).2 k1) (by omega)
      subst this
      rw [k3] at h3
      exact (Option.some.inj h3).symm
end Go.Proofs.YtdfnmpmmkcpddaaDoor
/- A table's tree, with whatever strides cost the least: its slots are the cost, its lookups the hops. -/
namespace Go.Proofs.YtdfnmpmmkcpddaaDoor

/-- The text of slot j behind b. -/
def kidB (b : ByteArray) (s j : Nat) : ByteArray := b ++ addr j s
theorem kidB_size (b : ByteArray) (s j : Nat) : (kidB b s j).size = b.size + s := by unfold kidB; rw [ByteArray.size_append, addr_size]
theorem kidB_pre (b : ByteArray) (s j : Nat) : pre b (kidB b s j) = true := by
  refine pre_iff.2 ?_
  unfold kidB
  rw [ByteArray.data_append, Array.toList_append]
  exact List.prefix_append _ _
theorem addr_list (a W : Nat) : (addr a W).data.toList = lowb a W := by simp [addr]
theorem lowb_mod (k s : Nat) : ∀ {t : Nat}, t ≤ s → lowb k t = lowb (k % 2 ^ s) t
  | 0, _ => rfl
  | t + 1, h => by
    have e : k / 2 ^ t % 2 = k % 2 ^ s / 2 ^ t % 2 := by
      obtain ⟨d, rfl⟩ : ∃ d, s = t + (d + 1) := ⟨s - t - 1, by omega⟩
      rw [Nat.pow_add, Nat.mod_mul_right_div_self, Nat.pow_succ, Nat.mul_comm (2 ^ d) 2, Nat.mod_mul_right_mod]
    rw [lowb, lowb, ← e, lowb_mod k s (by omega)]
/-- Bits tell their number. -/
theorem lowb_inj {i j : Nat} : ∀ {s : Nat}, i < 2 ^ s → j < 2 ^ s → lowb i s = lowb j s → i = j
  | 0, h1, h2, _ => by simp at h1 h2; omega
  | s + 1, h1, h2, h => by
    simp only [lowb, List.cons.injEq] at h
    have hi : i / 2 ^ s % 2 = i / 2 ^ s := Nat.mod_eq_of_lt (by rw [Nat.div_lt_iff_lt_mul (Nat.pow_pos (by omega))]; rw [Nat.pow_succ] at h1; omega)
    have hj : j / 2 ^ s % 2 = j / 2 ^ s := Nat.mod_eq_of_lt (by rw [Nat.div_lt_iff_lt_mul (Nat.pow_pos (by omega))]; rw [Nat.pow_succ] at h2; omega)
    have hd : i / 2 ^ s = j / 2 ^ s := by
      have hi2 : i / 2 ^ s ≤ 1 := by omega
      have hj2 : j / 2 ^ s ≤ 1 := by omega
      have e := h.1
      rw [hi, hj] at e
      have a1 := dg_toNat hi2
      have a2 := dg_toNat hj2
      rw [e] at a1
      omega
    have hl : ∀ k : Nat, lowb k s = lowb (k % 2 ^ s) s := fun k => lowb_mod k s (Nat.le_refl _)
    have hm := lowb_inj (i := i % 2 ^ s) (j := j % 2 ^ s) (Nat.mod_lt _ (Nat.pow_pos (by omega))) (Nat.mod_lt _ (Nat.pow_pos (by omega))) (by rw [← hl, ← hl]; exact h.2)
    have e1 := Nat.div_add_mod i (2 ^ s)
    have e2 := Nat.div_add_mod j (2 ^ s)
    rw [hd, hm] at e1
    omega
theorem kidB_inj {b : ByteArray} {s i j : Nat} (hi : i < 2 ^ s) (hj : j < 2 ^ s) (h : kidB b s i = kidB b s j) : i = j := by
  have := congrArg (fun x : ByteArray => x.data.toList) h
  simp only [kidB, ByteArray.data_append, Array.toList_append, List.append_cancel_left_eq, addr_list] at this
  exact lowb_inj hi hj this
/-- Every text of bits is that of a number. -/
theorem lowb_all : ∀ (l : List UInt8), (∀ c ∈ l, c.toNat = 48 ∨ c.toNat = 49) → ∃ j, j < 2 ^ l.length ∧ lowb j l.length = l
  | [], _ => ⟨0, by simp, rfl⟩
  | c :: l, h => by
    obtain ⟨j, h1, h2⟩ := lowb_all l fun x hx => h x (by simp [hx])
    have hp : 0 < 2 ^ l.length := Nat.pow_pos (by omega)
    obtain ⟨d, hd, hc⟩ : ∃ d, d ≤ 1 ∧ c = dg d := by
      rcases h c (by simp) with hc | hc
      · exact ⟨0, by omega, UInt8.toNat_inj.1 (by rw [hc]; rfl)⟩
      · exact ⟨1, by omega, UInt8.toNat_inj.1 (by rw [hc]; rfl)⟩
    have e1 : (d * 2 ^ l.length + j) / 2 ^ l.length = d := by
      rw [Nat.mul_comm, Nat.mul_add_div hp, Nat.div_eq_of_lt h1, Nat.add_zero]
    refine ⟨d * 2 ^ l.length + j, ?_, ?_⟩
    · rw [List.length_cons, Nat.pow_succ]
      have : d * 2 ^ l.length ≤ 1 * 2 ^ l.length := Nat.mul_le_mul_right _ hd
      omega
    · rw [List.length_cons, lowb, e1, Nat.mod_eq_of_lt (by omega), ← hc]
      congr 1
      rw [lowb_mod (d * 2 ^ l.length + j) l.length (Nat.le_refl _), Nat.mul_comm, Nat.mul_add_mod, Nat.mod_eq_of_lt h1]
      exact h2

/-- The tree with the strides that 'ch' tells. -/
def treeF (R : List Rt) (ch : Nat → ByteArray → Nat) : Nat → ByteArray → Tr
  | 0, b => .leaf (bestF b R).2
  | k + 1, b => if heightF R b = 0 then .leaf (bestF b R).2 else .node (ch (k + 1) b) fun j => treeF R ch k (kidB b (ch (k + 1) b) j)
theorem treeF_leaf {R : List Rt} {ch : Nat → ByteArray → Nat} {b : ByteArray} (h : heightF R b = 0) : ∀ k, treeF R ch k b = .leaf (bestF b R).2
  | 0 => rfl
  | k + 1 => by rw [treeF, if_pos h]
/-- The strides cost the least. -/
def Least (R : List Rt) (ch : Nat → ByteArray → Nat) : Prop := ∀ k b, 1 ≤ heightF R b → 1 ≤ ch (k + 1) b ∧ ch (k + 1) b ≤ heightF R b ∧ okS R b k (ch (k + 1) b) ∧ costZ R (k + 1) b = sumS R b (costZ R k) (ch (k + 1) b)
/-- The routes are as a table's lines can have them. -/
def Bits (R : List Rt) : Prop := ∀ r ∈ R, ∀ c ∈ r.bits.data.toList, c.toNat = 48 ∨ c.toNat = 49
theorem kid_under {R : List Rt} {b : ByteArray} {s j : Nat} (h : 1 ≤ heightF R (kidB b s j)) : kidB b s j ∈ underF R b s := by
  obtain ⟨r, hr, hp, he⟩ := height_at h
  have hs := kidB_size b s j
  refine underF_mem.2 ⟨r, hr, pre_trans (kidB_pre b s j) hp, by have := pre_size hp; omega, ?_⟩
  have := pre_eq hp
  rw [hs] at this
  exact this
theorem under_kid {R : List Rt} {b c : ByteArray} {s : Nat} (hB : Bits R) (h : c ∈ underF R b s) : ∃ j, j < 2 ^ s ∧ kidB b s j = c := by
  obtain ⟨r, hr, hp, hlt, rfl⟩ := underF_mem.1 h
  have hp' := pre_iff.1 hp
  obtain ⟨t, ht⟩ := hp'
  have hl : (b.data.toList ++ t).length = r.bits.size := by rw [ht]; rfl
  have hbl : b.data.toList.length = b.size := rfl
  rw [List.length_append, hbl] at hl
  obtain ⟨j, h1, h2⟩ := lowb_all (t.take s) fun c hc => hB r hr c (by rw [← ht]; exact List.mem_append_right _ (List.mem_of_mem_take hc))
  rw [List.length_take, Nat.min_eq_left (by omega)] at h1 h2
  refine ⟨j, h1, ?_⟩
  refine ba_ext ?_
  have e1 := extract_list r.bits 0 (b.size + s)
  rw [Nat.zero_add, List.drop_zero] at e1
  have e2 : (b.data.toList ++ t).take (b.size + s) = b.data.toList ++ t.take s := by
    rw [List.take_append, hbl, List.take_of_length_le (by rw [hbl]; omega), show b.size + s - b.size = s from by omega]
  rw [e1, ← ht, e2, kidB, ByteArray.data_append, Array.toList_append, addr_list, h2]
theorem sumN_range (g : Nat → Nat) : ∀ n, (sumN g n : Int) = (List.range n).foldl (fun z j => z + (g j : Int)) 0
  | 0 => rfl
  | n + 1 => by rw [sumN, List.range_succ, List.foldl_append, ← sumN_range g n]; simp
/-- Its slots are the cost. -/
theorem tree_slots {R : List Rt} {ch : Nat → ByteArray → Nat} (hB : Bits R) (hL : Least R ch) : ∀ k b, 1 ≤ k → 1 ≤ heightF R b → (slotsT (treeF R ch k b) : Int) = costZ R k b
  | 0, b, h, _ => by omega
  | k + 1, b, _, h => by
    obtain ⟨c1, c2, c3, c4⟩ := hL k b h
    obtain ⟨s, hs⟩ : ∃ s, ch (k + 1) b = s := ⟨_, rfl⟩
    rw [hs] at c1 c2 c3 c4
    rw [treeF, if_neg (by omega), hs, slotsT, c4, sumS, fold_shift]
    rw [Int.natCast_add, sumN_range]
    congr 1
    -- the slots that are nodes
    have e1 : (List.range (2 ^ s)).foldl (fun z j => z + (slotsT (treeF R ch k (kidB b s j)) : Int)) 0 = (((List.range (2 ^ s)).map (kidB b s)).filter fun c => decide (1 ≤ heightF R c)).foldl (fun n c => n + costZ R k c) 0 := by
      have key : ∀ (l : List Nat) (z : Int), l.foldl (fun z j => z + (slotsT (treeF R ch k (kidB b s j)) : Int)) z = ((l.map (kidB b s)).filter fun c => decide (1 ≤ heightF R c)).foldl (fun n c => n + costZ R k c) z := by
        intro l
        induction l with
        | nil => intro z; rfl
        | cons j l ih =>
          intro z
          rw [List.foldl_cons, List.map_cons, List.filter_cons]
          by_cases hj : 1 ≤ heightF R (kidB b s j)
          · rw [if_pos (by simpa using hj), List.foldl_cons, ih]
            have hk : 1 ≤ k := by
              rcases c3 with c3 | c3
              · have := kid_under hj; rw [c3] at this; simp at this
              · exact c3
            rw [tree_slots hB hL k _ hk hj]
          · rw [if_neg (by simpa using hj), ih, treeF_leaf (by omega)]
            simp [slotsT]
      exact key _ 0
    rw [e1]
    refine perm_fold ?_ 0
    have hnd : ((List.range (2 ^ s)).map (kidB b s)).Nodup := by
      rw [List.nodup_iff_pairwise_ne, List.pairwise_map]
      refine List.Pairwise.imp_of_mem ?_ (List.nodup_iff_pairwise_ne.1 List.nodup_range)
      intro i j hi hj hne e
      exact hne (kidB_inj (List.mem_range.1 hi) (List.mem_range.1 hj) e)
    refine (List.perm_ext_iff_of_nodup (hnd.filter _) (under_nodup R b s)).2 fun c => ?_
    rw [List.mem_filter, List.mem_map, decide_eq_true_eq]
    constructor
    · rintro ⟨⟨j, _, rfl⟩, h2⟩; exact kid_under h2
    · intro hc
      obtain ⟨j, h1, h2⟩ := under_kid hB hc
      exact ⟨⟨j, List.mem_range.2 h1, h2⟩, under_height hc⟩
end Go.Proofs.YtdfnmpmmkcpddaaDoor
/- A table's tree: its bits and nodes, its lookups, its bytes. -/
namespace Go.Proofs.YtdfnmpmmkcpddaaDoor

theorem best_hop {R : List Rt} (hH : ∀ r ∈ R, r.hop ≤ 250) (b : ByteArray) : (bestF b R).2 ≤ 250 := by
  rcases bestF_spec b R with ⟨h1, _⟩ | ⟨x, _, _, h3, _⟩
  · rw [h1]; exact Nat.zero_le _
  · exact hH _ (lastOf_mem h3)
theorem tree_fit {R : List Rt} {ch : Nat → ByteArray → Nat} {W : Nat} (hS : ∀ r ∈ R, r.bits.size ≤ W) (hH : ∀ r ∈ R, r.hop ≤ 250) (hL : Least R ch) : ∀ k b, FitT (treeF R ch k b) (W - b.size) k
  | 0, b => best_hop hH b
  | k + 1, b => by
    by_cases h : heightF R b = 0
    · rw [treeF_leaf h]; exact best_hop hH b
    · obtain ⟨c1, c2, _, _⟩ := hL k b (by omega)
      have hh := heightF_le (b := b) hS
      rw [treeF, if_neg h]
      refine ⟨by omega, c1, by omega, fun j _ => ?_⟩
      have := tree_fit hS hH hL k (kidB b (ch (k + 1) b) j)
      rw [kidB_size] at this
      rw [show W - b.size - ch (k + 1) b = W - (b.size + ch (k + 1) b) from by omega]
      exact this

/-- How many nodes the longest way has. -/
def maxN (g : Nat → Nat) : Nat → Nat
  | 0 => 0
  | n + 1 => max (maxN g n) (g n)
theorem maxN_ge {g : Nat → Nat} : ∀ {n j : Nat}, j < n → g j ≤ maxN g n
  | n + 1, j, h => by
    rw [maxN]
    by_cases e : j = n
    · rw [e]; omega
    · have := maxN_ge (g := g) (n := n) (j := j) (by omega); omega
theorem maxN_le {g : Nat → Nat} {x : Nat} : ∀ {n : Nat}, (∀ j, j < n → g j ≤ x) → maxN g n ≤ x
  | 0, _ => Nat.zero_le _
  | n + 1, h => by
    have h1 := maxN_le (g := g) (x := x) (n := n) fun j hj => h j (by omega)
    have h2 := h n (by omega)
    rw [maxN]; omega
def depthT : Tr → Nat
  | .leaf _ => 0
  | .node s kid => maxN (fun j => depthT (kid j)) (2 ^ s) + 1
theorem fit_more : ∀ (T : Tr) (b n n' : Nat), FitT T b n → n ≤ n' → FitT T b n' := by
  intro T
  induction T with
  | leaf h => intro b n n' h1 _; exact h1
  | node s kid ih =>
    intro b n n' h hn
    obtain ⟨c1, c2, c3, c4⟩ := h
    exact ⟨by omega, c2, c3, fun j hj => ih j _ _ _ (c4 j hj) (by omega)⟩
theorem fit_depth : ∀ (T : Tr) (b n : Nat), FitT T b n → FitT T b (depthT T) ∧ depthT T ≤ n := by
  intro T
  induction T with
  | leaf h => intro b n h1; exact ⟨h1, Nat.zero_le _⟩
  | node s kid ih =>
    intro b n h
    obtain ⟨c1, c2, c3, c4⟩ := h
    rw [depthT]
    refine ⟨⟨by omega, c2, c3, fun j hj => ?_⟩, ?_⟩
    · have h1 := (ih j _ _ (c4 j hj)).1
      have h2 := maxN_ge (g := fun j => depthT (kid j)) hj
      exact fit_more _ _ _ _ h1 (by omega)
    · have := maxN_le (g := fun j => depthT (kid j)) (x := n - 1) (n := 2 ^ s) fun j hj => (ih j _ _ (c4 j hj)).2
      omega

theorem lowb_drop (A : Nat) : ∀ (B W : Nat), B ≤ W → (lowb A W).drop B = lowb A (W - B)
  | 0, W, _ => by simp
  | B + 1, 0, h => by omega
  | B + 1, W + 1, h => by rw [lowb, List.drop_succ_cons, lowb_drop A B W (by omega), show W + 1 - (B + 1) = W - B from by omega]
theorem lowb_take (A : Nat) : ∀ (s n : Nat), s ≤ n → (lowb A n).take s = lowb (A / 2 ^ (n - s)) s
  | 0, n, _ => by simp [lowb]
  | s + 1, 0, h => by omega
  | s + 1, n + 1, h => by
    have e : A / 2 ^ n = A / 2 ^ (n - s) / 2 ^ s := by
      rw [Nat.div_div_eq_div_mul, ← Nat.pow_add]
      congr 2; omega
    rw [lowb, List.take_succ_cons, lowb_take A s n (by omega), show n + 1 - (s + 1) = n - s from by omega, lowb, e]
theorem kid_addr {A W s : Nat} {b : ByteArray} (hp : pre b (addr A W) = true) (hs : b.size + s ≤ W) : pre (kidB b s (slotF A W b.size s)) (addr A W) = true := by
  refine pre_iff.2 ?_
  have hb := List.prefix_iff_eq_take.1 (pre_iff.1 hp)
  have hbl : b.data.toList.length = b.size := rfl
  rw [addr_list, hbl] at hb
  rw [kidB, ByteArray.data_append, Array.toList_append, addr_list, addr_list, slotF]
  have e : lowb (A / 2 ^ (W - b.size - s) % 2 ^ s) s = ((lowb A W).drop b.size).take s := by
    rw [lowb_drop A _ _ (by omega), lowb_take A _ _ (by omega), ← lowb_mod _ s (Nat.le_refl _)]
  rw [e, hb]
  refine ⟨((lowb A W).drop b.size).drop s, ?_⟩
  rw [List.append_assoc, List.take_append_drop, List.take_append_drop]
/-- Its lookups are the hops. -/
theorem tree_look {R : List Rt} {ch : Nat → ByteArray → Nat} {A W : Nat} (hS : ∀ r ∈ R, r.bits.size ≤ W) (hL : Least R ch) : ∀ k b, pre b (addr A W) = true → (heightF R b = 0 ∨ 1 ≤ k) → (lookT A W (treeF R ch k b) b.size).1 = (bestF (addr A W) R).2
  | 0, b, hp, h => by
    rw [treeF, lookT, best_leaf hp (by omega)]
  | k + 1, b, hp, _ => by
    by_cases h : heightF R b = 0
    · rw [treeF_leaf h, lookT, best_leaf hp h]
    · obtain ⟨c1, c2, c3, _⟩ := hL k b (by omega)
      have hh := heightF_le (b := b) hS
      rw [treeF, if_neg h, lookT]
      simp only []
      have hk := kid_addr (s := ch (k + 1) b) hp (by omega)
      have := tree_look hS hL k (kidB b (ch (k + 1) b) (slotF A W b.size (ch (k + 1) b))) hk (by
        by_cases hz : heightF R (kidB b (ch (k + 1) b) (slotF A W b.size (ch (k + 1) b))) = 0
        · exact .inl hz
        · rcases c3 with c3 | c3
          · have hm := kid_under (R := R) (b := b) (s := ch (k + 1) b) (j := slotF A W b.size (ch (k + 1) b)) (by omega)
            rw [c3] at hm; simp at hm
          · exact .inr c3)
      rw [kidB_size] at this
      exact this

/-- How many bytes its nodes take at most. -/
def bytesT : Tr → Nat
  | .leaf _ => 0
  | .node s kid => 1 + (2 ^ s + 7) / 8 + 2 * 2 ^ s + sumN (fun j => bytesT (kid j)) (2 ^ s)
theorem sumN_le5 {g f : Nat → Nat} : ∀ {n : Nat}, (∀ j, j < n → g j ≤ 5 * f j) → sumN g n ≤ 5 * sumN f n
  | 0, _ => Nat.zero_le _
  | n + 1, h => by
    have h1 := sumN_le5 (g := g) (f := f) (n := n) fun j hj => h j (by omega)
    have h2 := h n (by omega)
    rw [sumN, sumN]; omega
theorem bytes_slots : ∀ (T : Tr) (b n : Nat), FitT T b n → bytesT T ≤ 5 * slotsT T := by
  intro T
  induction T with
  | leaf h => intro b n _; exact Nat.zero_le _
  | node s kid ih =>
    intro b n h
    obtain ⟨c1, c2, c3, c4⟩ := h
    have := sumN_le5 (g := fun j => bytesT (kid j)) (f := fun j => slotsT (kid j)) (n := 2 ^ s) fun j hj => ih j _ _ (c4 j hj)
    have hp : 2 ^ 1 ≤ 2 ^ s := Nat.pow_le_pow_right (by omega) c2
    rw [bytesT, slotsT]
    omega
end Go.Proofs.YtdfnmpmmkcpddaaDoor
