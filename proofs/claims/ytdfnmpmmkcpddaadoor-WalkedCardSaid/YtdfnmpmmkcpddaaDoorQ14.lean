import Derived.Test.YtdfnmpmmkcpddaaDoorQ12
import Derived.Test.YtdfnmpmmkcpddaaDoorQ10
/- What Deeper says, of the plain cost. -/
namespace Go.Proofs.YtdfnmpmmkcpddaaDoor

/-- A stride that is possible. -/
def okS (D : List Rt) (b : ByteArray) (k s : Nat) : Prop := underF D b s = [] ∨ 1 ≤ k
def sumS (D : List Rt) (b : ByteArray) (f : ByteArray → Int) (s : Nat) : Int := (underF D b s).foldl (fun n c => n + f c) ((2 ^ s : Nat) : Int)
theorem leastF_succ (D : List Rt) (b : ByteArray) (k : Nat) (f : ByteArray → Int) (s : Nat) :
    leastF D b k f (s + 1) = if underF D b (s + 1) ≠ [] ∧ k = 0 then leastF D b k f s else if leastF D b k f s < 0 ∨ sumS D b f (s + 1) < leastF D b k f s then sumS D b f (s + 1) else leastF D b k f s := by
  rw [leastF]; rfl
/-- What the least is: none of the strides is possible, or the least of those that are. -/
theorem least_is {D : List Rt} {b : ByteArray} {k : Nat} {f : ByteArray → Int} (hf : ∀ s, okS D b k s → 0 ≤ sumS D b f s) : ∀ s,
    (leastF D b k f s = -1 ∧ ∀ t, 1 ≤ t → t ≤ s → ¬ okS D b k t) ∨ (∃ t, 1 ≤ t ∧ t ≤ s ∧ okS D b k t ∧ leastF D b k f s = sumS D b f t ∧ ∀ u, 1 ≤ u → u ≤ s → okS D b k u → leastF D b k f s ≤ sumS D b f u)
  | 0 => .inl ⟨rfl, fun t h1 h2 => by omega⟩
  | s + 1 => by
    have ih := least_is hf s
    rw [leastF_succ]
    by_cases h : underF D b (s + 1) ≠ [] ∧ k = 0
    · rw [if_pos h]
      have hn : ¬ okS D b k (s + 1) := by rintro (h1 | h1); exact h.1 h1; omega
      rcases ih with ⟨h1, h2⟩ | ⟨t, h1, h2, h3, h4, h5⟩
      · refine .inl ⟨h1, fun t ht1 ht2 => ?_⟩
        by_cases e : t = s + 1
        · rw [e]; exact hn
        · exact h2 t ht1 (by omega)
      · refine .inr ⟨t, h1, by omega, h3, h4, fun u hu1 hu2 hu3 => ?_⟩
        by_cases e : u = s + 1
        · rw [e] at hu3; exact absurd hu3 hn
        · exact h5 u hu1 (by omega) hu3
    · rw [if_neg h]
      have hy : okS D b k (s + 1) := by
        by_cases e : underF D b (s + 1) = []
        · exact .inl e
        · exact .inr (by
            by_cases hk : k = 0
            · exact absurd ⟨e, hk⟩ h
            · omega)
      have h0 := hf (s + 1) hy
      right
      rcases ih with ⟨h1, h2⟩ | ⟨t, h1, h2, h3, h4, h5⟩
      · rw [if_pos (.inl (by omega))]
        refine ⟨s + 1, by omega, Nat.le_refl _, hy, rfl, fun u hu1 hu2 hu3 => ?_⟩
        by_cases e : u = s + 1
        · rw [e]; exact Int.le_refl _
        · exact absurd hu3 (h2 u hu1 (by omega))
      · by_cases hc : leastF D b k f s < 0 ∨ sumS D b f (s + 1) < leastF D b k f s
        · rw [if_pos hc]
          have hc2 : sumS D b f (s + 1) < leastF D b k f s := by
            rcases hc with hc | hc
            · rw [h4] at hc; have := hf t h3; omega
            · exact hc
          refine ⟨s + 1, by omega, Nat.le_refl _, hy, rfl, fun u hu1 hu2 hu3 => ?_⟩
          by_cases e : u = s + 1
          · rw [e]; exact Int.le_refl _
          · have := h5 u hu1 (by omega) hu3; omega
        · rw [if_neg hc]
          refine ⟨t, h1, by omega, h3, h4, fun u hu1 hu2 hu3 => ?_⟩
          by_cases e : u = s + 1
          · rw [e]
            have : ¬ sumS D b f (s + 1) < leastF D b k f s := fun h => hc (.inr h)
            omega
          · exact h5 u hu1 (by omega) hu3

theorem fold_mono {f g : ByteArray → Int} : ∀ {l : List ByteArray} {y z : Int}, y ≤ z → (∀ c ∈ l, f c ≤ g c) → l.foldl (fun n c => n + f c) y ≤ l.foldl (fun n c => n + g c) z
  | [], y, z, h, _ => h
  | c :: l, y, z, h, hc => by
    have h1 := hc c (by simp)
    have h2 : y + f c ≤ z + g c := by omega
    exact fold_mono (l := l) h2 fun x hx => hc x (by simp [hx])
theorem sumS_pos {D : List Rt} (hD : ∀ r ∈ D, r.bits.size ≤ 12) {b : ByteArray} {k s : Nat} (h : okS D b k s) : 0 ≤ sumS D b (costZ D k) s := by
  unfold sumS
  have hz : (0 : Int) ≤ ((2 ^ s : Nat) : Int) := Int.natCast_nonneg _
  rcases h with h | h
  · rw [h]; exact hz
  · have := (sum_bd (f := costZ D k) (l := underF D b s) (z := ((2 ^ s : Nat) : Int)) fun c hc => cost_bd hD k c h (under_height hc)).1
    exact Int.le_trans hz this
theorem cost_is {D : List Rt} (hD : ∀ r ∈ D, r.bits.size ≤ 12) {k : Nat} {b : ByteArray} (h : 1 ≤ heightF D b) :
    ∃ t, 1 ≤ t ∧ t ≤ heightF D b ∧ okS D b k t ∧ costZ D (k + 1) b = sumS D b (costZ D k) t ∧ ∀ u, 1 ≤ u → u ≤ heightF D b → okS D b k u → costZ D (k + 1) b ≤ sumS D b (costZ D k) u := by
  rw [costZ]
  rcases least_is (k := k) (b := b) (fun s hs => sumS_pos hD hs) (heightF D b) with ⟨_, h2⟩ | h2
  · exact absurd (.inl under_none) (h2 (heightF D b) h (Nat.le_refl _))
  · exact h2
/-- With more depth it costs no more. -/
theorem cost_mono {D : List Rt} (hD : ∀ r ∈ D, r.bits.size ≤ 12) : ∀ (k : Nat) {b : ByteArray}, 1 ≤ heightF D b → costZ D (k + 2) b ≤ costZ D (k + 1) b
  | k, b, h => by
    obtain ⟨t, h1, h2, h3, h4, _⟩ := cost_is hD (k := k) h
    obtain ⟨_, _, _, _, _, h5⟩ := cost_is hD (k := k + 1) h
    rw [h4]
    refine Int.le_trans (h5 t h1 h2 (.inr (by omega))) ?_
    unfold sumS
    refine fold_mono (Int.le_refl _) fun c hc => ?_
    rcases h3 with h3 | h3
    · rw [h3] at hc; simp at hc
    · obtain ⟨k, rfl⟩ : ∃ j, k = j + 1 := ⟨k - 1, by omega⟩
      exact cost_mono hD k (under_height hc)
theorem cost_anti {D : List Rt} (hD : ∀ r ∈ D, r.bits.size ≤ 12) {b : ByteArray} (h : 1 ≤ heightF D b) {i : Nat} (hi : 1 ≤ i) : ∀ j, i ≤ j → costZ D j b ≤ costZ D i b
  | 0, hj => by omega
  | j + 1, hj => by
    by_cases e : i = j + 1
    · rw [e]; exact Int.le_refl _
    · have ih := cost_anti hD h hi j (by omega)
      obtain ⟨k, rfl⟩ : ∃ k, j = k + 1 := ⟨j - 1, by omega⟩
      exact Int.le_trans (cost_mono hD k h) ih
/-- The height is that of some route. -/
theorem height_at {D : List Rt} {b : ByteArray} (h : 1 ≤ heightF D b) : ∃ r ∈ D, pre b r.bits = true ∧ r.bits.size - b.size = heightF D b := by
  revert h
  refine snoc_ind (p := fun D => 1 ≤ heightF D b → ∃ r ∈ D, pre b r.bits = true ∧ r.bits.size - b.size = heightF D b) ?_ ?_ D
  · intro h; simp [heightF] at h
  · intro D r ih h
    rw [heightF_snoc] at h ⊢
    unfold hstep at h ⊢
    split at h
    · rename_i hc
      rw [if_pos hc]
      exact ⟨r, by simp, hc.1, rfl⟩
    · rename_i hc
      rw [if_neg hc]
      obtain ⟨x, hx, h1⟩ := ih h
      exact ⟨x, by simp [hx], h1⟩
/-- With depth 1 there is one stride. -/
theorem cost_one {D : List Rt} (hD : ∀ r ∈ D, r.bits.size ≤ 12) {b : ByteArray} (h : 1 ≤ heightF D b) : costZ D 1 b = ((2 ^ heightF D b : Nat) : Int) := by
  obtain ⟨t, h1, h2, h3, h4, _⟩ := cost_is hD (k := 0) h
  have ht : t = heightF D b := by
    rcases h3 with h3 | h3
    · obtain ⟨r, hr, hp, he⟩ := height_at h
      by_cases e : t = heightF D b
      · exact e
      · have hb := pre_size hp
        have : r.bits.extract 0 (b.size + t) ∈ underF D b t := underF_mem.2 ⟨r, hr, hp, by omega, rfl⟩
        rw [h3] at this; simp at this
    · omega
  rw [h4, ht, sumS, under_none]; rfl
end Go.Proofs.YtdfnmpmmkcpddaaDoor
/- The nodes of a table, in the order in which the program lists them. -/
namespace Go.Proofs.YtdfnmpmmkcpddaaDoor

theorem bl_pre : ∀ {d r t : List UInt8}, d <+: r → Op.bytesLess r t = true → Op.bytesLess d t = true
  | [], r, [], _, h => by cases r <;> simp [Op.bytesLess] at h
  | [], _, _ :: _, _, _ => rfl
  | x :: d, [], _, h, _ => by simp at h
  | x :: d, y :: r, [], _, h => by simp [Op.bytesLess] at h
  | x :: d, y :: r, z :: t, h, h2 => by
    rw [List.cons_prefix_cons] at h
    obtain ⟨rfl, h⟩ := h
    simp only [Op.bytesLess, Bool.or_eq_true, Bool.and_eq_true, decide_eq_true_eq, beq_iff_eq] at h2 ⊢
    rcases h2 with h2 | ⟨h2, h3⟩
    · exact .inl h2
    · exact .inr ⟨h2, bl_pre h h3⟩
theorem bl_cut : ∀ {d r c : List UInt8}, Op.bytesLess d r = true → c <+: r → ¬ c <+: d → Op.bytesLess d c = true
  | _, _, [], _, _, h => absurd (List.nil_prefix) h
  | [], _, _ :: _, _, _, _ => rfl
  | y :: d, [], x :: c, h, _, _ => by simp [Op.bytesLess] at h
  | y :: d, z :: r, x :: c, h, h2, h3 => by
    rw [List.cons_prefix_cons] at h2
    obtain ⟨rfl, h2⟩ := h2
    simp only [Op.bytesLess, Bool.or_eq_true, Bool.and_eq_true, decide_eq_true_eq, beq_iff_eq] at h ⊢
    rcases h with h | ⟨rfl, h⟩
    · exact .inl h
    · exact .inr ⟨rfl, bl_cut h h2 fun e => h3 (List.cons_prefix_cons.2 ⟨rfl, e⟩)⟩
theorem bl_ext : ∀ {d c : List UInt8}, d <+: c → d.length < c.length → Op.bytesLess d c = true
  | [], [], _, h => by simp at h
  | [], _ :: _, _, _ => rfl
  | x :: d, [], h, _ => by simp at h
  | x :: d, y :: c, h, h2 => by
    rw [List.cons_prefix_cons] at h
    obtain ⟨rfl, h⟩ := h
    simp only [Op.bytesLess, Bool.or_eq_true, Bool.and_eq_true, beq_iff_eq]
    exact .inr ⟨trivial, bl_ext h (by simpa using h2)⟩
theorem bl_gone : ∀ {b x y : List UInt8}, Op.bytesLess b x = true → ¬ b <+: x → Op.bytesLess x y = true → ¬ b <+: y
  | [], _, _, _, h, _ => absurd List.nil_prefix h
  | p :: b, [], _, h, _, _ => by simp [Op.bytesLess] at h
  | p :: b, q :: x, [], _, _, h => by simp [Op.bytesLess] at h
  | p :: b, q :: x, z :: y, h1, h2, h3 => by
    intro h4
    rw [List.cons_prefix_cons] at h4
    obtain ⟨rfl, h4⟩ := h4
    simp only [Op.bytesLess, Bool.or_eq_true, Bool.and_eq_true, decide_eq_true_eq, beq_iff_eq, UInt8.lt_iff_toNat_lt] at h1 h3
    rcases h1 with h1 | ⟨rfl, h1⟩
    · rcases h3 with h3 | ⟨rfl, h3⟩
      · omega
      · omega
    · rcases h3 with h3 | ⟨_, h3⟩
      · omega
      · exact bl_gone h1 (fun e => h2 (List.cons_prefix_cons.2 ⟨rfl, e⟩)) h3 h4
theorem bl_not : ∀ {b c : List UInt8}, b <+: c → Op.bytesLess c b = false
  | [], c, _ => by cases c <;> rfl
  | x :: b, [], h => by simp at h
  | x :: b, y :: c, h => by
    rw [List.cons_prefix_cons] at h
    obtain ⟨rfl, h⟩ := h
    simp [Op.bytesLess, bl_not h]

theorem lt_def (a b : ByteArray) : lt a b = Op.bytesLess a.data.toList b.data.toList := by
  unfold lt; rw [ByteArray.toList_eq, ByteArray.toList_eq]

/-- The nodes, in order. -/
def nstep (r : ByteArray) (ns : List ByteArray) (n : Nat) : List ByteArray := if memB (r.extract 0 n) ns = true then ns else ns ++ [r.extract 0 n]
def nrow (r : ByteArray) (ns : List ByteArray) : Nat → List ByteArray
  | 0 => ns
  | n + 1 => nstep r (nrow r ns n) n
def nodesF (R : List Rt) : List ByteArray := R.foldl (fun ns r => nrow r.bits ns r.bits.size) []
theorem nodesF_snoc (R : List Rt) (r : Rt) : nodesF (R ++ [r]) = nrow r.bits (nodesF R) r.bits.size := by simp [nodesF]
theorem nodesF_take (R : List Rt) (i : Nat) (h : i < R.length) : nodesF (R.take (i + 1)) = nrow R[i].bits (nodesF (R.take i)) R[i].bits.size := by
  rw [List.take_succ_eq_append_getElem h, nodesF_snoc]
theorem nstep_mem {r : ByteArray} {ns : List ByteArray} {n : Nat} {x : ByteArray} : x ∈ nstep r ns n ↔ x ∈ ns ∨ x = r.extract 0 n := by
  unfold nstep; split
  · rename_i h
    constructor
    · exact .inl
    · rintro (h1 | rfl)
      · exact h1
      · exact memB_iff.1 h
  · simp
theorem nrow_mem {r : ByteArray} {ns : List ByteArray} {x : ByteArray} : ∀ {n : Nat}, x ∈ nrow r ns n ↔ x ∈ ns ∨ ∃ m, m < n ∧ x = r.extract 0 m
  | 0 => by simp [nrow]
  | n + 1 => by
    rw [nrow, nstep_mem, nrow_mem]
    constructor
    · rintro ((h | ⟨m, h1, h2⟩) | h)
      · exact .inl h
      · exact .inr ⟨m, by omega, h2⟩
      · exact .inr ⟨n, by omega, h⟩
    · rintro (h | ⟨m, h1, h2⟩)
      · exact .inl (.inl h)
      · by_cases e : m = n
        · exact .inr (by rw [h2, e])
        · exact .inl (.inr ⟨m, by omega, h2⟩)
theorem nodesF_mem {R : List Rt} {x : ByteArray} : x ∈ nodesF R ↔ ∃ r ∈ R, ∃ m, m < r.bits.size ∧ x = r.bits.extract 0 m := by
  refine snoc_ind (p := fun R => x ∈ nodesF R ↔ ∃ r ∈ R, ∃ m, m < r.bits.size ∧ x = r.bits.extract 0 m) ?_ ?_ R
  · simp [nodesF]
  · intro R r ih
    rw [nodesF_snoc, nrow_mem, ih]
    constructor
    · rintro (⟨r', h1, h2⟩ | h)
      · exact ⟨r', by simp [h1], h2⟩
      · exact ⟨r, by simp, h⟩
    · rintro ⟨r', h1, h2⟩
      rcases List.mem_append.1 h1 with h3 | h3
      · exact .inl ⟨r', h3, h2⟩
      · rw [List.mem_singleton] at h3; subst h3; exact .inr h2
theorem nodes_height {R : List Rt} {x : ByteArray} (h : x ∈ nodesF R) : 1 ≤ heightF R x := by
  obtain ⟨r, hr, m, hm, rfl⟩ := nodesF_mem.1 h
  obtain ⟨h1, h2⟩ := pre_extract (r := r.bits) (n := m) (by omega)
  have := heightF_ge hr h1
  omega
theorem nodes_size {R : List Rt} {x : ByteArray} (hR : ∀ r ∈ R, r.bits.size ≤ 12) (h : x ∈ nodesF R) : x.size ≤ 12 := by
  obtain ⟨r, hr, m, hm, rfl⟩ := nodesF_mem.1 h
  have := hR r hr
  rw [ByteArray.size_extract]; omega
theorem nstep_length (r : ByteArray) (ns : List ByteArray) (n : Nat) : (nstep r ns n).length ≤ ns.length + 1 := by
  unfold nstep; split
  · omega
  · simp
theorem nrow_length (r : ByteArray) (ns : List ByteArray) : ∀ n, (nrow r ns n).length ≤ ns.length + n
  | 0 => Nat.le_refl _
  | n + 1 => by have := nrow_length r ns n; have := nstep_length r (nrow r ns n) n; rw [nrow]; omega
theorem nodes_length {R : List Rt} (hR : ∀ r ∈ R, r.bits.size ≤ 12) : (nodesF R).length ≤ 12 * R.length := by
  revert hR
  refine snoc_ind (p := fun R => (∀ r ∈ R, r.bits.size ≤ 12) → (nodesF R).length ≤ 12 * R.length) ?_ ?_ R
  · intro _; simp [nodesF]
  · intro R r ih h
    have h1 := ih fun x hx => h x (by simp [hx])
    have h2 := h r (by simp)
    have := nrow_length r.bits (nodesF R) r.bits.size
    rw [nodesF_snoc]; simp; omega

/-- They are in order. -/
def SortB (l : List ByteArray) : Prop := l.Pairwise (fun x y => lt x y = true)
theorem nrow_sort {r : ByteArray} {ns : List ByteArray} (hs : SortB ns) (hc : ∀ d ∈ ns, ∃ r', pre d r' = true ∧ lt r' r = true ∧ ∀ m, m < r'.size → r'.extract 0 m ∈ ns) : ∀ n, n ≤ r.size → SortB (nrow r ns n)
  | 0, _ => hs
  | n + 1, hn => by
    have ih := nrow_sort hs hc n (by omega)
    rw [nrow, nstep]
    split
    · exact ih
    · rename_i hm
      have hm' : r.extract 0 n ∉ nrow r ns n := fun h => hm (memB_iff.2 h)
      obtain ⟨p1, p2⟩ := pre_extract (r := r) (n := n) (by omega)
      unfold SortB
      rw [List.pairwise_append]
      refine ⟨ih, by simp, ?_⟩
      intro d hd c hcc
      rw [List.mem_singleton] at hcc
      subst hcc
      rcases nrow_mem.1 hd with h | ⟨m, h1, rfl⟩
      · obtain ⟨r', q1, q2, q3⟩ := hc d h
        rw [lt_def] at q2 ⊢
        refine bl_cut (bl_pre (pre_iff.1 q1) q2) (pre_iff.1 p1) fun e => ?_
        have e' : pre (r.extract 0 n) d = true := pre_iff.2 e
        have e2 := pre_eq (pre_trans e' q1)
        have hsz : (r.extract 0 n).size < r'.size := by
          have s1 := pre_size e'
          have s2 := pre_size q1
          by_cases hx : (r.extract 0 n).size = d.size
          · exfalso
            have e3 := pre_eq e'
            rw [hx] at e3
            have e4 : d.extract 0 d.size = d := by
              have := pre_eq (a := d) (b := d) (pre_iff.2 (List.prefix_refl _)); exact this.symm
            rw [e4] at e3
            exact hm' (by rw [e3]; exact nrow_mem.2 (.inl h))
          · omega
        exact hm' (nrow_mem.2 (.inl (by rw [e2]; exact q3 _ hsz)))
      · obtain ⟨p3, p4⟩ := pre_extract (r := r) (n := m) (by omega)
        rw [lt_def]
        refine bl_ext (pre_iff.1 (pre_of_extract p3 (by omega))) ?_
        show (r.extract 0 m).size < (r.extract 0 n).size
        omega
theorem nodes_sort {R : List Rt} (hR : Ord R) : SortB (nodesF R) := by
  revert hR
  refine snoc_ind (p := fun R => Ord R → SortB (nodesF R)) ?_ ?_ R
  · intro _; simp [nodesF, SortB]
  · intro R r ih h
    unfold Ord at h
    rw [List.pairwise_append] at h
    rw [nodesF_snoc]
    refine nrow_sort (ih h.1) ?_ _ (Nat.le_refl _)
    intro d hd
    obtain ⟨r', h1, m, h2, rfl⟩ := nodesF_mem.1 hd
    exact ⟨r'.bits, (pre_extract (by omega)).1, h.2.2 r' h1 r (by simp), fun m hm => nodesF_mem.2 ⟨r', h1, m, hm, rfl⟩⟩
theorem sort_nodup {l : List ByteArray} (h : SortB l) : l.Nodup := h.imp fun h => lt_ne h

/-- The sum over the nodes behind one, as the program takes it. -/
def belowF (b : ByteArray) (m : Nat) (f : ByteArray → Int) : List ByteArray → Int → Int
  | [], z => z
  | c :: l, z => if pre b c = true then belowF b m f l (if c.size = m then z + f c else z) else z
def selF (b : ByteArray) (m : Nat) (c : ByteArray) : Bool := pre b c && decide (c.size = m)
theorem below_sel {b : ByteArray} {m : Nat} {f : ByteArray → Int} : ∀ {l : List ByteArray} {z : Int}, SortB (b :: l) → belowF b m f l z = (l.filter (selF b m)).foldl (fun n c => n + f c) z
  | [], z, _ => rfl
  | c :: l, z, h => by
    have h1 := List.pairwise_cons.1 h
    have h2 := List.pairwise_cons.1 h1.2
    have hbl : SortB (b :: l) := List.pairwise_cons.2 ⟨fun x hx => h1.1 x (by simp [hx]), h2.2⟩
    rw [belowF]
    by_cases hp : pre b c = true
    · rw [if_pos hp, below_sel hbl, List.filter_cons]
      by_cases hm : c.size = m
      · rw [if_pos hm, if_pos (by simp [selF, hp, hm])]; rfl
      · rw [if_neg hm, if_neg (by simp [selF, hm])]
    · rw [if_neg hp]
      have hn : (c :: l).filter (selF b m) = [] := by
        rw [List.filter_eq_nil_iff]
        intro x hx hs
        simp only [selF, Bool.and_eq_true] at hs
        rcases List.mem_cons.1 hx with rfl | hx
        · exact hp hs.1
        · have g1 := h1.1 c (by simp)
          have g2 := h2.1 x hx
          rw [lt_def] at g1 g2
          exact bl_gone g1 (fun e => hp (pre_iff.2 e)) g2 (pre_iff.1 hs.1)
      rw [hn]; rfl
theorem perm_fold {f : ByteArray → Int} {l l' : List ByteArray} (h : l.Perm l') : ∀ z : Int, l.foldl (fun n c => n + f c) z = l'.foldl (fun n c => n + f c) z := by
  induction h with
  | nil => intro z; rfl
  | cons x _ ih => intro z; exact ih _
  | swap x y l => intro z; simp only [List.foldl_cons]; congr 1; omega
  | trans _ _ ih1 ih2 => intro z; rw [ih1, ih2]
/-- It is the sum over the nodes that a stride leaves. -/
theorem below_under {R : List Rt} {ns l1 l2 : List ByteArray} {b : ByteArray} {s : Nat} {f : ByteArray → Int} (hR : Ord R) (hn : nodesF R = ns) (he : ns = l1 ++ b :: l2) (hs : 1 ≤ s) (z : Int) :
    belowF b (b.size + s) f l2 z = (underF R b s).foldl (fun n c => n + f c) z := by
  have hS := nodes_sort hR
  rw [hn] at hS
  have hS' := hS
  unfold SortB at hS'
  rw [he, List.pairwise_append] at hS'
  rw [below_sel hS'.2.1]
  refine perm_fold ?_ z
  refine (List.perm_ext_iff_of_nodup ((sort_nodup (List.pairwise_cons.1 hS'.2.1).2).filter _) (under_nodup R b s)).2 fun c => ?_
  rw [List.mem_filter, underF_mem]
  simp only [selF, Bool.and_eq_true, decide_eq_true_eq]
  constructor
  · rintro ⟨h1, h2, h3⟩
    have : c ∈ nodesF R := by rw [hn, he]; simp [h1]
    obtain ⟨r, hr, m, hm, rfl⟩ := nodesF_mem.1 this
    obtain ⟨q1, q2⟩ := pre_extract (r := r.bits) (n := m) (by omega)
    refine ⟨r, hr, pre_trans h2 q1, by omega, by rw [← h3, q2]⟩
  · rintro ⟨r, hr, h1, h2, rfl⟩
    obtain ⟨q1, q2⟩ := pre_extract (r := r.bits) (n := b.size + s) (by omega)
    have q3 := pre_of_extract h1 (show b.size ≤ b.size + s by omega)
    refine ⟨?_, q3, q2⟩
    have hmem : r.bits.extract 0 (b.size + s) ∈ ns := by rw [← hn]; exact nodesF_mem.2 ⟨r, hr, _, h2, rfl⟩
    rw [he] at hmem
    rcases List.mem_append.1 hmem with h | h
    · have := hS'.2.2 _ h b (by simp)
      rw [lt_def, bl_not (pre_iff.1 q3)] at this
      exact absurd this (by simp)
    · rcases List.mem_cons.1 h with h | h
      · rw [h] at q2; omega
      · exact h

/-- Only the bits count. -/
def SameB (D R : List Rt) : Prop := ∀ x, (∃ r ∈ D, r.bits = x) ↔ ∃ r ∈ R, r.bits = x
theorem SameB.symm {D R : List Rt} (h : SameB D R) : SameB R D := fun x => (h x).symm
theorem height_le_same {D R : List Rt} (h : SameB D R) (b : ByteArray) : heightF D b ≤ heightF R b := by
  by_cases h0 : 1 ≤ heightF D b
  · obtain ⟨r, hr, hp, he⟩ := height_at h0
    obtain ⟨x, hx, e⟩ := (h r.bits).1 ⟨r, hr, rfl⟩
    rw [← he, ← e]
    exact heightF_ge hx (by rw [e]; exact hp)
  · omega
theorem height_same {D R : List Rt} (h : SameB D R) (b : ByteArray) : heightF D b = heightF R b :=
  Nat.le_antisymm (height_le_same h b) (height_le_same h.symm b)
theorem under_same {D R : List Rt} (h : SameB D R) (b : ByteArray) (s : Nat) : (underF D b s).Perm (underF R b s) := by
  refine (List.perm_ext_iff_of_nodup (under_nodup D b s) (under_nodup R b s)).2 fun c => ?_
  rw [underF_mem, underF_mem]
  constructor
  · rintro ⟨r, hr, h1, h2, h3⟩
    obtain ⟨x, hx, e⟩ := (h r.bits).1 ⟨r, hr, rfl⟩
    exact ⟨x, hx, by rw [e]; exact h1, by rw [e]; exact h2, by rw [e]; exact h3⟩
  · rintro ⟨r, hr, h1, h2, h3⟩
    obtain ⟨x, hx, e⟩ := (h r.bits).2 ⟨r, hr, rfl⟩
    exact ⟨x, hx, by rw [e]; exact h1, by rw [e]; exact h2, by rw [e]; exact h3⟩
theorem least_same {D R : List Rt} (h : SameB D R) (b : ByteArray) (k : Nat) (f : ByteArray → Int) : ∀ s, leastF D b k f s = leastF R b k f s
  | 0 => rfl
  | s + 1 => by
    have hp := under_same h b (s + 1)
    have hn : underF D b (s + 1) ≠ [] ↔ underF R b (s + 1) ≠ [] := by
      rw [← List.length_pos_iff, ← List.length_pos_iff, hp.length_eq]
    rw [leastF, leastF, cstep, cstep, perm_fold hp, least_same h b k f s]
    by_cases hc : underF D b (s + 1) ≠ [] ∧ k = 0
    · rw [if_pos hc, if_pos ⟨hn.1 hc.1, hc.2⟩]
    · rw [if_neg hc, if_neg (show ¬ (underF R b (s + 1) ≠ [] ∧ k = 0) from fun e => hc ⟨hn.2 e.1, e.2⟩)]
theorem cost_same {D R : List Rt} (h : SameB D R) : ∀ k, costZ D k = costZ R k
  | 0 => rfl
  | k + 1 => by
    funext b
    rw [costZ, costZ, cost_same h k, height_same h b, least_same h]
theorem same_ord (l : List Rt) : SameB (dedup l) (ordR l) := by
  intro x
  constructor
  · rintro ⟨r, hr, rfl⟩
    exact ⟨r, (ordR_mem l r).2 ((dedup_mem l r).1 hr), rfl⟩
  · rintro ⟨r, hr, rfl⟩
    exact ⟨r, (dedup_mem l r).2 ((ordR_mem l r).1 hr), rfl⟩

/-- The first node is the empty one. -/
theorem nodes_head {R : List Rt} : (nodesF R = [] ∧ heightF R ⟨#[]⟩ = 0) ∨ (∃ l, nodesF R = ⟨#[]⟩ :: l) := by
  refine snoc_ind (p := fun R => (nodesF R = [] ∧ heightF R ⟨#[]⟩ = 0) ∨ (∃ l, nodesF R = ⟨#[]⟩ :: l)) ?_ ?_ R
  · left; exact ⟨rfl, rfl⟩
  · intro R r ih
    have key : ∀ (l : List ByteArray) (n : Nat), ∃ l', nrow r.bits (⟨#[]⟩ :: l) n = ⟨#[]⟩ :: l' := by
      intro l n
      induction n with
      | zero => exact ⟨l, rfl⟩
      | succ n ih =>
        obtain ⟨l', e⟩ := ih
        rw [nrow, e, nstep]
        split
        · exact ⟨l', rfl⟩
        · exact ⟨l' ++ [r.bits.extract 0 n], rfl⟩
    have hz : r.bits.extract 0 0 = ⟨#[]⟩ := ba_ext (by simp)
    rw [nodesF_snoc]
    rcases ih with ⟨h1, h2⟩ | ⟨l, h1⟩
    · rw [h1]
      by_cases hs : r.bits.size = 0
      · left
        rw [hs]
        refine ⟨rfl, ?_⟩
        rw [heightF_snoc, h2, hstep, if_neg]
        rintro ⟨_, h⟩; omega
      · right
        have k2 : ∀ n, ∃ l', nrow r.bits [] (n + 1) = ⟨#[]⟩ :: l' := by
          intro n
          induction n with
          | zero => exact ⟨[], by rw [nrow, nrow, nstep, hz]; rfl⟩
          | succ n ih =>
            obtain ⟨l', e⟩ := ih
            rw [nrow, e, nstep]
            split
            · exact ⟨l', rfl⟩
            · exact ⟨l' ++ [r.bits.extract 0 (n + 1)], rfl⟩
        obtain ⟨n, hn⟩ : ∃ n, r.bits.size = n + 1 := ⟨r.bits.size - 1, by omega⟩
        rw [hn]; exact k2 n
    · right
      rw [h1]; exact key l _
theorem empty_height {R : List Rt} {l : List ByteArray} (h : nodesF R = ⟨#[]⟩ :: l) : 1 ≤ heightF R ⟨#[]⟩ := nodes_height (by rw [h]; simp)
end Go.Proofs.YtdfnmpmmkcpddaaDoor
/- The strides that the program takes: of those that cost the least, the first. -/
namespace Go.Proofs.YtdfnmpmmkcpddaaDoor

/-- One more stride. -/
theorem least_one {R : List Rt} {b : ByteArray} {k : Nat} {f : ByteArray → Int} (hk : 1 ≤ k) : leastF R b k f 1 = sumS R b f 1 := by
  rw [leastF_succ, if_neg (by omega), if_pos (.inl (by show (-1 : Int) < 0; omega))]
theorem least_more {R : List Rt} {b : ByteArray} {k t : Nat} {f : ByteArray → Int} (hk : 1 ≤ k) (ht : 2 ≤ t) (h2 : 2 ≤ leastF R b k f (t - 1)) : leastF R b k f t = if sumS R b f t < leastF R b k f (t - 1) then sumS R b f t else leastF R b k f (t - 1) := by
  obtain ⟨s, rfl⟩ : ∃ s, t = s + 1 := ⟨t - 1, by omega⟩
  rw [show s + 1 - 1 = s from rfl] at *
  rw [leastF_succ, if_neg (by omega)]
  by_cases h : sumS R b f (s + 1) < leastF R b k f s
  · rw [if_pos (.inr h), if_pos h]
  · rw [if_neg (by omega), if_neg h]
theorem sum_low {R : List Rt} {b : ByteArray} {k t : Nat} (hS : ∀ r ∈ R, r.bits.size ≤ 12) (hk : 1 ≤ k) (ht : 1 ≤ t) : 2 ≤ sumS R b (costZ R k) t := by
  have h := (sum_bd (f := costZ R k) (l := underF R b t) (z := ((2 ^ t : Nat) : Int)) fun c hc => cost_bd hS k c hk (under_height hc)).1
  have hp2 : 2 ^ 1 ≤ (2 ^ t : Nat) := Nat.pow_le_pow_right (by omega) ht
  unfold sumS
  omega
/-- The first of the strides up to t that cost the least. -/
def argF (R : List Rt) (b : ByteArray) (f : ByteArray → Int) : Nat → Nat
  | 0 => 1
  | t + 1 => if t = 0 then 1 else if sumS R b f (t + 1) < sumS R b f (argF R b f t) then t + 1 else argF R b f t
theorem argF_bd (R : List Rt) (b : ByteArray) (f : ByteArray → Int) : ∀ t, 1 ≤ argF R b f t ∧ argF R b f t ≤ max t 1
  | 0 => by simp [argF]
  | t + 1 => by
    have ih := argF_bd R b f t
    rw [argF]
    split
    · omega
    · split <;> omega
theorem argF_one (R : List Rt) (b : ByteArray) (f : ByteArray → Int) : argF R b f 1 = 1 := rfl
theorem argF_more {R : List Rt} {b : ByteArray} {f : ByteArray → Int} {t : Nat} (ht : 2 ≤ t) : argF R b f t = if sumS R b f t < sumS R b f (argF R b f (t - 1)) then t else argF R b f (t - 1) := by
  obtain ⟨s, rfl⟩ : ∃ s, t = s + 1 := ⟨t - 1, by omega⟩
  rw [argF, if_neg (by omega)]; rfl
theorem argF_least {R : List Rt} {b : ByteArray} {k : Nat} (hS : ∀ r ∈ R, r.bits.size ≤ 12) (hk : 1 ≤ k) : ∀ t, 1 ≤ t → leastF R b k (costZ R k) t = sumS R b (costZ R k) (argF R b (costZ R k) t)
  | 0, h => by omega
  | t + 1, _ => by
    by_cases h : t = 0
    · subst h; rw [least_one hk]; rfl
    · have ih := argF_least (b := b) hS hk t (by omega)
      have h2 : 2 ≤ leastF R b k (costZ R k) t := by rw [ih]; exact sum_low hS hk (argF_bd R b _ t).1
      have h3 := least_more (R := R) (b := b) (t := t + 1) (f := costZ R k) hk (by omega) h2
      rw [show t + 1 - 1 = t from rfl, ih] at h3
      rw [h3, argF, if_neg h]
      split <;> rfl
/-- The stride of a node. -/
def chF (R : List Rt) (k : Nat) (b : ByteArray) : Nat := if k ≤ 1 then heightF R b else argF R b (costZ R (k - 1)) (heightF R b)
theorem chF_one (R : List Rt) (b : ByteArray) : chF R 1 b = heightF R b := rfl
theorem chF_succ (R : List Rt) {k : Nat} (b : ByteArray) (hk : 1 ≤ k) : chF R (k + 1) b = argF R b (costZ R k) (heightF R b) := by
  rw [chF, if_neg (by omega)]; rfl
theorem chF_bd (R : List Rt) (k : Nat) {b : ByteArray} (h : 1 ≤ heightF R b) : 1 ≤ chF R k b ∧ chF R k b ≤ heightF R b := by
  unfold chF
  split
  · omega
  · have := argF_bd R b (costZ R (k - 1)) (heightF R b); omega
theorem chF_cost {R : List Rt} (hS : ∀ r ∈ R, r.bits.size ≤ 12) {k : Nat} {b : ByteArray} (h : 1 ≤ heightF R b) : okS R b k (chF R (k + 1) b) ∧ costZ R (k + 1) b = sumS R b (costZ R k) (chF R (k + 1) b) := by
  by_cases hk : k = 0
  · subst hk
    rw [chF_one, cost_one hS h, sumS, under_none]
    exact ⟨.inl under_none, rfl⟩
  · rw [chF_succ R b (by omega)]
    refine ⟨.inr (by omega), ?_⟩
    rw [costZ]
    exact argF_least hS (by omega) _ h
end Go.Proofs.YtdfnmpmmkcpddaaDoor
