/- The walks of the document's reader: put. -/
import Derived.Test.YtdfnmpmmkcpddaaDoorWalkE
namespace Go.Proofs.YtdfnmpmmkcpddaaDoor
open Go.RowKit

/-- A route, in place of one with the same bits, or behind all. -/
def putR : List Rt → ByteArray → Nat → List Rt
  | [], b, h => [⟨b, h⟩]
  | r :: l, b, h => if r.bits = b then ⟨r.bits, h⟩ :: l else r :: putR l b h

theorem rc_cons (r : Rt) (l : List Rt) : rc (r :: l) = .string r.bits :: .int .i64 (r.hop : Nat) :: rc l := by simp [rc, rc1]
theorem rc_length (l : List Rt) : (rc l).length = l.length * 2 := by
  induction l with
  | nil => rfl
  | cons r l ih => rw [rc_cons]; simp only [List.length_cons, ih]; omega
theorem rc_bits : ∀ (l : List Rt) (i : Nat) (r : Rt), l[i]? = some r → (rc l)[i * 2]? = some (.string r.bits)
  | r0 :: l, 0, r, h => by simp at h; subst h; rw [rc_cons]; rfl
  | r0 :: l, i + 1, r, h => by rw [rc_cons, show (i + 1) * 2 = i * 2 + 1 + 1 from by omega]; simpa using rc_bits l i r (by simpa using h)
  | [], i, r, h => by simp at h
theorem rc_hop : ∀ (l : List Rt) (i : Nat) (r : Rt), l[i]? = some r → (rc l)[i * 2 + 1]? = some (.int .i64 (r.hop : Nat))
  | r0 :: l, 0, r, h => by simp at h; subst h; rw [rc_cons]; rfl
  | r0 :: l, i + 1, r, h => by rw [rc_cons, show (i + 1) * 2 + 1 = i * 2 + 1 + 1 + 1 from by omega]; simpa using rc_hop l i r (by simpa using h)
  | [], i, r, h => by simp at h

theorem putR_hit : ∀ (l : List Rt) (i : Nat) (r : Rt) (b : ByteArray) (h : Nat), l[i]? = some r → r.bits = b → (∀ j r', j < i → l[j]? = some r' → r'.bits ≠ b) → putR l b h = l.set i ⟨r.bits, h⟩
  | r0 :: l, 0, r, b, h, hi, hb, _ => by simp at hi; subst hi; simp [putR, hb]
  | r0 :: l, i + 1, r, b, h, hi, hb, hn => by
    have h0 : r0.bits ≠ b := hn 0 r0 (by omega) rfl
    unfold putR
    rw [if_neg h0, putR_hit l i r b h (by simpa using hi) hb (fun j r' hj hr => hn (j + 1) r' (by omega) (by simpa using hr))]
    simp
  | [], i, r, b, h, hi, _, _ => by simp at hi
theorem putR_miss : ∀ (l : List Rt) (b : ByteArray) (h : Nat), (∀ (j : Nat) r', l[j]? = some r' → r'.bits ≠ b) → putR l b h = l ++ [⟨b, h⟩]
  | [], b, h, _ => rfl
  | r0 :: l, b, h, hn => by
    unfold putR
    rw [if_neg (hn 0 r0 rfl), putR_miss l b h (fun j r' hr => hn (j + 1) r' (by simpa using hr))]
    rfl
theorem rc_set : ∀ (l : List Rt) (i : Nat) (r : Rt) (h : Nat), l[i]? = some r → rc (l.set i ⟨r.bits, h⟩) = (rc l).set (i * 2 + 1) (.int .i64 (h : Nat))
  | r0 :: l, 0, r, h, hi => by simp at hi; subst hi; simp [rc_cons]
  | r0 :: l, i + 1, r, h, hi => by
    rw [rc_cons, show (i + 1) * 2 + 1 = i * 2 + 1 + 1 + 1 from by omega]
    simp only [List.set_cons_succ, rc_cons, List.cons.injEq, true_and]
    exact rc_set l i r h (by simpa using hi)
  | [], i, r, h, hi => by simp at hi

theorem own_some {w : World} {base : Nat} {e : TypeId} {size n cap : Nat} {ao : Option Addr} {xs : List Value} (h : w.ownsRow base e size (.slice ao n cap) n xs) (hn : 0 < n) : ∃ g, ao = some ⟨g, 0, none⟩ ∧ base ≤ g ∧ g < w.heap.size ∧ n ≤ cap ∧ cap ≤ maxLen := by
  rcases h.2 with ⟨_, h0⟩ | ⟨g, c, cur, hv, hb, hg, h1, h2, _⟩
  · omega
  · simp only [Value.slice.injEq] at hv
    obtain ⟨rfl, _, rfl⟩ := hv
    exact ⟨g, rfl, hb, (Array.getElem?_eq_some_iff.1 hg).1, h1, h2⟩

theorem Tryd.infoRefRoute : (Tryd.prog.info? 98).map (fun i => (i.zero, i.size, i.bytes)) = some (some (.agg #[.string ⟨#[]⟩, .int .i64 0]), 2, 24) := by kernel_rfl
set_option maxRecDepth 100000 in
theorem put_any (s : ByteArray) (B W p : Nat) (v : Value) (bad : Bool) (l : List Rt) (b : ByteArray) (h : Nat) (w : World) (hl : l.length ≤ 400) (hr : Rd w B s W p v bad) (hown : w.ownsRow (B + 1) 98 2 v l.length (rc l)) :
    Calls Tryd.prog 94 #[.pointer (some ⟨B, 0, none⟩), .string b, .int .i64 h] w fun e w' => e = .returned (.tuple #[]) ∧ ∃ v', Rd w' B s W p v' bad ∧ w'.ownsRow (B + 1) 98 2 v' (putR l b h).length (rc (putR l b h)) ∧ Below B w w' := by
  obtain ⟨ao, cap, rfl⟩ := own_shape hown
  obtain ⟨c0, c1, c2, c3, c4⟩ := hr.cells
  have hf := hr.free
  go_enter Tryd.func94, Tryd.ntmps94
  go_wp2_with fail
  go_loopg [6] l.length (fun g x wr => ∃ i : Nat, wr = w ∧ x = .int .i64 i ∧ g + i = l.length ∧ Hid (∀ (j : Nat) r', j < i → l[j]? = some r' → r'.bits ≠ b))
  case atStart => exact ⟨0, rfl, rfl, by omega, fun j r' hj => by omega⟩
  case round =>
    obtain ⟨i, rfl, rfl, hgi, HN⟩ := hrel
    by_cases hlt : i < l.length
    · obtain ⟨g, rfl, hg1, hg2, hg3, hg4⟩ := own_some hown (by omega)
      unfold maxLen at hg4
      have hb0 := (hown.cellAt (i * 2) (by omega)).trans (rc_bits l i l[i] (by simp))
      have hb1 := (hown.cellAt (i * 2 + 1) (by omega)).trans (rc_hop l i l[i] (by simp))
      have hh0 := hown.frozenAt (i * 2 + 1)
      by_cases hit : l[i].bits = b
      · go_wp2_with fail
        have hph := putR_hit l i l[i] b h (by simp) hit HN
        have hst := hown.stored (i * 2 + 1) (.int .i64 h)
        rw [← rc_set l i l[i] h (by simp)] at hst
        refine bodyPost_ret (results_none rfl _ _ _) rfl ⟨rfl, _, hr.kept hst.2 (by simp; omega), ?_, (Below.refl _ _).setCell (by simp; omega) _⟩
        rw [hph, List.length_set]; exact hst.1
      · have e1 := ba_ne hit
        go_wp2_with fail
        go_roundg (gk - 1)
        case measure => omega
        case rel =>
          refine ⟨i + 1, rfl, int_eq (by omega), by omega, ?_⟩
          intro j r' hj hr'
          by_cases hji : j = i
          · subst hji
            have : l[j] = r' := by rw [List.getElem?_eq_getElem hlt] at hr'; exact Option.some.inj hr'
            rw [← this]; exact hit
          · exact HN.out j r' (by omega) hr'
    · obtain ⟨i0, hi, hz0, hz1, hz2⟩ := info_parts Tryd.infoRefRoute
      have hsz : B + 1 ≤ wr.heap.size := hr.lt
      have HM : Hid (putR l b h = l ++ [⟨b, h⟩]) := putR_miss l b h fun j r' hr' => HN.out j r' (by
        have := (List.getElem?_eq_some_iff.1 hr').1; omega) hr'
      go_wp2_with (at_builtin; refine wpList_append_own _ rfl (.tmp 38) (.tmp 42) 66 rfl (B + 1) 98 i0 _ 2 24 Tryd.underlying66 hi hz0 hz1 hz2 rfl (by decide) _ _ _ rfl (hown.alloc _) ⟨wr.heap.size, 0, none⟩ 1 1 [.string b, .int .i64 h] rfl rfl ?c1 ?c2 ?c3 ?c4 ?c5 ?_)
      case c1 =>
        intro j u hj
        match j, hj with
        | 0, hj => simp at hj; subst hj; simp [Addr.add]
        | 1, hj => simp at hj; subst hj; simp [Addr.add]
      case c2 => intro u hu; simp at hu; rcases hu with rfl | rfl <;> rfl
      case c3 => unfold maxLen; omega
      case c4 => omega
      case c5 => simp; omega
      intro v' w2 hown2 hgrow _
      obtain ⟨ao2, cap2, rfl⟩ := own_shape hown2
      have hr2 : Rd w2 B s W p (.slice ao l.length cap) bad := (hr.kept (World.grownBy_alloc wr _ none) (by simp)).kept hgrow (by
        intro e; have := hown.lt B e.symm; omega)
      have hb2 : Below B wr w2 := ((Below.refl B wr).alloc (by omega) _).grown hgrow (by simp; omega) (fun k hk => by have := hown.lt k hk; omega)
      have hf2 := hr2.free
      obtain ⟨d0, d1, d2, d3, d4⟩ := hr2.cells
      go_wp2_with fail
      go_end0
      refine ⟨rfl, _, hr2.setL _, ?_, hb2.setCell (by simp) _⟩
      rw [HM.out, List.length_append, rc_snoc]
      exact hown2.kept (g_set (g_refl w2 _) _) (by
        cases hv : (Value.slice ao2 (l.length + 1) cap2).ownBlock with
        | none => exact .inl rfl
        | some k => exact .inr (by have := hown2.lt k hv; simp; omega))
end Go.Proofs.YtdfnmpmmkcpddaaDoor
