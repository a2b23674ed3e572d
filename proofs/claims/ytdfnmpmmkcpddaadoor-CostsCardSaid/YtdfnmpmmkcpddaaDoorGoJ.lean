/- The walks of the program's cost: deepenNodes, flatNodes. -/
import Derived.Test.YtdfnmpmmkcpddaaDoorGoI
import Derived.Deep.RegionLaw
namespace Go.Proofs.YtdfnmpmmkcpddaaDoor
open Go.RowKit

theorem step_append_own {P : Program} {ops : Array Oper} {o : Oper} {a : Act} {w : World} {K : Act → World → Prop} {Q : Exit → Act → World → Prop} {E : Prop}
    (hg : o.guard = none) (s x : Operand) (t : TypeId) (hop : o.op = Op.call { callee := Callee.builtin Builtin.append, args := #[s, x], argTypes := #[t, t] })
    (base : Nat) (e : TypeId) (i : TypeInfo) (z : Value) (size bytes : Nat) (h1 : P.underlying t = some (.slice e)) (h2 : P.info? e = some i) (h3 : i.zero = some z) (h4 : i.size = size) (h5 : i.bytes = bytes) (h6 : z.cells.size = size) (h7 : 0 < size)
    (v : Value) (n : Nat) (xs : List Value) (hs : a.eval s = v) (hown : w.ownsRow base e size v n xs)
    (ad : Addr) (m c : Nat) (news : List Value) (hx : a.eval x = .slice (some ad) m c) (hn : news.length = m * size) (hc : ∀ j u, news[j]? = some u → w.cell? (ad.add j) = some u) (h1c : ∀ u ∈ news, u.oneCell' = true)
    (b1 : n + m ≤ maxLen) (b2 : (n + m) * bytes ≤ 140737488355328) (b3 : base ≤ w.heap.size)
    (hK : ∀ v' w', w'.ownsRow base e size v' (n + m) (xs ++ news) → w.grownBy w' v.ownBlock → K (a.put o.dst v') w') :
    if Region.wanted o (yielded ops a.tmps) = true then Oper.wp P o a w K Q else E := by
  rw [if_pos (by simp [Region.wanted, hg])]
  exact wp_append_own w s x t hop base e i z size bytes h1 h2 h3 h4 h5 h6 h7 v n xs hs hown ad m c news hx hn hc h1c b1 b2 b3 fun v' w' h8 h9 _ => hK v' w' h8 h9

set_option maxRecDepth 100000 in
set_option maxHeartbeats 1000000 in
theorem deepenNodes_any (R : List Rt) (ns : List ByteArray) (k : Nat) (ao : Option Addr) (cap base : Nat) (w : World) (hR : Ord R) (hS : ∀ r ∈ R, r.bits.size ≤ 12) (hn : nodesF R = ns) (hk : 1 ≤ k) (hl : ns.length ≤ 400)
    (hown : w.ownsRow base 76 4 (.slice ao ns.length cap) ns.length (tnc (ns.map (nodeK R k)))) :
    Calls Tryd.prog 84 #[.slice ao ns.length cap] w fun e w' => ∃ ao' cap', e = .returned (.slice ao' ns.length cap') ∧ w'.ownsRow w.heap.size 76 4 (.slice ao' ns.length cap') ns.length (tnc (ns.map (nodeK R (k + 1)))) ∧ Below w.heap.size w w' := by
  obtain ⟨i0, hi, hz0, hz1, hz2⟩ := info_parts Tryd.infoTree
  have HC : Hid (∀ (ix : Nat) (wr : World) (ha : ix < ns.length), Below w.heap.size w wr → Calls Tryd.prog 97 #[.slice ao ns.length cap, .int .i64 ix] wr fun e w' => e = .returned (.agg #[.string ns[ix], .int .i64 (heightF R ns[ix]), .int .i64 (chF R (k + 1) ns[ix]), .int .i64 (costZ R (k + 1) ns[ix])]) ∧ Below wr.heap.size wr w') :=
    fun ix wr ha hb => deepenNode_any R ns k ix ao cap base wr hR hS hn hk hl ha (own_below hown hb)
  clear hR hS hn hk
  go_enter Tryd.func84, Tryd.ntmps84
  go_wp2_with fail
  go_loopg [3, 4] ns.length (fun g x y wr => ∃ (i : Nat) (o : List Tn), y = .int .i64 i ∧ g + i = ns.length ∧ o.length = i ∧ wr.ownsRow w.heap.size 76 4 x o.length (tnc o) ∧ Below w.heap.size w wr ∧ Hid (o = (ns.take i).map (nodeK R (k + 1))))
  case atStart => exact ⟨0, [], rfl, by omega, rfl, World.ownsRow_nil _ _ _ _, Below.refl _ _, rfl⟩
  case round =>
    obtain ⟨i, o, rfl, hgi, hol, hown2, hbel, HO⟩ := hrel
    obtain ⟨ao2, cap2, rfl⟩ := own_shape hown2
    by_cases hlt : i < ns.length
    · have hwz := hbel.size
      obtain ⟨b, hb⟩ : ∃ b, ns[i] = b := ⟨_, rfl⟩
      obtain ⟨h, hh⟩ : ∃ h, heightF R b = h := ⟨_, rfl⟩
      obtain ⟨st, hst⟩ : ∃ st, chF R (k + 1) b = st := ⟨_, rfl⟩
      obtain ⟨c, hc⟩ : ∃ c, costZ R (k + 1) b = c := ⟨_, rfl⟩
      have HCi : Hid (Calls Tryd.prog 97 #[.slice ao ns.length cap, .int .i64 i] wr fun e w' => e = .returned (.agg #[.string b, .int .i64 h, .int .i64 st, .int .i64 c]) ∧ Below wr.heap.size wr w') := by
        unfold Hid; have := HC.out i wr hlt hbel; rw [hb, hh, hst, hc] at this; exact this
      have HO2 : Hid (o ++ [⟨b, h, st, c⟩] = (ns.take (i + 1)).map (nodeK R (k + 1))) := by
        unfold Hid; rw [List.take_succ_eq_append_getElem hlt, List.map_append, ← HO.out, hb]; simp only [List.map_cons, List.map_nil, nodeK, hh, hst, hc]
      clear hb hh hst hc HC HO
      go_wp2_with fail
      refine HCi.out.mono ?_
      rintro e w3 ⟨rfl, hb3⟩
      rw [hol] at hown2
      have hown4 := own_below hown2 hb3
      have hz3 := hb3.size
      have hbel3 : Below w.heap.size w w3 := hbel.trans (hb3.mono hwz)
      go_wp2_with (at_builtin; refine wpList_append_own _ rfl (.tmp 15) (.tmp 17) 74 rfl w.heap.size 76 i0 _ 4 40 Tryd.underlying74 hi hz0 hz1 hz2 rfl (by decide) _ _ _ rfl ((hown4.alloc _).alloc _) ⟨w3.heap.size + 1, 0, none⟩ 1 1 [.string b, .int .i64 h, .int .i64 st, .int .i64 c] rfl rfl ?c1 ?c2 ?c3 ?c4 ?c5 ?_)
      case c1 =>
        intro j u hj
        match j, hj with
        | 0, hj => simp at hj; subst hj; simp [Addr.add]
        | 1, hj => simp at hj; subst hj; simp [Addr.add]
        | 2, hj => simp at hj; subst hj; simp [Addr.add]
        | 3, hj => simp at hj; subst hj; simp [Addr.add]
      case c2 => intro u hu; simp at hu; rcases hu with rfl | rfl | rfl | rfl <;> rfl
      case c3 => unfold maxLen; omega
      case c4 => omega
      case c5 => simp; omega
      intro v' w4 hown5 hgrow _
      have hb5 : Below w.heap.size w w4 := ((hbel3.alloc hbel3.size _).alloc (by simp; omega) _).grown hgrow (by simp; omega) (fun k hk => by have := hown4.lt k hk; omega)
      go_wp2_with fail
      go_roundg (gk - 1)
      case measure => omega
      case rel => exact ⟨i + 1, o ++ [⟨b, h, st, c⟩], int_eq (by omega), by omega, by simp; omega, by rw [List.length_append, tnc_snoc, hol]; exact hown5, hb5, HO2⟩
    · go_wp2_with fail
      go_ret
      have hh := HO.out
      have hin : i = ns.length := by omega
      rw [List.take_of_length_le (by omega)] at hh
      rw [← hh]
      rw [← hin, ← hol]
      exact ⟨_, _, rfl, hown2, hbel⟩
end Go.Proofs.YtdfnmpmmkcpddaaDoor
