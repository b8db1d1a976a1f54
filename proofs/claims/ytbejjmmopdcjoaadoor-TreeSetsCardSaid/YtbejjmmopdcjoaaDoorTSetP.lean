/-
  tree: Set: contract.
-/
import Derived.Test.YtbejjmmopdcjoaaDoorTNil
import Derived.Test.YtbejjmmopdcjoaaDoorWTreeOthers
namespace Go.Proofs.YtbejjmmopdcjoaaDoor
open Go.RowKit Go.Deep

/-- a tree in memory whose leaves and levels are whatever lists -/
structure PartG (w : World) (Lo T k : Nat) (l0 : List Nat) (lev : Nat → List Nat) : Prop where
  lo : Lo ≤ T
  ex : ∃ (cur : Array Value) (g0 c0 : Nat) (g c : Nat → Nat), w.heap[T]? = some (.cells cur 80 (0, 0)) ∧ cur.size = 14 ∧ cur[0]? = some (.slice (some ⟨g0, 0, none⟩) l0.length c0) ∧ OwnD w 26 Lo (some ⟨g0, 0, none⟩) l0.length c0 l0 ∧ g0 ≠ T ∧ (∀ h, h < k → cur[1 + h]? = some (.slice (some ⟨g h, 0, none⟩) (lev h).length (c h)) ∧ OwnD w 26 Lo (some ⟨g h, 0, none⟩) (lev h).length (c h) (lev h) ∧ g h ≠ T ∧ g h ≠ g0) ∧ (∀ h h', h < k → h' < k → h ≠ h' → g h ≠ g h')
theorem TrAt.partG {w : World} {Lo T : Nat} {l : List Nat} (h : TrAt w Lo T l) : PartG w Lo T (hgt l.length + 1) l (levX l) := by
  obtain ⟨cur, g0, c0, g, c, h1, h2, h3, h4, h5, h6, h7, h8⟩ := h.part.ex
  exact ⟨h.part.lo, cur, g0, c0, g, c, h1, h2, h3, h4, h5, fun j hj => ⟨(h7 j hj).1, (h7 j hj).2.1, (h7 j hj).2.2.1, (h7 j hj).2.2.2.1⟩, h8⟩
theorem PartG.trAt {w : World} {Lo T : Nat} {l : List Nat} (hs : Small l) (n1 : 1 ≤ l.length) (n2 : l.length ≤ 4096) (h : PartG w Lo T (hgt l.length + 1) l (levX l)) : TrAt w Lo T l := by
  obtain ⟨cur, g0, c0, g, c, h1, h2, h3, h4, h5, h7, h8⟩ := h.ex
  exact ⟨hs, n1, n2, ⟨h.lo, fun e => e.elim, cur, g0, c0, g, c, h1, h2, h3, h4, h5, fun e => e.elim, fun j hj => ⟨(h7 j hj).1, (h7 j hj).2.1, (h7 j hj).2.2.1, (h7 j hj).2.2.2, fun e => e.elim⟩, h8⟩⟩
theorem PartG.same {w : World} {Lo T k : Nat} {l0 : List Nat} {lev lev' : Nat → List Nat} (h : PartG w Lo T k l0 lev) (he : ∀ j, j < k → lev' j = lev j) : PartG w Lo T k l0 lev' := by
  obtain ⟨cur, g0, c0, g, c, h1, h2, h3, h4, h5, h7, h8⟩ := h.ex
  exact ⟨h.lo, cur, g0, c0, g, c, h1, h2, h3, h4, h5, fun j hj => by rw [he j hj]; exact h7 j hj, h8⟩
theorem PartG.tlt {w : World} {Lo T k : Nat} {l0 : List Nat} {lev : Nat → List Nat} (h : PartG w Lo T k l0 lev) : T < w.heap.size := by
  obtain ⟨cur, g0, c0, g, c, h1, _⟩ := h.ex
  exact (Array.getElem?_eq_some_iff.1 h1).1
theorem PartG.ext {w w' : World} {Lo T k : Nat} {l0 : List Nat} {lev : Nat → List Nat} (h : PartG w Lo T k l0 lev) (hb : Below w.heap.size w w') : PartG w' Lo T k l0 lev := by
  obtain ⟨cur, g0, c0, g, c, h1, h2, h3, h4, h5, h7, h8⟩ := h.ex
  exact ⟨h.lo, cur, g0, c0, g, c, keepB hb h1, h2, h3, h4.ext hb, h5, fun j hj => ⟨(h7 j hj).1, (h7 j hj).2.1.ext hb, (h7 j hj).2.2⟩, h8⟩
/-- the leaves' row: a leaf is written, in whatever world that has at most new blocks -/
theorem PartG.leaf {w : World} {Lo T k : Nat} {l0 : List Nat} {lev : Nat → List Nat} (h : PartG w Lo T k l0 lev) {i x : Nat} (hi : i < l0.length) (hx : x < 18446744073709551616) : ∃ g c, w.cell? ⟨T, 0, none⟩ = some (.slice (some ⟨g, 0, none⟩) l0.length c) ∧ g ≠ T ∧ Lo ≤ g ∧ g < w.heap.size ∧ l0.length ≤ c ∧ ∀ v : World, Below w.heap.size w v → RowK v 26 g c (fun j => l0.getD j 0) l0.length ∧ PartG (World.setCell (World.setCell (World.setCell (World.setCell (World.setCell (World.setCell (World.setCell (World.setCell v ⟨g, i * 8, none⟩ (.int .u8 (byt x 0))) ⟨g, i * 8 + 1, none⟩ (.int .u8 (byt x 1))) ⟨g, i * 8 + 2, none⟩ (.int .u8 (byt x 2))) ⟨g, i * 8 + 3, none⟩ (.int .u8 (byt x 3))) ⟨g, i * 8 + 4, none⟩ (.int .u8 (byt x 4))) ⟨g, i * 8 + 5, none⟩ (.int .u8 (byt x 5))) ⟨g, i * 8 + 6, none⟩ (.int .u8 (byt x 6))) ⟨g, i * 8 + 7, none⟩ (.int .u8 (byt x 7))) Lo T k (l0.set i x) lev := by
  obtain ⟨cur, g0, c0, g, c, h1, h2, h3, h4, h5, h7, h8⟩ := h.ex
  obtain ⟨k1, k2, k3⟩ := h4.rowK
  refine ⟨g0, c0, by rw [cell_of_row w T 0 _ _ _ h1]; exact h3, h5, k2, k1.lt, k3, fun v hv => ⟨k1.ext hv, h.lo, cur, g0, c0, g, c, (put_other v g0 T i x h5.symm).trans (keepB hv h1), h2, by rw [List.length_set]; exact h3, by rw [List.length_set]; exact (h4.ext hv).put hi hx, h5, fun j hj => ?_, h8⟩⟩
  obtain ⟨q1, q2, q3, q4⟩ := h7 j hj
  exact ⟨q1, (q2.ext hv).keep (put_other v g0 _ i x q4), q3, q4⟩
/-- a level's row: a node is written, in whatever world that has at most new blocks -/
theorem PartG.node {w : World} {Lo T k : Nat} {l0 : List Nat} {lev : Nat → List Nat} (h : PartG w Lo T k l0 lev) {hh i x : Nat} (hk : hh < k) (hi : i < (lev hh).length) (hx : x < 18446744073709551616) : ∃ g c, w.cell? ⟨T, 1 + hh, none⟩ = some (.slice (some ⟨g, 0, none⟩) (lev hh).length c) ∧ g ≠ T ∧ Lo ≤ g ∧ g < w.heap.size ∧ (lev hh).length ≤ c ∧ (∀ v : World, Below w.heap.size w v → RowK v 26 g c (fun j => (lev hh).getD j 0) (lev hh).length ∧ PartG (World.setCell (World.setCell (World.setCell (World.setCell (World.setCell (World.setCell (World.setCell (World.setCell v ⟨g, i * 8, none⟩ (.int .u8 (byt x 0))) ⟨g, i * 8 + 1, none⟩ (.int .u8 (byt x 1))) ⟨g, i * 8 + 2, none⟩ (.int .u8 (byt x 2))) ⟨g, i * 8 + 3, none⟩ (.int .u8 (byt x 3))) ⟨g, i * 8 + 4, none⟩ (.int .u8 (byt x 4))) ⟨g, i * 8 + 5, none⟩ (.int .u8 (byt x 5))) ⟨g, i * 8 + 6, none⟩ (.int .u8 (byt x 6))) ⟨g, i * 8 + 7, none⟩ (.int .u8 (byt x 7))) Lo T k l0 (fun j => if j = hh then (lev hh).set i x else lev j)) ∧ (∀ h2, h2 < k → h2 ≠ hh → ∃ g2 c2, w.cell? ⟨T, 1 + h2, none⟩ = some (.slice (some ⟨g2, 0, none⟩) (lev h2).length c2) ∧ g2 ≠ g ∧ RdD w (some ⟨g2, 0, none⟩) (lev h2).length c2 (lev h2)) := by
  obtain ⟨cur, g0, c0, g, c, h1, h2, h3, h4, h5, h7, h8⟩ := h.ex
  obtain ⟨q1, q2, q3, q4⟩ := h7 hh hk
  obtain ⟨k1, k2, k3⟩ := q2.rowK
  refine ⟨g hh, c hh, by rw [cell_of_row w T _ _ _ _ h1]; exact q1, q3, k2, k1.lt, k3, fun v hv => ⟨k1.ext hv, h.lo, cur, g0, c0, g, c, (put_other v (g hh) T i x q3.symm).trans (keepB hv h1), h2, h3, (h4.ext hv).keep (put_other v (g hh) _ i x q4.symm), h5, fun j hj => ?_, h8⟩, fun j hj hne => ?_⟩
  · by_cases e : j = hh
    · subst e
      simp only [if_true]
      exact ⟨by rw [List.length_set]; exact q1, by rw [List.length_set]; exact (q2.ext hv).put hi hx, q3, q4⟩
    · obtain ⟨r1, r2, r3, r4⟩ := h7 j hj
      simp only [if_neg e]
      exact ⟨r1, (r2.ext hv).keep (put_other v (g hh) _ i x (h8 j hh hj hk e)), r3, r4⟩
  · obtain ⟨r1, r2, r3, r4⟩ := h7 j hj
    exact ⟨g j, c j, by rw [cell_of_row w T _ _ _ _ h1]; exact r1, h8 j hh hj hk hne, r2.rd⟩
/-- the levels while a leaf is set: the lowest ones are those of the new leaves -/
def levM (l l' : List Nat) (m : Nat) (h : Nat) : List Nat := if h < m then levX l' h else levX l h
theorem levX_set (l : List Nat) (i x h : Nat) (hi : i < l.length) : (levX l h).set (i / 2 ^ h) (nd (l.set i x) h (i / 2 ^ h)) = levX (l.set i x) h := by
  have hp := place_lt hi h
  have key : ∀ n, i / 2 ^ h < n → ((List.range n).map (nd l h)).set (i / 2 ^ h) (nd (l.set i x) h (i / 2 ^ h)) = (List.range n).map (nd (l.set i x) h) := fun n hn => by
    apply List.ext_getElem
    · simp
    · intro j h1 h2
      rw [List.getElem_set]
      by_cases e : i / 2 ^ h = j
      · rw [if_pos e]
        simp [← e]
      · rw [if_neg e]
        simp [nd_set l i x h j (fun e2 => e e2.symm)]
  unfold levX levelP level
  rw [List.length_set]
  split
  · exact key _ (by omega)
  · exact key _ hp
theorem levX_len (l : List Nat) (i x h : Nat) : (levX (l.set i x) h).length = (levX l h).length := by
  unfold levX
  rw [List.length_set]
  split
  · rw [levelP_len, levelP_len, List.length_set]
  · rw [level_len, level_len, List.length_set]
theorem levX_at {l : List Nat} {h k : Nat} (hk : k < wid l.length h) : (levX l h).getD k 0 = nd l h k := by
  unfold levX
  split
  · exact levelP_get (by omega)
  · exact level_get hk
theorem levX_atP {l : List Nat} {h k : Nat} (hh : h < hgt l.length) (hk : k < wid l.length h + wid l.length h % 2) : (levX l h).getD k 0 = nd l h k := by
  rw [levX_low hh]
  exact levelP_get hk
theorem levX_wid {l : List Nat} {h k : Nat} (hk : k < wid l.length h) : k < (levX l h).length := by
  unfold levX
  split
  · rw [levelP_len]; omega
  · rw [level_len]; exact hk
#print axioms PartG.node
#print axioms levX_set
end Go.Proofs.YtbejjmmopdcjoaaDoor
