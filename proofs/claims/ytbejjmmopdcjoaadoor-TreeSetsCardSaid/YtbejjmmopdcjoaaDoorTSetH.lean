/-
  tree: Set: contract, with the blocks made after the tree.
-/
import Derived.Test.YtbejjmmopdcjoaaDoorTSet
namespace Go.Proofs.YtbejjmmopdcjoaaDoor
open Go.RowKit Go.Deep

/-- as PartG, and every block of the tree lies below Hi -/
structure PartH (w : World) (Lo Hi T k : Nat) (l0 : List Nat) (lev : Nat → List Nat) : Prop where
  lo : Lo ≤ T
  hi : T < Hi
  ex : ∃ (cur : Array Value) (g0 c0 : Nat) (g c : Nat → Nat), w.heap[T]? = some (.cells cur 80 (0, 0)) ∧ cur.size = 14 ∧ cur[0]? = some (.slice (some ⟨g0, 0, none⟩) l0.length c0) ∧ OwnD w 26 Lo (some ⟨g0, 0, none⟩) l0.length c0 l0 ∧ g0 ≠ T ∧ g0 < Hi ∧ (∀ h, h < k → cur[1 + h]? = some (.slice (some ⟨g h, 0, none⟩) (lev h).length (c h)) ∧ OwnD w 26 Lo (some ⟨g h, 0, none⟩) (lev h).length (c h) (lev h) ∧ g h ≠ T ∧ g h ≠ g0 ∧ g h < Hi) ∧ (∀ h h', h < k → h' < k → h ≠ h' → g h ≠ g h')
theorem TrAt.partH {w : World} {Lo T : Nat} {l : List Nat} (h : TrAt w Lo T l) : PartH w Lo w.heap.size T (hgt l.length + 1) l (levX l) := by
  obtain ⟨cur, g0, c0, g, c, h1, h2, h3, h4, h5, h6, h7, h8⟩ := h.part.ex
  exact ⟨h.part.lo, h.part.tlt, cur, g0, c0, g, c, h1, h2, h3, h4, h5, h4.at_lt, fun j hj => ⟨(h7 j hj).1, (h7 j hj).2.1, (h7 j hj).2.2.1, (h7 j hj).2.2.2.1, (h7 j hj).2.1.at_lt⟩, h8⟩
theorem PartH.partG {w : World} {Lo Hi T k : Nat} {l0 : List Nat} {lev : Nat → List Nat} (h : PartH w Lo Hi T k l0 lev) : PartG w Lo T k l0 lev := by
  obtain ⟨cur, g0, c0, g, c, h1, h2, h3, h4, h5, h6, h7, h8⟩ := h.ex
  exact ⟨h.lo, cur, g0, c0, g, c, h1, h2, h3, h4, h5, fun j hj => ⟨(h7 j hj).1, (h7 j hj).2.1, (h7 j hj).2.2.1, (h7 j hj).2.2.2.1⟩, h8⟩
theorem PartH.same {w : World} {Lo Hi T k : Nat} {l0 : List Nat} {lev lev' : Nat → List Nat} (h : PartH w Lo Hi T k l0 lev) (he : ∀ j, j < k → lev' j = lev j) : PartH w Lo Hi T k l0 lev' := by
  obtain ⟨cur, g0, c0, g, c, h1, h2, h3, h4, h5, h6, h7, h8⟩ := h.ex
  exact ⟨h.lo, h.hi, cur, g0, c0, g, c, h1, h2, h3, h4, h5, h6, fun j hj => by rw [he j hj]; exact h7 j hj, h8⟩
theorem PartH.tlt {w : World} {Lo Hi T k : Nat} {l0 : List Nat} {lev : Nat → List Nat} (h : PartH w Lo Hi T k l0 lev) : T < w.heap.size := h.partG.tlt
theorem PartH.ext {w w' : World} {Lo Hi T k : Nat} {l0 : List Nat} {lev : Nat → List Nat} (h : PartH w Lo Hi T k l0 lev) (hb : Below w.heap.size w w') : PartH w' Lo Hi T k l0 lev := by
  obtain ⟨cur, g0, c0, g, c, h1, h2, h3, h4, h5, h6, h7, h8⟩ := h.ex
  exact ⟨h.lo, h.hi, cur, g0, c0, g, c, keepB hb h1, h2, h3, h4.ext hb, h5, h6, fun j hj => ⟨(h7 j hj).1, (h7 j hj).2.1.ext hb, (h7 j hj).2.2⟩, h8⟩
theorem OwnD.at_ge {w : World} {E : TypeId} {B b n c : Nat} {xs : List Nat} (h : OwnD w E B (some ⟨b, 0, none⟩) n c xs) : B ≤ b := h.rowK.2.1
/-- what lies from Lo below Hi is as it was -/
theorem PartH.keepIn {w w' : World} {Lo Hi T k : Nat} {l0 : List Nat} {lev : Nat → List Nat} (h : PartH w Lo Hi T k l0 lev) (hk : ∀ b, Lo ≤ b → b < Hi → b < w.heap.size → w'.heap[b]? = w.heap[b]?) : PartH w' Lo Hi T k l0 lev := by
  obtain ⟨cur, g0, c0, g, c, h1, h2, h3, h4, h5, h6, h7, h8⟩ := h.ex
  refine ⟨h.lo, h.hi, cur, g0, c0, g, c, (hk T h.lo h.hi h.tlt).trans h1, h2, h3, h4.keep (hk g0 h4.at_ge h6 h4.at_lt), h5, h6, fun j hj => ?_, h8⟩
  obtain ⟨k1, k2, k3, k4, k5⟩ := h7 j hj
  exact ⟨k1, k2.keep (hk _ k2.at_ge k5 k2.at_lt), k3, k4, k5⟩
/-- a tree in memory whose blocks lie from Lo below Hi -/
structure TrIn (w : World) (Lo Hi T : Nat) (l : List Nat) : Prop where
  small : Small l
  n1 : 1 ≤ l.length
  n2 : l.length ≤ 4096
  part : PartH w Lo Hi T (hgt l.length + 1) l (levX l)
theorem TrIn.tr {w : World} {Lo Hi T : Nat} {l : List Nat} (h : TrIn w Lo Hi T l) : TrAt w Lo T l := PartG.trAt h.small h.n1 h.n2 h.part.partG
theorem TrAt.trIn {w : World} {Lo T : Nat} {l : List Nat} (h : TrAt w Lo T l) : TrIn w Lo w.heap.size T l := ⟨h.small, h.n1, h.n2, h.partH⟩
theorem TrIn.ext {w w' : World} {Lo Hi T : Nat} {l : List Nat} (h : TrIn w Lo Hi T l) (hb : Below w.heap.size w w') : TrIn w' Lo Hi T l := ⟨h.small, h.n1, h.n2, h.part.ext hb⟩
theorem TrIn.keepIn {w w' : World} {Lo Hi T : Nat} {l : List Nat} (h : TrIn w Lo Hi T l) (hk : ∀ b, Lo ≤ b → b < Hi → b < w.heap.size → w'.heap[b]? = w.heap[b]?) : TrIn w' Lo Hi T l := ⟨h.small, h.n1, h.n2, h.part.keepIn hk⟩
/-- only blocks from Lo below Hi, and new ones, may have changed -/
structure Span (Lo Hi : Nat) (w w' : World) : Prop where
  below : Below Lo w w'
  rest : ∀ k, Hi ≤ k → k < w.heap.size → w'.heap[k]? = w.heap[k]?
theorem Span.of {Lo Hi : Nat} {w w' : World} (h : Below w.heap.size w w') (hl : Lo ≤ w.heap.size) : Span Lo Hi w w' := ⟨h.mono hl, fun k _ h2 => h.block k h2⟩
theorem Span.more {Lo Hi : Nat} {w v v' : World} (h : Span Lo Hi w v) (hb : Below v.heap.size v v') (hl : Lo ≤ w.heap.size) : Span Lo Hi w v' :=
  ⟨h.below.trans (hb.mono (Nat.le_trans hl h.below.size)), fun k h1 h2 => (hb.block k (Nat.lt_of_lt_of_le h2 h.below.size)).trans (h.rest k h1 h2)⟩
theorem Span.row {Lo Hi : Nat} {w v : World} {b j x : Nat} (h : Span Lo Hi w v) (hl : Lo ≤ w.heap.size) (h1 : Lo ≤ b) (h2 : b < Hi) : Span Lo Hi w (World.setCell (World.setCell (World.setCell (World.setCell (World.setCell (World.setCell (World.setCell (World.setCell v ⟨b, j * 8, none⟩ (.int .u8 (byt x 0))) ⟨b, j * 8 + 1, none⟩ (.int .u8 (byt x 1))) ⟨b, j * 8 + 2, none⟩ (.int .u8 (byt x 2))) ⟨b, j * 8 + 3, none⟩ (.int .u8 (byt x 3))) ⟨b, j * 8 + 4, none⟩ (.int .u8 (byt x 4))) ⟨b, j * 8 + 5, none⟩ (.int .u8 (byt x 5))) ⟨b, j * 8 + 6, none⟩ (.int .u8 (byt x 6))) ⟨b, j * 8 + 7, none⟩ (.int .u8 (byt x 7))) :=
  ⟨below_row h.below hl h1, fun k hk hk2 => (put_other v b k j x (by omega)).trans (h.rest k hk hk2)⟩
/-- the leaves' row: a leaf is written, in whatever world that has at most new blocks -/
theorem PartH.leaf {w : World} {Lo Hi T k : Nat} {l0 : List Nat} {lev : Nat → List Nat} (h : PartH w Lo Hi T k l0 lev) {i x : Nat} (hi : i < l0.length) (hx : x < 18446744073709551616) : ∃ g c, w.cell? ⟨T, 0, none⟩ = some (.slice (some ⟨g, 0, none⟩) l0.length c) ∧ g ≠ T ∧ Lo ≤ g ∧ g < w.heap.size ∧ g < Hi ∧ l0.length ≤ c ∧ ∀ v : World, Below w.heap.size w v → RowK v 26 g c (fun j => l0.getD j 0) l0.length ∧ PartH (World.setCell (World.setCell (World.setCell (World.setCell (World.setCell (World.setCell (World.setCell (World.setCell v ⟨g, i * 8, none⟩ (.int .u8 (byt x 0))) ⟨g, i * 8 + 1, none⟩ (.int .u8 (byt x 1))) ⟨g, i * 8 + 2, none⟩ (.int .u8 (byt x 2))) ⟨g, i * 8 + 3, none⟩ (.int .u8 (byt x 3))) ⟨g, i * 8 + 4, none⟩ (.int .u8 (byt x 4))) ⟨g, i * 8 + 5, none⟩ (.int .u8 (byt x 5))) ⟨g, i * 8 + 6, none⟩ (.int .u8 (byt x 6))) ⟨g, i * 8 + 7, none⟩ (.int .u8 (byt x 7))) Lo Hi T k (l0.set i x) lev := by
  obtain ⟨cur, g0, c0, g, c, h1, h2, h3, h4, h5, h6, h7, h8⟩ := h.ex
  obtain ⟨k1, k2, k3⟩ := h4.rowK
  refine ⟨g0, c0, by rw [cell_of_row w T 0 _ _ _ h1]; exact h3, h5, k2, k1.lt, h6, k3, fun v hv => ⟨k1.ext hv, h.lo, h.hi, cur, g0, c0, g, c, (put_other v g0 T i x h5.symm).trans (keepB hv h1), h2, by rw [List.length_set]; exact h3, by rw [List.length_set]; exact (h4.ext hv).put hi hx, h5, h6, fun j hj => ?_, h8⟩⟩
  obtain ⟨q1, q2, q3, q4, q5⟩ := h7 j hj
  exact ⟨q1, (q2.ext hv).keep (put_other v g0 _ i x q4), q3, q4, q5⟩
/-- a level's row: a node is written, in whatever world that has at most new blocks -/
theorem PartH.node {w : World} {Lo Hi T k : Nat} {l0 : List Nat} {lev : Nat → List Nat} (h : PartH w Lo Hi T k l0 lev) {hh i x : Nat} (hk : hh < k) (hi : i < (lev hh).length) (hx : x < 18446744073709551616) : ∃ g c, w.cell? ⟨T, 1 + hh, none⟩ = some (.slice (some ⟨g, 0, none⟩) (lev hh).length c) ∧ g ≠ T ∧ Lo ≤ g ∧ g < w.heap.size ∧ g < Hi ∧ (lev hh).length ≤ c ∧ (∀ v : World, Below w.heap.size w v → RowK v 26 g c (fun j => (lev hh).getD j 0) (lev hh).length ∧ PartH (World.setCell (World.setCell (World.setCell (World.setCell (World.setCell (World.setCell (World.setCell (World.setCell v ⟨g, i * 8, none⟩ (.int .u8 (byt x 0))) ⟨g, i * 8 + 1, none⟩ (.int .u8 (byt x 1))) ⟨g, i * 8 + 2, none⟩ (.int .u8 (byt x 2))) ⟨g, i * 8 + 3, none⟩ (.int .u8 (byt x 3))) ⟨g, i * 8 + 4, none⟩ (.int .u8 (byt x 4))) ⟨g, i * 8 + 5, none⟩ (.int .u8 (byt x 5))) ⟨g, i * 8 + 6, none⟩ (.int .u8 (byt x 6))) ⟨g, i * 8 + 7, none⟩ (.int .u8 (byt x 7))) Lo Hi T k l0 (fun j => if j = hh then (lev hh).set i x else lev j)) ∧ (∀ h2, h2 < k → h2 ≠ hh → ∃ g2 c2, w.cell? ⟨T, 1 + h2, none⟩ = some (.slice (some ⟨g2, 0, none⟩) (lev h2).length c2) ∧ g2 ≠ g ∧ RdD w (some ⟨g2, 0, none⟩) (lev h2).length c2 (lev h2)) := by
  obtain ⟨cur, g0, c0, g, c, h1, h2, h3, h4, h5, h6, h7, h8⟩ := h.ex
  obtain ⟨q1, q2, q3, q4, q5⟩ := h7 hh hk
  obtain ⟨k1, k2, k3⟩ := q2.rowK
  refine ⟨g hh, c hh, by rw [cell_of_row w T _ _ _ _ h1]; exact q1, q3, k2, k1.lt, q5, k3, fun v hv => ⟨k1.ext hv, h.lo, h.hi, cur, g0, c0, g, c, (put_other v (g hh) T i x q3.symm).trans (keepB hv h1), h2, h3, (h4.ext hv).keep (put_other v (g hh) _ i x q4.symm), h5, h6, fun j hj => ?_, h8⟩, fun j hj hne => ?_⟩
  · by_cases e : j = hh
    · subst e
      simp only [if_true]
      exact ⟨by rw [List.length_set]; exact q1, by rw [List.length_set]; exact (q2.ext hv).put hi hx, q3, q4, q5⟩
    · obtain ⟨r1, r2, r3, r4, r5⟩ := h7 j hj
      simp only [if_neg e]
      exact ⟨r1, (r2.ext hv).keep (put_other v (g hh) _ i x (h8 j hh hj hk e)), r3, r4, r5⟩
  · obtain ⟨r1, r2, r3, r4, r5⟩ := h7 j hj
    exact ⟨g j, c j, by rw [cell_of_row w T _ _ _ _ h1]; exact r1, h8 j hh hj hk hne, r2.rd⟩
set_option maxRecDepth 100000 in
set_option maxHeartbeats 8000000 in
theorem set_okH (w : World) (Lo Hi T : Nat) (l : List Nat) (i x : Nat) (h : Hid (TrIn w Lo Hi T l)) (hi : i < l.length) (hx : x < 18446744073709551616) : Calls Tryd.prog 25 #[.pointer (some ⟨T, 0, none⟩), .int .i64 i, digV x] w (fun e w' => e = .returned (.int .i64 0) ∧ TrIn w' Lo Hi T (l.set i x) ∧ Span Lo Hi w w') := by
  have HD := Lib.hid (show decide (0 ≤ (i : Int) ∧ (i : Int) < (l.length : Int)) = true from decide_eq_true ⟨by omega, by omega⟩)
  have HH := Lib.hid (heightI_ok h.out.n1 h.out.n2)
  have H12 := hgt_le h.out.n2
  have N1 := Lib.hid h.out.n1
  have N2 := Lib.hid h.out.n2
  have HSm := Lib.hid h.out.small
  have LoW : Lo ≤ w.heap.size := Nat.le_of_lt (Nat.lt_of_le_of_lt h.out.part.lo h.out.part.tlt)
  obtain ⟨l', hl'⟩ : ∃ l', l' = l.set i x := ⟨_, rfl⟩
  have HL' := Lib.hid hl'
  have HLen : Hid (l'.length = l.length) := by show _ = _; rw [hl', List.length_set]
  have HSm' : Hid (Small l') := fun z hz => by
    rw [hl'] at hz
    rcases List.mem_or_eq_of_mem_set hz with q | q
    · exact HSm.out z q
    · rw [q]; exact hx
  obtain ⟨H, hH⟩ : ∃ H, H = hgt l.length := ⟨_, rfl⟩
  have HHE := Lib.hid hH
  obtain ⟨n, hn⟩ : ∃ n, n = l.length := ⟨_, rfl⟩
  have HN := Lib.hid hn
  have n4 : n ≤ 4096 := by rw [hn]; exact N2.out
  rw [← hH] at HH H12
  rw [← hl']
  rw [← hn] at HH hi
  clear hl' hH hn
  unfold digV
  go_enter Tryd.func25, Tryd.ntmps25
  go_wp2_with fail
  refine (has_c _ Lo T l (i : Int) (Lib.hid (h.out.tr.ext (ext_alloc _ _)))).mono ?_
  rw [HD.out]
  rintro e w1 ⟨rfl, rfl⟩
  go_upto_region 5 with fail
  generalize hW : World.alloc w (.cells #[.int .u8 (byt x 0), .int .u8 (byt x 1), .int .u8 (byt x 2), .int .u8 (byt x 3), .int .u8 (byt x 4), .int .u8 (byt x 5), .int .u8 (byt x 6), .int .u8 (byt x 7)] 26) = W
  have DX : Hid (W.heap[w.heap.size]? = some (.cells #[.int .u8 (byt x 0), .int .u8 (byt x 1), .int .u8 (byt x 2), .int .u8 (byt x 3), .int .u8 (byt x 4), .int .u8 (byt x 5), .int .u8 (byt x 6), .int .u8 (byt x 7)] 26 (0, 0))) := by rw [← hW]; exact Go.heap_alloc_new w _
  have B : Hid (Span Lo Hi w W) := by rw [← hW]; exact Span.of (ext_alloc w _) LoW
  have PG : Hid (PartH W Lo Hi T (H + 1) l (levX l)) := by rw [← hW, HHE.out]; exact (h.out.ext (ext_alloc w _)).part
  have GW : ∀ g c, W.cell? ⟨T, 0, none⟩ = some (.slice (some ⟨g, 0, none⟩) n c) → g ≠ w.heap.size := fun g c e => by
    obtain ⟨g0, c0, e1, k1, _⟩ := h.out.tr.leaves
    have e2 : W.cell? ⟨T, 0, none⟩ = some (.slice (some ⟨g0, 0, none⟩) l.length c0) := by rw [← hW]; exact ((ext_alloc w _).cell (p := ⟨T, 0, none⟩) h.out.part.tlt).trans e1
    rw [e] at e2
    have e3 : g = g0 := by injection e2 with e2; injection e2 with e2; injection e2 with e2; injection e2 with e2
    have := k1.lt
    omega
  clear hW h
  have tl := PG.out.tlt
  obtain ⟨g, c, tc', gT, Lg, gl, gH, nc, KV⟩ := PG.out.leaf (i := i) (x := x) (by rw [← HN.out]; exact hi) hx
  rw [← HN.out] at tc' KV nc
  have gw : g ≠ w.heap.size := GW g c tc'
  have tc := Lib.hid tc'
  have HKV := Lib.hid KV
  have iI : (i : Int) < (n : Int) := by omega
  have iI0 : (0 : Int) ≤ (i : Int) := by omega
  clear tc' KV GW
  refine wp_region_schedF (fin := 7) (fun u => Below W.heap.size W u) [(true, 0), (true, 1), (true, 2), (true, 3), (true, 4), (true, 5), (true, 6), (false, 7)] (by kernel_rfl) rfl (by kernel_rfl) (by kernel_rfl) (by kernel_rfl) (fun _ _ d _ _ h => by cases d <;> exact h) (ext_drew W) ?_
  intro J0 hJ0
  iterate 7 (refine schedF_pure (v := ?_) rfl (by rfl) ?_ ?_; rotate_left; (focus (intro u hC; obtain ⟨d0, d1, d2, d3, d4, d5, d6, d7, _, _, _, _, _, _, _, _⟩ := full8 (keepB hC DX.out); have t0 := (hC.cell (p := ⟨T, 0, none⟩) tl).trans tc.out; go_simp; try with_reducible rfl)); try go_simp)
  have Q : Hid (Below W.heap.size W W.drew) := Lib.hid (ext_drew W)
  generalize W.drew = V at *
  obtain ⟨RKV, PGV⟩ := HKV.out V Q.out
  obtain ⟨y0, y1, y2, y3, y4, y5, y6, y7, p0, p1, p2, p3, p4, p5, p6, p7, q0, q1, q2, q3, q4, q5, q6, q7⟩ := RKV.place (j := i) (by omega)
  refine schedF_eff rfl ?_
  intro J hJ
  go_wp2_with fail
  first | refine hJ0 _ _ ?_ | (refine ⟨by first | exact fun h => absurd rfl h | trivial, ?_⟩; refine schedF_nil (hJ0 _ _ ?_))
  rw [show l.set i x = l' from HL'.out.symm] at PGV
  replace PG := Lib.hid PGV
  replace DX : Hid ((World.setCell (World.setCell (World.setCell (World.setCell (World.setCell (World.setCell (World.setCell (World.setCell V ⟨g, i * 8, none⟩ (.int .u8 (byt x 0))) ⟨g, i * 8 + 1, none⟩ (.int .u8 (byt x 1))) ⟨g, i * 8 + 2, none⟩ (.int .u8 (byt x 2))) ⟨g, i * 8 + 3, none⟩ (.int .u8 (byt x 3))) ⟨g, i * 8 + 4, none⟩ (.int .u8 (byt x 4))) ⟨g, i * 8 + 5, none⟩ (.int .u8 (byt x 5))) ⟨g, i * 8 + 6, none⟩ (.int .u8 (byt x 6))) ⟨g, i * 8 + 7, none⟩ (.int .u8 (byt x 7))).heap[w.heap.size]? = some (.cells #[.int .u8 (byt x 0), .int .u8 (byt x 1), .int .u8 (byt x 2), .int .u8 (byt x 3), .int .u8 (byt x 4), .int .u8 (byt x 5), .int .u8 (byt x 6), .int .u8 (byt x 7)] 26 (0, 0))) := (put_other V g _ i x gw.symm).trans (keepB Q.out DX.out)
  replace B : Hid (Span Lo Hi w (World.setCell (World.setCell (World.setCell (World.setCell (World.setCell (World.setCell (World.setCell (World.setCell V ⟨g, i * 8, none⟩ (.int .u8 (byt x 0))) ⟨g, i * 8 + 1, none⟩ (.int .u8 (byt x 1))) ⟨g, i * 8 + 2, none⟩ (.int .u8 (byt x 2))) ⟨g, i * 8 + 3, none⟩ (.int .u8 (byt x 3))) ⟨g, i * 8 + 4, none⟩ (.int .u8 (byt x 4))) ⟨g, i * 8 + 5, none⟩ (.int .u8 (byt x 5))) ⟨g, i * 8 + 6, none⟩ (.int .u8 (byt x 6))) ⟨g, i * 8 + 7, none⟩ (.int .u8 (byt x 7)))) := (B.out.more Q.out LoW).row LoW Lg gH
  clear hJ0 Q RKV PGV HKV tc y0 y1 y2 y3 y4 y5 y6 y7 p0 p1 p2 p3 p4 p5 p6 p7 q0 q1 q2 q3 q4 q5 q6 q7 tl gT Lg gl gH nc iI iI0 gw
  generalize (World.setCell (World.setCell (World.setCell (World.setCell (World.setCell (World.setCell (World.setCell (World.setCell V ⟨g, i * 8, none⟩ (.int .u8 (byt x 0))) ⟨g, i * 8 + 1, none⟩ (.int .u8 (byt x 1))) ⟨g, i * 8 + 2, none⟩ (.int .u8 (byt x 2))) ⟨g, i * 8 + 3, none⟩ (.int .u8 (byt x 3))) ⟨g, i * 8 + 4, none⟩ (.int .u8 (byt x 4))) ⟨g, i * 8 + 5, none⟩ (.int .u8 (byt x 5))) ⟨g, i * 8 + 6, none⟩ (.int .u8 (byt x 6))) ⟨g, i * 8 + 7, none⟩ (.int .u8 (byt x 7))) = W1 at *
  obtain ⟨y, hy⟩ : ∃ y, y = lowN x := ⟨_, rfl⟩
  have ly : y < 18446744073709551616 := by rw [hy]; exact lowN_lt hx
  have HY := Lib.hid hy
  have hl1 : i < l.length := by rw [← HN.out]; exact hi
  have HLV : Hid ((levX l 0).set i y = levX l' 0) := by
    have e := levX_set l i x 0 hl1
    rw [Nat.pow_zero, Nat.div_one] at e
    have e2 : nd (l.set i x) 0 i = y := by
      rw [hy]
      unfold nd
      rw [if_pos (by rw [List.length_set]; exact hl1)]
      congr 1
      simp [List.getD, hl1]
    rw [e2] at e
    rw [HL'.out]
    exact e
  clear hy
  obtain ⟨m0, hm0⟩ : ∃ m0, m0 = (levX l 0).length := ⟨_, rfl⟩
  have im0 : i < m0 := by rw [hm0]; exact levX_wid hl1
  have tl := PG.out.tlt
  obtain ⟨g6, c6, tc', gT, Lg, gl, gH, nc, KV, _⟩ := PG.out.node (hh := 0) (i := i) (x := y) (by omega) (by rw [← hm0]; exact im0) ly
  rw [← hm0] at tc' KV nc
  have m63 : m0 ≤ 9223372036854775807 := by have q := (KV W1 (Below.refl _ _)).1.max; omega
  have tc := Lib.hid tc'
  have HKV := Lib.hid KV
  have iI : (i : Int) < (m0 : Int) := by omega
  have iI0 : (0 : Int) ≤ (i : Int) := by omega
  clear tc' KV hm0
  go_upto_region 6 with fail
  refine wp_region_schedF (fin := 9) (fun u => Below W1.heap.size W1 u) [(true, 0), (true, 1), (true, 2), (true, 3), (true, 4), (true, 5), (true, 6), (false, 7), (true, 8), (false, 9)] (by kernel_rfl) rfl (by kernel_rfl) (by kernel_rfl) (by kernel_rfl) (fun _ _ d _ _ h => by cases d <;> exact h) (ext_drew W1) ?_
  intro J0 hJ0
  iterate 7 (refine schedF_pure (v := ?_) rfl (by rfl) ?_ ?_; rotate_left; (focus (intro u hC; obtain ⟨d0, d1, d2, d3, d4, d5, d6, d7, _, _, _, _, _, _, _, _⟩ := full8 (keepB hC DX.out); have t0 := (hC.cell (p := ⟨T, 1, none⟩) tl).trans tc.out; go_simp; try with_reducible rfl)); try go_simp)
  refine schedF_eff rfl ?_
  intro J hJ
  go_wp2_with fail
  rw [← show digV x = .agg #[.int .u8 (byt x 0), .int .u8 (byt x 1), .int .u8 (byt x 2), .int .u8 (byt x 3), .int .u8 (byt x 4), .int .u8 (byt x 5), .int .u8 (byt x 6), .int .u8 (byt x 7)] from rfl]
  refine (lowest1_c _ x hx).mono ?_
  rw [show lowN x = y from HY.out.symm]
  unfold digV
  rintro e V ⟨rfl, hb⟩
  have Q : Hid (Below W1.heap.size W1 V) := Lib.hid (ext_trans (ext_drew W1) hb)
  clear hb
  go_wp2_with fail
  refine ⟨fun _ => Q.out, ?_⟩
  refine schedF_pure (v := ?_) rfl (by rfl) ?_ ?_; rotate_left
  focus (intro u hC; go_simp; try with_reducible rfl)
  try go_simp
  obtain ⟨RKV, PGV⟩ := HKV.out V Q.out
  obtain ⟨y0, y1, y2, y3, y4, y5, y6, y7, p0, p1, p2, p3, p4, p5, p6, p7, q0, q1, q2, q3, q4, q5, q6, q7⟩ := RKV.place (j := i) (by omega)
  refine schedF_eff rfl ?_
  intro J hJ
  go_wp2_with fail
  first | refine hJ0 _ _ ?_ | (refine ⟨by first | exact fun h => absurd rfl h | trivial, ?_⟩; refine schedF_nil (hJ0 _ _ ?_))
  replace PG : Hid (PartH (World.setCell (World.setCell (World.setCell (World.setCell (World.setCell (World.setCell (World.setCell (World.setCell V ⟨g6, i * 8, none⟩ (.int .u8 (byt y 0))) ⟨g6, i * 8 + 1, none⟩ (.int .u8 (byt y 1))) ⟨g6, i * 8 + 2, none⟩ (.int .u8 (byt y 2))) ⟨g6, i * 8 + 3, none⟩ (.int .u8 (byt y 3))) ⟨g6, i * 8 + 4, none⟩ (.int .u8 (byt y 4))) ⟨g6, i * 8 + 5, none⟩ (.int .u8 (byt y 5))) ⟨g6, i * 8 + 6, none⟩ (.int .u8 (byt y 6))) ⟨g6, i * 8 + 7, none⟩ (.int .u8 (byt y 7))) Lo Hi T (H + 1) l' (levM l l' 1)) := PGV.same (fun j _ => by
    unfold levM
    by_cases e : j = 0
    · subst e; rw [if_pos (by omega), if_pos rfl]; exact HLV.out.symm
    · rw [if_neg (by omega), if_neg e])
  replace B : Hid (Span Lo Hi w (World.setCell (World.setCell (World.setCell (World.setCell (World.setCell (World.setCell (World.setCell (World.setCell V ⟨g6, i * 8, none⟩ (.int .u8 (byt y 0))) ⟨g6, i * 8 + 1, none⟩ (.int .u8 (byt y 1))) ⟨g6, i * 8 + 2, none⟩ (.int .u8 (byt y 2))) ⟨g6, i * 8 + 3, none⟩ (.int .u8 (byt y 3))) ⟨g6, i * 8 + 4, none⟩ (.int .u8 (byt y 4))) ⟨g6, i * 8 + 5, none⟩ (.int .u8 (byt y 5))) ⟨g6, i * 8 + 6, none⟩ (.int .u8 (byt y 6))) ⟨g6, i * 8 + 7, none⟩ (.int .u8 (byt y 7)))) := (B.out.more Q.out LoW).row LoW Lg gH
  clear hJ0 Q RKV PGV HKV tc y0 y1 y2 y3 y4 y5 y6 y7 p0 p1 p2 p3 p4 p5 p6 p7 q0 q1 q2 q3 q4 q5 q6 q7 tl gT Lg gl gH nc iI iI0 HY HLV DX
  generalize (World.setCell (World.setCell (World.setCell (World.setCell (World.setCell (World.setCell (World.setCell (World.setCell V ⟨g6, i * 8, none⟩ (.int .u8 (byt y 0))) ⟨g6, i * 8 + 1, none⟩ (.int .u8 (byt y 1))) ⟨g6, i * 8 + 2, none⟩ (.int .u8 (byt y 2))) ⟨g6, i * 8 + 3, none⟩ (.int .u8 (byt y 3))) ⟨g6, i * 8 + 4, none⟩ (.int .u8 (byt y 4))) ⟨g6, i * 8 + 5, none⟩ (.int .u8 (byt y 5))) ⟨g6, i * 8 + 6, none⟩ (.int .u8 (byt y 6))) ⟨g6, i * 8 + 7, none⟩ (.int .u8 (byt y 7))) = W2 at *
  have TL0 := PG.out.tlt
  obtain ⟨gL, cL, tcL, _⟩ := PG.out.leaf (i := i) (x := 0) (by rw [HLen.out]; exact hl1) (by omega)
  rw [HLen.out, ← HN.out] at tcL
  go_wp2_with fail
  refine (len_cell _ T gL n cL tcL).mono ?_
  rintro e w3 ⟨rfl, rfl⟩
  go_wp2_with fail
  refine (height_c _ n (by omega)).mono ?_
  rw [HH.out]
  rintro e w3 ⟨rfl, rfl⟩
  go_wp2_with fail
  go_loopw [1, 35] (fun av iv wr => ∃ (hh a : Nat), hh ≤ H ∧ iv = .int .i64 hh ∧ av = .int .i64 a ∧ Hid (a = i / 2 ^ hh) ∧ Hid (PartH wr Lo Hi T (H + 1) l' (levM l l' (hh + 1))) ∧ Hid (Span Lo Hi w wr)) (fun _ iv _ => H - (intOf iv).toNat)
  case atStart => exact ⟨0, i, Nat.zero_le _, rfl, rfl, by show _ = _; rw [Nat.pow_zero, Nat.div_one], PG.out, B.out⟩
  case round =>
    clear PG B tcL
    obtain ⟨hh, a, hk, rfl, rfl, HA, PG, B⟩ := hrel
    by_cases hlt : hh < H
    · obtain ⟨qh, hqh⟩ : ∃ q, q = hh + 1 := ⟨_, rfl⟩
      obtain ⟨a2, ha2⟩ : ∃ a2, a2 = a / 2 := ⟨_, rfl⟩
      obtain ⟨p, hp⟩ : ∃ p, p = 2 * a2 := ⟨_, rfl⟩
      obtain ⟨q, hq⟩ : ∃ q, q = 2 * a2 + 1 := ⟨_, rfl⟩
      have ha4 : a ≤ 4096 := by rw [HA.out]; exact Nat.le_trans (Nat.div_le_self _ _) (by omega)
      have HA2 : Hid (a2 = i / 2 ^ qh) := by show _ = _; rw [ha2, HA.out, Nat.div_div_eq_div_mul, ← Nat.pow_succ, hqh]
      obtain ⟨u0, hu0⟩ : ∃ u, u = nd l' hh p := ⟨_, rfl⟩
      obtain ⟨u1, hu1⟩ : ∃ u, u = nd l' hh q := ⟨_, rfl⟩
      have lu0 : u0 < 18446744073709551616 := by rw [hu0]; exact nd_lt HSm'.out _ _
      have lu1 : u1 < 18446744073709551616 := by rw [hu1]; exact nd_lt HSm'.out _ _
      obtain ⟨z, hz⟩ : ∃ z, z = twoN u0 u1 := ⟨_, rfl⟩
      have HZ := Lib.hid hz
      have lz : z < 18446744073709551616 := by rw [hz]; exact twoN_lt lu0 lu1
      have HZN : Hid (nd l' qh a2 = z) := by show _ = _; rw [hz, hu0, hu1, hqh, hp, hq]; rfl
      have HLQ : Hid ((levX l qh).set a2 z = levX l' qh) := by
        have e := levX_set l i x qh hl1
        rw [← HA2.out, ← HL'.out, HZN.out] at e
        exact e
      have hW1 : a < wid l'.length hh := by rw [HA.out, HLen.out]; exact place_lt hl1 hh
      have hhl : hh < hgt l'.length := by rw [HLen.out, ← HHE.out]; exact hlt
      obtain ⟨m2, hm2⟩ : ∃ m, m = (levX l' hh).length := ⟨_, rfl⟩
      have hm2' : m2 = wid l'.length hh + wid l'.length hh % 2 := by rw [hm2, levX_low hhl, levelP_len]
      have pm : p < m2 := by omega
      have qm : q < m2 := by omega
      have HVP : Hid ((levX l' hh).getD p 0 = u0) := by show _ = _; rw [levX_atP hhl (by omega), hu0]
      have HVQ : Hid ((levX l' hh).getD q 0 = u1) := by show _ = _; rw [levX_atP hhl (by omega), hu1]
      obtain ⟨m1, hm1⟩ : ∃ m, m = (levX l qh).length := ⟨_, rfl⟩
      have am : a2 < m1 := by rw [hm1, HA2.out]; exact levX_wid (place_lt hl1 qh)
      have L1 : levM l l' (hh + 1) qh = levX l qh := by unfold levM; rw [if_neg (by omega)]
      have L2 : levM l l' (hh + 1) hh = levX l' hh := by unfold levM; rw [if_pos (by omega)]
      have tl := PG.out.tlt
      obtain ⟨g7, c7, tc1', gT, Lg, gl, gH, nc, KV, OT⟩ := PG.out.node (hh := qh) (i := a2) (x := z) (by omega) (by rw [L1, ← hm1]; exact am) lz
      obtain ⟨g2, c2, tc2', g2n, RD2⟩ := OT hh (by omega) (by omega)
      rw [L1] at tc1' KV nc
      rw [L2] at tc2' RD2
      rw [← hm1] at tc1' KV nc
      rw [← hm2] at tc2' RD2
      have m631 : m1 ≤ 9223372036854775807 := by have k := (KV wr (Below.refl _ _)).1.max; omega
      have m632 : m2 ≤ 9223372036854775807 := by have k1 := RD2.le; have k2 := RD2.max; omega
      obtain ⟨b1, o1, hA1, g2l, hc⟩ := RD2.at pm
      injection hA1 with hA1
      injection hA1 with e1 e2 _
      subst e1 e2
      obtain ⟨b1, o1, hA1, _, hd⟩ := RD2.at qm
      injection hA1 with hA1
      injection hA1 with e1 e2 _
      subst e1 e2
      rw [HVP.out] at hc
      rw [HVQ.out] at hd
      simp only [Nat.zero_add] at hc hd
      have HCx := Lib.hid hc
      have HCy := Lib.hid hd
      have tc1 := Lib.hid tc1'
      have tc2 := Lib.hid tc2'
      have HKV := Lib.hid KV
      have kI : (hh : Int) < (H : Int) := by omega
      have kI0 : (0 : Int) ≤ (hh : Int) := by omega
      have kI1 : (hh : Int) < 13 := by omega
      have qI0 : (0 : Int) ≤ (qh : Int) := by omega
      have qI1 : (qh : Int) < 13 := by omega
      have aI0 : (0 : Int) ≤ (a2 : Int) := by omega
      have aI1 : (a2 : Int) < (m1 : Int) := by omega
      have pI0 : (0 : Int) ≤ (p : Int) := by omega
      have pI1 : (p : Int) < (m2 : Int) := by omega
      have rI0 : (0 : Int) ≤ (q : Int) := by omega
      have rI1 : (q : Int) < (m2 : Int) := by omega
      have d1 : (a : Int) / 2 = (a2 : Int) := by omega
      have d2 : (a : Int).tdiv 2 = (a2 : Int) := by rw [Int.tdiv_eq_ediv_of_nonneg (by omega)]; exact d1
      have v1 : IntKind.i64.wrap ((hh : Int) + 1) = (qh : Int) := by rw [IntKind.wrap_i64]; omega
      have v2 : IntKind.i64.wrap (2 * (a2 : Int)) = (p : Int) := by rw [IntKind.wrap_i64]; omega
      have v3 : IntKind.i64.wrap ((p : Int) + 1) = (q : Int) := by rw [IntKind.wrap_i64]; omega
      have HQH := Lib.hid hqh
      clear tc1' tc2' KV OT RD2 hc hd hp hq hu0 hu1 hz ha2 L1 L2 hm1 hm2 hm2' hW1 hqh
      go_upto_region 11 with fail
      refine wp_region_schedF (fin := 31) (fun u => Below wr.heap.size wr u) [(true, 0), (true, 1), (true, 2), (true, 3), (true, 4), (true, 5), (true, 6), (true, 7), (true, 8), (true, 9), (true, 10), (true, 11), (true, 12), (true, 13), (true, 14), (true, 15), (true, 16), (true, 17), (true, 18), (true, 19), (true, 20), (true, 21), (true, 22), (true, 23), (true, 24), (true, 25), (true, 26), (true, 27), (true, 28), (false, 29), (true, 30), (false, 31)] (by kernel_rfl) rfl (by kernel_rfl) (by kernel_rfl) (by kernel_rfl) (fun _ _ d _ _ h => by cases d <;> exact h) (ext_drew wr) ?_
      intro J0 hJ0
      iterate 29 (refine schedF_pure (v := ?_) rfl (by rfl) ?_ ?_; rotate_left; (focus (intro u hC; have t0 := (hC.cell (p := ⟨T, 1 + qh, none⟩) tl).trans tc1.out; have t1 := (hC.cell (p := ⟨T, 1 + hh, none⟩) tl).trans tc2.out; obtain ⟨c0, c1, c2, c3, c4, c5, c6, c7⟩ := cells8b hC g2l HCx.out; obtain ⟨d0, d1, d2, d3, d4, d5, d6, d7⟩ := cells8b hC g2l HCy.out; go_simp; try with_reducible rfl)); try go_simp)
      refine schedF_eff rfl ?_
      intro J hJ
      go_wp2_with fail
      rw [← show digV u0 = .agg #[.int .u8 (byt u0 0), .int .u8 (byt u0 1), .int .u8 (byt u0 2), .int .u8 (byt u0 3), .int .u8 (byt u0 4), .int .u8 (byt u0 5), .int .u8 (byt u0 6), .int .u8 (byt u0 7)] from rfl, ← show digV u1 = .agg #[.int .u8 (byt u1 0), .int .u8 (byt u1 1), .int .u8 (byt u1 2), .int .u8 (byt u1 3), .int .u8 (byt u1 4), .int .u8 (byt u1 5), .int .u8 (byt u1 6), .int .u8 (byt u1 7)] from rfl]
      refine (two_c _ u0 u1 lu0 lu1).mono ?_
      rw [← HZ.out]
      unfold digV
      rintro e V ⟨rfl, hb⟩
      have Q : Hid (Below wr.heap.size wr V) := Lib.hid (ext_trans (ext_drew wr) hb)
      clear hb
      go_wp2_with fail
      refine ⟨fun _ => Q.out, ?_⟩
      refine schedF_pure (v := ?_) rfl (by rfl) ?_ ?_; rotate_left
      focus (intro u hC; go_simp; try with_reducible rfl)
      try go_simp
      obtain ⟨RKV, PGV⟩ := HKV.out V Q.out
      obtain ⟨y0, y1, y2, y3, y4, y5, y6, y7, p0, p1, p2, p3, p4, p5, p6, p7, q0, q1, q2, q3, q4, q5, q6, q7⟩ := RKV.place (j := a2) (by omega)
      refine schedF_eff rfl ?_
      intro J hJ
      go_wp2_with fail
      first | refine hJ0 _ _ ?_ | (refine ⟨by first | exact fun h => absurd rfl h | trivial, ?_⟩; refine schedF_nil (hJ0 _ _ ?_))
      have PG3 : Hid (PartH (World.setCell (World.setCell (World.setCell (World.setCell (World.setCell (World.setCell (World.setCell (World.setCell V ⟨g7, a2 * 8, none⟩ (.int .u8 (byt z 0))) ⟨g7, a2 * 8 + 1, none⟩ (.int .u8 (byt z 1))) ⟨g7, a2 * 8 + 2, none⟩ (.int .u8 (byt z 2))) ⟨g7, a2 * 8 + 3, none⟩ (.int .u8 (byt z 3))) ⟨g7, a2 * 8 + 4, none⟩ (.int .u8 (byt z 4))) ⟨g7, a2 * 8 + 5, none⟩ (.int .u8 (byt z 5))) ⟨g7, a2 * 8 + 6, none⟩ (.int .u8 (byt z 6))) ⟨g7, a2 * 8 + 7, none⟩ (.int .u8 (byt z 7))) Lo Hi T (H + 1) l' (levM l l' (hh + 1 + 1))) := PGV.same (fun j _ => by
        have hqh := HQH.out
        unfold levM
        by_cases e : j = qh
        · subst e; rw [if_pos (by omega), if_pos rfl]; exact HLQ.out.symm
        · rw [if_neg e]
          by_cases e2 : j < hh + 1
          · rw [if_pos (by omega), if_pos e2]
          · rw [if_neg (by omega), if_neg e2])
      have B3 : Hid (Span Lo Hi w (World.setCell (World.setCell (World.setCell (World.setCell (World.setCell (World.setCell (World.setCell (World.setCell V ⟨g7, a2 * 8, none⟩ (.int .u8 (byt z 0))) ⟨g7, a2 * 8 + 1, none⟩ (.int .u8 (byt z 1))) ⟨g7, a2 * 8 + 2, none⟩ (.int .u8 (byt z 2))) ⟨g7, a2 * 8 + 3, none⟩ (.int .u8 (byt z 3))) ⟨g7, a2 * 8 + 4, none⟩ (.int .u8 (byt z 4))) ⟨g7, a2 * 8 + 5, none⟩ (.int .u8 (byt z 5))) ⟨g7, a2 * 8 + 6, none⟩ (.int .u8 (byt z 6))) ⟨g7, a2 * 8 + 7, none⟩ (.int .u8 (byt z 7)))) := (B.out.more Q.out LoW).row LoW Lg gH
      have HA3 : Hid (a2 = i / 2 ^ (hh + 1)) := by show _ = _; rw [HA2.out, HQH.out]
      clear hJ0 v1 v2 v3 y0 y1 y2 y3 y4 y5 y6 y7 p0 p1 p2 p3 p4 p5 p6 p7 q0 q1 q2 q3 q4 q5 q6 q7
      go_wp2_with fail
      exact ⟨⟨hh + 1, a2, by omega, by go_num, rfl, HA3.out, PG3.out, B3.out⟩, by simp [intOf]; omega⟩
    · obtain rfl : hh = H := by omega
      have hI : ¬ (hh : Int) < (hh : Int) := by omega
      go_wp2_with fail
      go_ret
      refine ⟨rfl, ⟨HSm'.out, by rw [HLen.out]; exact N1.out, by rw [HLen.out]; exact N2.out, ?_⟩, B.out⟩
      rw [HLen.out, ← HHE.out]
      exact PG.out.same (fun j hj => by unfold levM; rw [if_pos hj])
#print axioms set_okH
end Go.Proofs.YtbejjmmopdcjoaaDoor
