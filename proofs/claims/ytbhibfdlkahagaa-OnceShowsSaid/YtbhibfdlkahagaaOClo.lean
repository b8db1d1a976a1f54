/-
  once: what the closures tell of a chain: contracts.
-/
import Derived.Test.YtbhibfdlkahagaaOWalk
import Derived.Deep.MidRow
namespace Go.Proofs.Ytbhibfdlkahagaa
open Go.RowKit

theorem digA18_at (m : Nat) : ∀ k, k < 18 → (digA18 m)[k]? = some (.int .i64 (dg m k))
  | 0, _ => rfl
  | 1, _ => rfl
  | 2, _ => rfl
  | 3, _ => rfl
  | 4, _ => rfl
  | 5, _ => rfl
  | 6, _ => rfl
  | 7, _ => rfl
  | 8, _ => rfl
  | 9, _ => rfl
  | 10, _ => rfl
  | 11, _ => rfl
  | 12, _ => rfl
  | 13, _ => rfl
  | 14, _ => rfl
  | 15, _ => rfl
  | 16, _ => rfl
  | 17, _ => rfl
  | k + 18, h => absurd h (by omega)

set_option maxRecDepth 100000 in
set_option maxHeartbeats 1000000 in
theorem pub1_c (w : World) (s : Nat) (hs : s < 18446744073709551616) (bs : Nat) (D : Hid (w.heap[bs]? = some (.cells #[.int .u8 (byt s 0), .int .u8 (byt s 1), .int .u8 (byt s 2), .int .u8 (byt s 3), .int .u8 (byt s 4), .int .u8 (byt s 5), .int .u8 (byt s 6), .int .u8 (byt s 7)] 31 (0, 0)))) (v : World) (hv : Below w.heap.size w v) (k : Nat) (hk : k < 18) :
    Calls Try.prog 58 #[.int .i64 k, .pointer (some ⟨bs, 0, none⟩)] v (Tells (begN s) (fun _ => 15) k v) := by
  have DV : Hid (v.heap[bs]? = some (.cells #[.int .u8 (byt s 0), .int .u8 (byt s 1), .int .u8 (byt s 2), .int .u8 (byt s 3), .int .u8 (byt s 4), .int .u8 (byt s 5), .int .u8 (byt s 6), .int .u8 (byt s 7)] 31 (0, 0))) := keepB hv D.out
  unfold Tells
  obtain ⟨x, hx⟩ : ∃ x, x = begN s k := ⟨_, rfl⟩
  have HX : Hid (begN s k = x) := hx.symm
  rw [← hx]
  clear hx hv D
  go_enter Try.func58, Try.ntmps58
  go_upto_region 1 with fail
  have R : Hid ((World.alloc v (.cells #[.int .u8 0, .int .u8 0, .int .u8 0, .int .u8 0, .int .u8 0, .int .u8 0, .int .u8 0, .int .u8 0] 31)).heap[v.heap.size]? = some (.cells #[.int .u8 0, .int .u8 0, .int .u8 0, .int .u8 0, .int .u8 0, .int .u8 0, .int .u8 0, .int .u8 0] 31 (0, 0))) := Go.heap_alloc_new v _
  replace DV : Hid ((World.alloc v (.cells #[.int .u8 0, .int .u8 0, .int .u8 0, .int .u8 0, .int .u8 0, .int .u8 0, .int .u8 0, .int .u8 0] 31)).heap[bs]? = some (.cells #[.int .u8 (byt s 0), .int .u8 (byt s 1), .int .u8 (byt s 2), .int .u8 (byt s 3), .int .u8 (byt s 4), .int .u8 (byt s 5), .int .u8 (byt s 6), .int .u8 (byt s 7)] 31 (0, 0))) := keepA DV.out
  have B : Hid (Below v.heap.size v (World.alloc v (.cells #[.int .u8 0, .int .u8 0, .int .u8 0, .int .u8 0, .int .u8 0, .int .u8 0, .int .u8 0, .int .u8 0] 31))) := ext_alloc _ _
  generalize World.alloc v (.cells #[.int .u8 0, .int .u8 0, .int .u8 0, .int .u8 0, .int .u8 0, .int .u8 0, .int .u8 0, .int .u8 0] 31) = W at *
  obtain ⟨d0, d1, d2, d3, d4, d5, d6, d7, _, _, _, _, _, _, _, _⟩ := full8 DV.out
  go_wp2_with fail
  rw [← show digV s = .agg #[.int .u8 (byt s 0), .int .u8 (byt s 1), .int .u8 (byt s 2), .int .u8 (byt s 3), .int .u8 (byt s 4), .int .u8 (byt s 5), .int .u8 (byt s 6), .int .u8 (byt s 7)] from rfl]
  refine (begin1_c _ s k hs hk).mono ?_
  rw [HX.out]
  unfold digV
  rintro e w1 ⟨rfl, hb⟩
  replace R := Lib.hid (keepB hb R.out)
  replace B := Lib.hid (ext_trans B.out hb)
  obtain ⟨q0, q1, q2, q3, q4, q5, q6, q7, f0, f1, f2, f3, f4, f5, f6, f7⟩ := full8 R.out
  clear hb d0 d1 d2 d3 d4 d5 d6 d7 DV
  go_wp2_with fail
  obtain ⟨g0, g1, g2, g3, g4, g5, g6, g7⟩ := put8 R.out (.int .u8 (byt x 0)) (.int .u8 (byt x 1)) (.int .u8 (byt x 2)) (.int .u8 (byt x 3)) (.int .u8 (byt x 4)) (.int .u8 (byt x 5)) (.int .u8 (byt x 6)) (.int .u8 (byt x 7))
  refine bodyPost_ret (v := .tuple #[digV x, .int .i64 15]) (by unfold digV; simp only [results, Try.results58]; simp [go_sem, g0, g1, g2, g3, g4, g5, g6, g7]) rfl ⟨by unfold digV; rfl, bel8 B.out (Nat.le_refl _) (by omega) _ _ _ _ _ _ _ _⟩
#print axioms pub1_c
theorem grown8 {w : World} {b : Nat} (y0 y1 y2 y3 y4 y5 y6 y7 : Value) : w.grownBy (World.setCell (World.setCell (World.setCell (World.setCell (World.setCell (World.setCell (World.setCell (World.setCell w ⟨b, 0, none⟩ y0) ⟨b, 1, none⟩ y1) ⟨b, 2, none⟩ y2) ⟨b, 3, none⟩ y3) ⟨b, 4, none⟩ y4) ⟨b, 5, none⟩ y5) ⟨b, 6, none⟩ y6) ⟨b, 7, none⟩ y7) (some b) := (grown_then (grown_then (grown_then (grown_then (grown_then (grown_then (grown_then (setCell_grown _) (setCell_grown _)) (setCell_grown _)) (setCell_grown _)) (setCell_grown _)) (setCell_grown _)) (setCell_grown _)) (setCell_grown _))

set_option maxRecDepth 100000 in
set_option maxHeartbeats 2000000 in
theorem sign1_c (w : World) (s : Nat) (hs : s < 18446744073709551616) (bs : Nat) (D : Hid (w.heap[bs]? = some (.cells #[.int .u8 (byt s 0), .int .u8 (byt s 1), .int .u8 (byt s 2), .int .u8 (byt s 3), .int .u8 (byt s 4), .int .u8 (byt s 5), .int .u8 (byt s 6), .int .u8 (byt s 7)] 31 (0, 0)))) (m : Nat) (bm : Nat) (DM : Hid (w.heap[bm]? = some (.cells (digA18 m) 42 (0, 0)))) (v : World) (hv : Below w.heap.size w v) (k : Nat) (hk : k < 18) :
    Calls Try.prog 64 #[.int .i64 k, .pointer (some ⟨bs, 0, none⟩), .pointer (some ⟨bm, 0, none⟩)] v (Tells (begN s) (dg m) k v) := by
  have DV : Hid (v.heap[bs]? = some (.cells #[.int .u8 (byt s 0), .int .u8 (byt s 1), .int .u8 (byt s 2), .int .u8 (byt s 3), .int .u8 (byt s 4), .int .u8 (byt s 5), .int .u8 (byt s 6), .int .u8 (byt s 7)] 31 (0, 0))) := keepB hv D.out
  have zs : bs < v.heap.size := (Array.getElem?_eq_some_iff.1 DV.out).1
  have DMV := Lib.hid (keepB hv DM.out)
  have CM : Hid (v.cell? ⟨bm, k, none⟩ = some (.int .i64 (dg m k))) := by show _ = _; rw [cell_of_row v _ _ _ _ _ DMV.out]; exact digA18_at m k hk
  have zm : bm < v.heap.size := (Array.getElem?_eq_some_iff.1 DMV.out).1
  have zn := dg_lt m k
  have kI : (k : Int) < 18 := by omega
  have kI0 : (0 : Int) ≤ (k : Int) := by omega
  unfold Tells
  obtain ⟨x, hx⟩ : ∃ x, x = (begN s) k := ⟨_, rfl⟩
  have HX : Hid ((begN s) k = x) := hx.symm
  rw [← hx]
  obtain ⟨q, hq⟩ : ∃ q, q = dg m k := ⟨_, rfl⟩
  have HST : Hid ((((dg m) k : Nat) : Int) = (q : Int)) := by subst hq; first | exact rfl | (show ((15 - dg m k : Nat) : Int) = _; omega)
  rw [HST.out]
  rw [← hq] at CM zn
  clear hx hv DM DMV hq
  go_enter Try.func64, Try.ntmps64
  go_upto_region 1 with fail
  have R : Hid ((World.alloc v (.cells #[.int .u8 0, .int .u8 0, .int .u8 0, .int .u8 0, .int .u8 0, .int .u8 0, .int .u8 0, .int .u8 0] 31)).heap[v.heap.size]? = some (.cells #[.int .u8 0, .int .u8 0, .int .u8 0, .int .u8 0, .int .u8 0, .int .u8 0, .int .u8 0, .int .u8 0] 31 (0, 0))) := Go.heap_alloc_new v _
  have B : Hid (Below v.heap.size v (World.alloc v (.cells #[.int .u8 0, .int .u8 0, .int .u8 0, .int .u8 0, .int .u8 0, .int .u8 0, .int .u8 0, .int .u8 0] 31))) := ext_alloc _ _
  have CM2 : Hid ((World.alloc v (.cells #[.int .u8 0, .int .u8 0, .int .u8 0, .int .u8 0, .int .u8 0, .int .u8 0, .int .u8 0, .int .u8 0] 31)).cell? ⟨bm, k, none⟩ = some (.int .i64 q)) := ((ext_alloc v _).cell (p := ⟨bm, k, none⟩) zm).trans CM.out
  have zm2 : bm < (World.alloc v (.cells #[.int .u8 0, .int .u8 0, .int .u8 0, .int .u8 0, .int .u8 0, .int .u8 0, .int .u8 0, .int .u8 0] 31)).heap.size := Nat.lt_of_lt_of_le zm (ext_alloc v _).size
  replace DV : Hid ((World.alloc v (.cells #[.int .u8 0, .int .u8 0, .int .u8 0, .int .u8 0, .int .u8 0, .int .u8 0, .int .u8 0, .int .u8 0] 31)).heap[bs]? = some (.cells #[.int .u8 (byt s 0), .int .u8 (byt s 1), .int .u8 (byt s 2), .int .u8 (byt s 3), .int .u8 (byt s 4), .int .u8 (byt s 5), .int .u8 (byt s 6), .int .u8 (byt s 7)] 31 (0, 0))) := keepA DV.out
  have zs2 : bs < (World.alloc v (.cells #[.int .u8 0, .int .u8 0, .int .u8 0, .int .u8 0, .int .u8 0, .int .u8 0, .int .u8 0, .int .u8 0] 31)).heap.size := Nat.lt_of_lt_of_le zs (ext_alloc v _).size
  have nes : ¬ some bs = some v.heap.size := (by intro e; injection e with e; omega)
  clear CM
  generalize World.alloc v (.cells #[.int .u8 0, .int .u8 0, .int .u8 0, .int .u8 0, .int .u8 0, .int .u8 0, .int .u8 0, .int .u8 0] 31) = W at *
  have ne : ¬ some bm = some v.heap.size := by intro e; injection e with e; omega
  refine wp_region_schedC (fun u => World.grownBy W u (some v.heap.size)) [(true, 0), (true, 1), (true, 3), (true, 4), (true, 5), (false, 2), (false, 6), (true, 7)] (by kernel_rfl) rfl (by kernel_rfl) (by kernel_rfl) (fun _ _ d _ _ h => by cases d <;> exact h) (draws_grown W 1) ?_
  intro J0 hJ0
  iterate 5 (refine schedC_pure (v := ?_) rfl (by rfl) ?_ ?_; rotate_left; (focus (intro u hC; obtain ⟨d0, d1, d2, d3, d4, d5, d6, d7, _, _, _, _, _, _, _, _⟩ := full8 ((hC.block bs zs2 nes).trans DV.out); have cm := (World.cell?_of_block (a := ⟨bm, k, none⟩) (hC.block bm zm2 ne)).trans CM2.out; go_simp; try with_reducible rfl)); try go_simp)
  refine schedC_eff rfl ?_
  intro J hJ
  go_wp2_with fail
  rw [← show digV s = .agg #[.int .u8 (byt s 0), .int .u8 (byt s 1), .int .u8 (byt s 2), .int .u8 (byt s 3), .int .u8 (byt s 4), .int .u8 (byt s 5), .int .u8 (byt s 6), .int .u8 (byt s 7)] from rfl]
  refine (begin1_c _ s k hs hk).mono ?_
  rw [HX.out]
  unfold digV
  rintro e w1 ⟨rfl, hb⟩
  have CB : Hid (Below W.heap.size W w1) := Lib.hid (ext_trans (ext_drew W) hb)
  have CC : Hid (World.grownBy W w1 (some v.heap.size)) := ⟨CB.out.os, CB.out.tape, CB.out.output, CB.out.size, fun k hk _ => CB.out.block k hk⟩
  clear hb
  go_wp2_with fail
  refine ⟨CC.out, ?_⟩
  replace R := Lib.hid (keepB CB.out R.out)
  replace B := Lib.hid (ext_trans B.out CB.out)
  obtain ⟨q0, q1, q2, q3, q4, q5, q6, q7, f0, f1, f2, f3, f4, f5, f6, f7⟩ := full8 R.out
  refine schedC_eff rfl ?_
  intro J hJ
  go_wp2_with fail
  refine ⟨grown_then CC.out (grown8 _ _ _ _ _ _ _ _), ?_⟩
  iterate 1 (refine schedC_pure (v := ?_) rfl (by rfl) ?_ ?_; rotate_left; (focus (intro u hC; go_simp; try with_reducible rfl)); try go_simp)
  refine schedC_nil (hJ0 _ _ ?_)
  clear hJ0
  go_wp2_with fail
  obtain ⟨g0, g1, g2, g3, g4, g5, g6, g7⟩ := put8 R.out (.int .u8 (byt x 0)) (.int .u8 (byt x 1)) (.int .u8 (byt x 2)) (.int .u8 (byt x 3)) (.int .u8 (byt x 4)) (.int .u8 (byt x 5)) (.int .u8 (byt x 6)) (.int .u8 (byt x 7))
  refine bodyPost_ret (v := .tuple #[digV x, .int .i64 (q : Int)]) (by unfold digV; simp only [results, Try.results64]; simp [go_sem, g0, g1, g2, g3, g4, g5, g6, g7]) rfl ⟨by unfold digV; rfl, bel8 B.out (Nat.le_refl _) (by omega) _ _ _ _ _ _ _ _⟩
#print axioms sign1_c

set_option maxRecDepth 100000 in
set_option maxHeartbeats 2000000 in
theorem told1_c (w : World) (A : Option Addr) (c : Nat) (sg : List UInt8) (hsg : Hid (Rd w A 144 c sg)) (bs : Nat) (D : Hid (w.heap[bs]? = some (.cells #[.slice A 144 c] 22 (0, 0)))) (m : Nat) (bm : Nat) (DM : Hid (w.heap[bm]? = some (.cells (digA18 m) 42 (0, 0)))) (v : World) (hv : Below w.heap.size w v) (k : Nat) (hk : k < 18) :
    Calls Try.prog 65 #[.int .i64 k, .pointer (some ⟨bs, 0, none⟩), .pointer (some ⟨bm, 0, none⟩)] v (Tells (partN sg) (fun c => 15 - dg m c) k v) := by
  have DV : Hid (v.heap[bs]? = some (.cells #[.slice A 144 c] 22 (0, 0))) := keepB hv D.out
  have zs : bs < v.heap.size := (Array.getElem?_eq_some_iff.1 DV.out).1
  have RS := Lib.hid (hsg.out.ext hv)
  have DMV := Lib.hid (keepB hv DM.out)
  have CM : Hid (v.cell? ⟨bm, k, none⟩ = some (.int .i64 (dg m k))) := by show _ = _; rw [cell_of_row v _ _ _ _ _ DMV.out]; exact digA18_at m k hk
  have zm : bm < v.heap.size := (Array.getElem?_eq_some_iff.1 DMV.out).1
  have zn := dg_lt m k
  have kI : (k : Int) < 18 := by omega
  have kI0 : (0 : Int) ≤ (k : Int) := by omega
  unfold Tells
  obtain ⟨x, hx⟩ : ∃ x, x = (partN sg) k := ⟨_, rfl⟩
  have HX : Hid ((partN sg) k = x) := hx.symm
  rw [← hx]
  obtain ⟨q, hq⟩ : ∃ q, q = dg m k := ⟨_, rfl⟩
  have HST : Hid ((((fun c => 15 - dg m c) k : Nat) : Int) = (15 - (q : Int))) := by subst hq; first | exact rfl | (show ((15 - dg m k : Nat) : Int) = _; omega)
  rw [HST.out]
  rw [← hq] at CM zn
  clear hx hv DM DMV hq
  go_enter Try.func65, Try.ntmps65
  go_upto_region 1 with fail
  have R : Hid ((World.alloc v (.cells #[.int .u8 0, .int .u8 0, .int .u8 0, .int .u8 0, .int .u8 0, .int .u8 0, .int .u8 0, .int .u8 0] 31)).heap[v.heap.size]? = some (.cells #[.int .u8 0, .int .u8 0, .int .u8 0, .int .u8 0, .int .u8 0, .int .u8 0, .int .u8 0, .int .u8 0] 31 (0, 0))) := Go.heap_alloc_new v _
  have B : Hid (Below v.heap.size v (World.alloc v (.cells #[.int .u8 0, .int .u8 0, .int .u8 0, .int .u8 0, .int .u8 0, .int .u8 0, .int .u8 0, .int .u8 0] 31))) := ext_alloc _ _
  have CM2 : Hid ((World.alloc v (.cells #[.int .u8 0, .int .u8 0, .int .u8 0, .int .u8 0, .int .u8 0, .int .u8 0, .int .u8 0, .int .u8 0] 31)).cell? ⟨bm, k, none⟩ = some (.int .i64 q)) := ((ext_alloc v _).cell (p := ⟨bm, k, none⟩) zm).trans CM.out
  have zm2 : bm < (World.alloc v (.cells #[.int .u8 0, .int .u8 0, .int .u8 0, .int .u8 0, .int .u8 0, .int .u8 0, .int .u8 0, .int .u8 0] 31)).heap.size := Nat.lt_of_lt_of_le zm (ext_alloc v _).size
  replace DV : Hid ((World.alloc v (.cells #[.int .u8 0, .int .u8 0, .int .u8 0, .int .u8 0, .int .u8 0, .int .u8 0, .int .u8 0, .int .u8 0] 31)).heap[bs]? = some (.cells #[.slice A 144 c] 22 (0, 0))) := keepA DV.out
  replace RS := Lib.hid (RS.out.ext (ext_alloc v (.cells #[.int .u8 0, .int .u8 0, .int .u8 0, .int .u8 0, .int .u8 0, .int .u8 0, .int .u8 0, .int .u8 0] 31)))
  have zs2 : bs < (World.alloc v (.cells #[.int .u8 0, .int .u8 0, .int .u8 0, .int .u8 0, .int .u8 0, .int .u8 0, .int .u8 0, .int .u8 0] 31)).heap.size := Nat.lt_of_lt_of_le zs (ext_alloc v _).size
  have nes : ¬ some bs = some v.heap.size := (by intro e; injection e with e; omega)
  clear CM
  generalize World.alloc v (.cells #[.int .u8 0, .int .u8 0, .int .u8 0, .int .u8 0, .int .u8 0, .int .u8 0, .int .u8 0, .int .u8 0] 31) = W at *
  have ne : ¬ some bm = some v.heap.size := by intro e; injection e with e; omega
  refine wp_region_schedC (fun u => World.grownBy W u (some v.heap.size)) [(true, 0), (true, 1), (true, 3), (true, 4), (true, 5), (true, 6), (false, 2), (false, 7), (true, 8)] (by kernel_rfl) rfl (by kernel_rfl) (by kernel_rfl) (fun _ _ d _ _ h => by cases d <;> exact h) (draws_grown W 1) ?_
  intro J0 hJ0
  iterate 5 (refine schedC_pure (v := ?_) rfl (by rfl) ?_ ?_; rotate_left; (focus (intro u hC; have d0 : u.cell? ⟨bs, 0, none⟩ = some (.slice A 144 c) := (by rw [cell_of_row u _ _ _ _ _ ((hC.block bs zs2 nes).trans DV.out)]; rfl); have cm := (World.cell?_of_block (a := ⟨bm, k, none⟩) (hC.block bm zm2 ne)).trans CM2.out; go_simp; try with_reducible rfl)); try go_simp)
  refine schedC_pure (v := .int .i64 (15 - (q : Int))) rfl (by rfl) ?_ ?_
  · intro u hC; have w8 : IntKind.i64.wrap (15 - (q : Int)) = 15 - (q : Int) := IntWalk.i64_in _ (by omega); go_simp
  try go_simp
  refine schedC_eff rfl ?_
  intro J hJ
  go_wp2_with fail
  refine (part_c _ A 144 c sg (Lib.hid (RS.out.ext (ext_drew W))) rfl k hk).mono ?_
  rw [HX.out]
  unfold digV
  rintro e w1 ⟨rfl, hb⟩
  have CB : Hid (Below W.heap.size W w1) := Lib.hid (ext_trans (ext_drew W) hb)
  have CC : Hid (World.grownBy W w1 (some v.heap.size)) := ⟨CB.out.os, CB.out.tape, CB.out.output, CB.out.size, fun k hk _ => CB.out.block k hk⟩
  clear hb
  go_wp2_with fail
  refine ⟨CC.out, ?_⟩
  replace R := Lib.hid (keepB CB.out R.out)
  replace B := Lib.hid (ext_trans B.out CB.out)
  obtain ⟨q0, q1, q2, q3, q4, q5, q6, q7, f0, f1, f2, f3, f4, f5, f6, f7⟩ := full8 R.out
  refine schedC_eff rfl ?_
  intro J hJ
  go_wp2_with fail
  refine ⟨grown_then CC.out (grown8 _ _ _ _ _ _ _ _), ?_⟩
  iterate 1 (refine schedC_pure (v := ?_) rfl (by rfl) ?_ ?_; rotate_left; (focus (intro u hC; go_simp; try with_reducible rfl)); try go_simp)
  refine schedC_nil (hJ0 _ _ ?_)
  clear hJ0
  go_wp2_with fail
  obtain ⟨g0, g1, g2, g3, g4, g5, g6, g7⟩ := put8 R.out (.int .u8 (byt x 0)) (.int .u8 (byt x 1)) (.int .u8 (byt x 2)) (.int .u8 (byt x 3)) (.int .u8 (byt x 4)) (.int .u8 (byt x 5)) (.int .u8 (byt x 6)) (.int .u8 (byt x 7))
  refine bodyPost_ret (v := .tuple #[digV x, .int .i64 (15 - (q : Int))]) (by unfold digV; simp only [results, Try.results65]; simp [go_sem, g0, g1, g2, g3, g4, g5, g6, g7]) rfl ⟨by unfold digV; rfl, bel8 B.out (Nat.le_refl _) (by omega) _ _ _ _ _ _ _ _⟩
#print axioms told1_c

end Go.Proofs.Ytbhibfdlkahagaa
