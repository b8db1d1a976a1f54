/-
  tree: the nodes of leaves, of none, and roots: contracts.
-/
import Derived.Test.YtbejjmmopdcjoaaDoorTNum
namespace Go.Proofs.YtbejjmmopdcjoaaDoor
open Go.RowKit

theorem leafB_str : (⟨#[108, 101, 97, 102]⟩ : ByteArray).data.toList = leafB := rfl
theorem noneB_str : (⟨#[110, 111, 110, 101]⟩ : ByteArray).data.toList = noneB := rfl
theorem grown8 {w : World} {b : Nat} (y0 y1 y2 y3 y4 y5 y6 y7 : Value) : w.grownBy (World.setCell (World.setCell (World.setCell (World.setCell (World.setCell (World.setCell (World.setCell (World.setCell w ⟨b, 0, none⟩ y0) ⟨b, 1, none⟩ y1) ⟨b, 2, none⟩ y2) ⟨b, 3, none⟩ y3) ⟨b, 4, none⟩ y4) ⟨b, 5, none⟩ y5) ⟨b, 6, none⟩ y6) ⟨b, 7, none⟩ y7) (some b) := (grown_then (grown_then (grown_then (grown_then (grown_then (grown_then (grown_then (setCell_grown _) (setCell_grown _)) (setCell_grown _)) (setCell_grown _)) (setCell_grown _)) (setCell_grown _)) (setCell_grown _)) (setCell_grown _))
theorem dig_zero : (Value.agg #[.int .u8 0, .int .u8 0, .int .u8 0, .int .u8 0, .int .u8 0, .int .u8 0, .int .u8 0, .int .u8 0] : Value) = digV 0 := rfl
set_option maxRecDepth 100000 in
set_option maxHeartbeats 1000000 in
theorem lowest1_c (w : World) (x : Nat) (hx : x < 18446744073709551616) : Calls Tryd.prog 47 #[digV x] w (Hands (digV (lowN x)) w) := by
  have LS : Hid ((⟨#[108, 101, 97, 102]⟩ : ByteArray).size ≤ maxLen) := by show (4 : Nat) ≤ _; first | omega | (unfold maxLen; omega)
  obtain ⟨y, hy⟩ : ∃ y, y = lowN x := ⟨_, rfl⟩
  rw [← hy]
  have HY := Lib.hid hy
  clear hy
  unfold digV
  go_enter Tryd.func47, Tryd.ntmps47
  go_wp2_with fail
  rw [← show digV x = .agg #[.int .u8 (byt x 0), .int .u8 (byt x 1), .int .u8 (byt x 2), .int .u8 (byt x 3), .int .u8 (byt x 4), .int .u8 (byt x 5), .int .u8 (byt x 6), .int .u8 (byt x 7)] from rfl]
  refine (word_c _ x hx (⟨#[108, 101, 97, 102]⟩ : ByteArray) LS.out).mono ?_
  rw [show wordN x (⟨#[108, 101, 97, 102]⟩ : ByteArray).data.toList = y from HY.out.symm]
  unfold digV
  rintro e w1 ⟨rfl, hb⟩
  have R := Lib.hid (keepB (b := w.heap.size + 1) hb (heap_alloc_newest (w := World.alloc _ _) (by simp)))
  have B := Lib.hid (ext_trans (ext_trans (ext_alloc _ _) (ext_alloc _ _)) hb)
  have z1 : w.heap.size + 1 < w1.heap.size := (Array.getElem?_eq_some_iff.1 R.out).1
  clear hb
  obtain ⟨c0, c1, c2, c3, c4, c5, c6, c7, f0, f1, f2, f3, f4, f5, f6, f7⟩ := full8 R.out
  go_wp2_with fail
  obtain ⟨g0, g1, g2, g3, g4, g5, g6, g7⟩ := put8 R.out (.int .u8 (byt y 0)) (.int .u8 (byt y 1)) (.int .u8 (byt y 2)) (.int .u8 (byt y 3)) (.int .u8 (byt y 4)) (.int .u8 (byt y 5)) (.int .u8 (byt y 6)) (.int .u8 (byt y 7))
  refine bodyPost_ret (v := digV y) (by unfold digV; simp only [results, Tryd.results47]; simp [go_sem, g0, g1, g2, g3, g4, g5, g6, g7]) rfl ⟨by unfold digV; rfl, bel8 B.out (Nat.le_refl _) (by omega) _ _ _ _ _ _ _ _⟩
#print axioms lowest1_c

set_option maxRecDepth 100000 in
set_option maxHeartbeats 1000000 in
theorem rlow_c (w : World) (x : Nat) (hx : x < 18446744073709551616) : Calls Tryd.prog 38 #[digV x] w (Hands (digV (lowN x)) w) := by
  have LS : Hid ((⟨#[108, 101, 97, 102]⟩ : ByteArray).size ≤ 100000) := by show (4 : Nat) ≤ _; first | omega | (unfold maxLen; omega)
  obtain ⟨y, hy⟩ : ∃ y, y = lowN x := ⟨_, rfl⟩
  rw [← hy]
  have HY := Lib.hid hy
  clear hy
  unfold digV
  go_enter Tryd.func38, Tryd.ntmps38
  go_wp2_with fail
  rw [← show digV x = .agg #[.int .u8 (byt x 0), .int .u8 (byt x 1), .int .u8 (byt x 2), .int .u8 (byt x 3), .int .u8 (byt x 4), .int .u8 (byt x 5), .int .u8 (byt x 6), .int .u8 (byt x 7)] from rfl]
  refine (rword_c _ x hx (⟨#[108, 101, 97, 102]⟩ : ByteArray) LS.out).mono ?_
  rw [show wordN x (⟨#[108, 101, 97, 102]⟩ : ByteArray).data.toList = y from HY.out.symm]
  unfold digV
  rintro e w1 ⟨rfl, hb⟩
  have R := Lib.hid (keepB (b := w.heap.size + 1) hb (heap_alloc_newest (w := World.alloc _ _) (by simp)))
  have B := Lib.hid (ext_trans (ext_trans (ext_alloc _ _) (ext_alloc _ _)) hb)
  have z1 : w.heap.size + 1 < w1.heap.size := (Array.getElem?_eq_some_iff.1 R.out).1
  clear hb
  obtain ⟨c0, c1, c2, c3, c4, c5, c6, c7, f0, f1, f2, f3, f4, f5, f6, f7⟩ := full8 R.out
  go_wp2_with fail
  obtain ⟨g0, g1, g2, g3, g4, g5, g6, g7⟩ := put8 R.out (.int .u8 (byt y 0)) (.int .u8 (byt y 1)) (.int .u8 (byt y 2)) (.int .u8 (byt y 3)) (.int .u8 (byt y 4)) (.int .u8 (byt y 5)) (.int .u8 (byt y 6)) (.int .u8 (byt y 7))
  refine bodyPost_ret (v := digV y) (by unfold digV; simp only [results, Tryd.results38]; simp [go_sem, g0, g1, g2, g3, g4, g5, g6, g7]) rfl ⟨by unfold digV; rfl, bel8 B.out (Nat.le_refl _) (by omega) _ _ _ _ _ _ _ _⟩
#print axioms rlow_c

set_option maxRecDepth 100000 in
set_option maxHeartbeats 1000000 in
theorem noLeaf_c (w : World) : Calls Tryd.prog 43 #[] w (Hands (digV lackT) w) := by
  have LS : Hid ((⟨#[110, 111, 110, 101]⟩ : ByteArray).size ≤ maxLen) := by show (4 : Nat) ≤ _; first | omega | (unfold maxLen; omega)
  obtain ⟨y, hy⟩ : ∃ y, y = lackT := ⟨_, rfl⟩
  rw [← hy]
  have HY := Lib.hid hy
  clear hy
  go_enter Tryd.func43, Tryd.ntmps43
  go_wp2_with fail
  rw [dig_zero]
  refine (word_c _ 0 (by omega) (⟨#[110, 111, 110, 101]⟩ : ByteArray) LS.out).mono ?_
  rw [show wordN 0 (⟨#[110, 111, 110, 101]⟩ : ByteArray).data.toList = y from HY.out.symm]
  unfold digV
  rintro e w1 ⟨rfl, hb⟩
  have R := Lib.hid (keepB (b := w.heap.size) hb (heap_alloc_newest (w := w) rfl))
  have B := Lib.hid (ext_trans (ext_alloc _ _) hb)
  have z1 : w.heap.size < w1.heap.size := (Array.getElem?_eq_some_iff.1 R.out).1
  clear hb
  obtain ⟨c0, c1, c2, c3, c4, c5, c6, c7, f0, f1, f2, f3, f4, f5, f6, f7⟩ := full8 R.out
  go_wp2_with fail
  obtain ⟨g0, g1, g2, g3, g4, g5, g6, g7⟩ := put8 R.out (.int .u8 (byt y 0)) (.int .u8 (byt y 1)) (.int .u8 (byt y 2)) (.int .u8 (byt y 3)) (.int .u8 (byt y 4)) (.int .u8 (byt y 5)) (.int .u8 (byt y 6)) (.int .u8 (byt y 7))
  refine bodyPost_ret (v := digV y) (by unfold digV; simp only [results, Tryd.results43]; simp [go_sem, g0, g1, g2, g3, g4, g5, g6, g7]) rfl ⟨by unfold digV; rfl, bel8 B.out (Nat.le_refl _) (by omega) _ _ _ _ _ _ _ _⟩
#print axioms noLeaf_c

set_option maxRecDepth 100000 in
set_option maxHeartbeats 1000000 in
theorem rlack_c (w : World) : Calls Tryd.prog 55 #[] w (Hands (digV lackT) w) := by
  have LS : Hid ((⟨#[110, 111, 110, 101]⟩ : ByteArray).size ≤ 100000) := by show (4 : Nat) ≤ _; first | omega | (unfold maxLen; omega)
  obtain ⟨y, hy⟩ : ∃ y, y = lackT := ⟨_, rfl⟩
  rw [← hy]
  have HY := Lib.hid hy
  clear hy
  go_enter Tryd.func55, Tryd.ntmps55
  go_wp2_with fail
  rw [dig_zero]
  refine (rword_c _ 0 (by omega) (⟨#[110, 111, 110, 101]⟩ : ByteArray) LS.out).mono ?_
  rw [show wordN 0 (⟨#[110, 111, 110, 101]⟩ : ByteArray).data.toList = y from HY.out.symm]
  unfold digV
  rintro e w1 ⟨rfl, hb⟩
  have R := Lib.hid (keepB (b := w.heap.size) hb (heap_alloc_newest (w := w) rfl))
  have B := Lib.hid (ext_trans (ext_alloc _ _) hb)
  have z1 : w.heap.size < w1.heap.size := (Array.getElem?_eq_some_iff.1 R.out).1
  clear hb
  obtain ⟨c0, c1, c2, c3, c4, c5, c6, c7, f0, f1, f2, f3, f4, f5, f6, f7⟩ := full8 R.out
  go_wp2_with fail
  obtain ⟨g0, g1, g2, g3, g4, g5, g6, g7⟩ := put8 R.out (.int .u8 (byt y 0)) (.int .u8 (byt y 1)) (.int .u8 (byt y 2)) (.int .u8 (byt y 3)) (.int .u8 (byt y 4)) (.int .u8 (byt y 5)) (.int .u8 (byt y 6)) (.int .u8 (byt y 7))
  refine bodyPost_ret (v := digV y) (by unfold digV; simp only [results, Tryd.results55]; simp [go_sem, g0, g1, g2, g3, g4, g5, g6, g7]) rfl ⟨by unfold digV; rfl, bel8 B.out (Nat.le_refl _) (by omega) _ _ _ _ _ _ _ _⟩
#print axioms rlack_c

set_option maxRecDepth 100000 in
set_option maxHeartbeats 1000000 in
theorem rootOf_c (w : World) (x : Nat) (hx : x < 18446744073709551616) (h : Nat) (hh : h ≤ 12) : Calls Tryd.prog 48 #[digV x, .int .i64 h] w (Hands (digV (rootN x h)) w) := by
  obtain ⟨rs, hrs⟩ : ∃ rs : ByteArray, rs = ((⟨#[114, 111, 111, 116]⟩ : ByteArray) ++ ⟨(Lib.decDigits h).toArray⟩ : ByteArray) := ⟨_, rfl⟩
  have HRS : Hid (rs.data.toList = rootB h) := by show _ = _; rw [hrs, ByteArray.data_append, Array.toList_append]; exact decDigits_small h hh
  have LS : Hid (rs.size ≤ maxLen) := by
    have e : rs.size = rs.data.toList.length := by rw [Array.length_toList]; rfl
    have := rootB_len h
    show rs.size ≤ maxLen
    rw [e, HRS.out]
    unfold maxLen
    omega
  obtain ⟨y, hy⟩ : ∃ y, y = rootN x h := ⟨_, rfl⟩
  rw [← hy]
  have HY : Hid (wordN x rs.data.toList = y) := by show _ = _; rw [hy, HRS.out]; rfl
  have hno : ¬ 9223372036854775807 < 4 + (Lib.decDigits h).length := by
    have e1 := congrArg List.length (decDigits_small h hh)
    have e2 := rootB_len h
    rw [List.length_append] at e1
    simp only [List.length_cons, List.length_nil] at e1
    omega
  have HS := Lib.hid hrs
  clear hy hrs
  unfold digV
  go_enter Tryd.func48, Tryd.ntmps48
  go_upto_region 1 with fail
  generalize hW : World.alloc (World.alloc w (.cells #[.int .u8 (byt x 0), .int .u8 (byt x 1), .int .u8 (byt x 2), .int .u8 (byt x 3), .int .u8 (byt x 4), .int .u8 (byt x 5), .int .u8 (byt x 6), .int .u8 (byt x 7)] 26)) (.cells #[.int .u8 0, .int .u8 0, .int .u8 0, .int .u8 0, .int .u8 0, .int .u8 0, .int .u8 0, .int .u8 0] 26) = W
  have X : Hid (W.heap[w.heap.size]? = some (.cells #[.int .u8 (byt x 0), .int .u8 (byt x 1), .int .u8 (byt x 2), .int .u8 (byt x 3), .int .u8 (byt x 4), .int .u8 (byt x 5), .int .u8 (byt x 6), .int .u8 (byt x 7)] 26 (0, 0))) := by rw [← hW]; exact keepA (Go.heap_alloc_new w _)
  have R : Hid (W.heap[w.heap.size + 1]? = some (.cells #[.int .u8 0, .int .u8 0, .int .u8 0, .int .u8 0, .int .u8 0, .int .u8 0, .int .u8 0, .int .u8 0] 26 (0, 0))) := by rw [← hW]; exact heap_alloc_newest (w := World.alloc _ _) (by simp)
  have B : Hid (Below w.heap.size w W) := by rw [← hW]; exact ext_trans (ext_alloc _ _) (ext_alloc _ _)
  have zW : w.heap.size + 1 < W.heap.size := by rw [← hW]; simp
  clear hW
  have ne : ¬ some w.heap.size = some (w.heap.size + 1) := by intro e; injection e with e; omega
  refine wp_region_schedC (fun u => World.grownBy W u (some (w.heap.size + 1))) [(true, 0), (true, 1), (false, 2), (true, 3), (false, 4), (false, 5)] (by kernel_rfl) rfl (by kernel_rfl) (by kernel_rfl) (fun _ _ d _ _ h => by cases d <;> exact h) (draws_grown W 1) ?_
  intro J0 hJ0
  iterate 2 (refine schedC_pure (v := ?_) rfl (by rfl) ?_ ?_; rotate_left; (focus (intro u hC; obtain ⟨d0, d1, d2, d3, d4, d5, d6, d7, _, _, _, _, _, _, _, _⟩ := full8 ((hC.block w.heap.size (by omega) ne).trans X.out); go_simp; try with_reducible rfl)); try go_simp)
  refine schedC_eff rfl ?_
  intro J hJ
  go_wp2_with fail
  refine (itoa_c _ h (by omega)).mono ?_
  rintro e w1 ⟨rfl, rfl⟩
  go_wp2_with fail
  refine ⟨draws_grown W 1, ?_⟩
  refine schedC_pure (v := .string rs) rfl (by rfl) ?_ ?_
  · intro u hC
    go_simp
    rw [HS.out]
  try go_simp
  refine schedC_eff rfl ?_
  intro J hJ
  go_wp2_with fail
  rw [← show digV x = .agg #[.int .u8 (byt x 0), .int .u8 (byt x 1), .int .u8 (byt x 2), .int .u8 (byt x 3), .int .u8 (byt x 4), .int .u8 (byt x 5), .int .u8 (byt x 6), .int .u8 (byt x 7)] from rfl]
  refine (word_c _ x hx rs LS.out).mono ?_
  rw [HY.out]
  unfold digV
  rintro e w1 ⟨rfl, hb⟩
  have CB : Hid (Below W.heap.size W w1) := Lib.hid (ext_trans (ext_drew W) hb)
  have CC : Hid (World.grownBy W w1 (some (w.heap.size + 1))) := ⟨CB.out.os, CB.out.tape, CB.out.output, CB.out.size, fun k hk _ => CB.out.block k hk⟩
  clear hb
  go_wp2_with fail
  refine ⟨CC.out, ?_⟩
  replace R := Lib.hid (keepB CB.out R.out)
  replace B := Lib.hid (ext_trans B.out CB.out)
  have z1 : w.heap.size + 1 < w1.heap.size := (Array.getElem?_eq_some_iff.1 R.out).1
  obtain ⟨c0, c1, c2, c3, c4, c5, c6, c7, f0, f1, f2, f3, f4, f5, f6, f7⟩ := full8 R.out
  refine schedC_eff rfl ?_
  intro J hJ
  go_wp2_with fail
  refine ⟨grown_then CC.out (grown8 _ _ _ _ _ _ _ _), ?_⟩
  refine schedC_nil (hJ0 _ _ ?_)
  clear hJ0
  go_wp2_with fail
  obtain ⟨g0, g1, g2, g3, g4, g5, g6, g7⟩ := put8 R.out (.int .u8 (byt y 0)) (.int .u8 (byt y 1)) (.int .u8 (byt y 2)) (.int .u8 (byt y 3)) (.int .u8 (byt y 4)) (.int .u8 (byt y 5)) (.int .u8 (byt y 6)) (.int .u8 (byt y 7))
  refine bodyPost_ret (v := digV y) (by unfold digV; simp only [results, Tryd.results48]; simp [go_sem, g0, g1, g2, g3, g4, g5, g6, g7]) rfl ⟨by unfold digV; rfl, bel8 B.out (Nat.le_refl _) (by omega) _ _ _ _ _ _ _ _⟩
#print axioms rootOf_c
end Go.Proofs.YtbejjmmopdcjoaaDoor
