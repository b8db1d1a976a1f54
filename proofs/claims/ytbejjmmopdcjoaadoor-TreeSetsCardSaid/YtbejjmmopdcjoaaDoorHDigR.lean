/-
  hash: the document's One and Two: contracts.
-/
import Derived.Test.YtbejjmmopdcjoaaDoorHDig
namespace Go.Proofs.YtbejjmmopdcjoaaDoor
open Go.RowKit

set_option maxRecDepth 100000 in
set_option maxHeartbeats 1000000 in
theorem rtwo_c (w : World) (n m : Nat) (hn : n < 18446744073709551616) (hm : m < 18446744073709551616) : Calls Tryd.prog 39 #[digV n, digV m] w (Hands (digV (twoN n m)) w) := by
  have OKB := Lib.hid (begin_ok (k := 3) (by omega))
  obtain ⟨x, hx⟩ : ∃ x, x = twoN n m := ⟨_, rfl⟩
  rw [← hx]
  have HX := Lib.hid hx
  clear hx
  unfold digV
  go_enter Tryd.func39, Tryd.ntmps39
  go_wp2_with fail
  generalize hW : World.alloc (World.alloc (World.alloc w (.cells #[.int .u8 (byt n 0), .int .u8 (byt n 1), .int .u8 (byt n 2), .int .u8 (byt n 3), .int .u8 (byt n 4), .int .u8 (byt n 5), .int .u8 (byt n 6), .int .u8 (byt n 7)] 25)) (.cells #[.int .u8 (byt m 0), .int .u8 (byt m 1), .int .u8 (byt m 2), .int .u8 (byt m 3), .int .u8 (byt m 4), .int .u8 (byt m 5), .int .u8 (byt m 6), .int .u8 (byt m 7)] 25)) (.cells #[.int .u8 0, .int .u8 0, .int .u8 0, .int .u8 0, .int .u8 0, .int .u8 0, .int .u8 0, .int .u8 0] 25) = W
  have D0 : Hid (W.heap[w.heap.size]? = some (.cells #[.int .u8 (byt n 0), .int .u8 (byt n 1), .int .u8 (byt n 2), .int .u8 (byt n 3), .int .u8 (byt n 4), .int .u8 (byt n 5), .int .u8 (byt n 6), .int .u8 (byt n 7)] 25 (0, 0))) := by rw [← hW]; exact (keepA (keepA (heap_alloc_newest (w := w) (by simp))))
  have D1 : Hid (W.heap[w.heap.size + 1]? = some (.cells #[.int .u8 (byt m 0), .int .u8 (byt m 1), .int .u8 (byt m 2), .int .u8 (byt m 3), .int .u8 (byt m 4), .int .u8 (byt m 5), .int .u8 (byt m 6), .int .u8 (byt m 7)] 25 (0, 0))) := by rw [← hW]; exact (keepA (heap_alloc_newest (w := World.alloc _ _) (by simp)))
  have R : Hid (W.heap[w.heap.size + 2]? = some (.cells #[.int .u8 0, .int .u8 0, .int .u8 0, .int .u8 0, .int .u8 0, .int .u8 0, .int .u8 0, .int .u8 0] 25 (0, 0))) := by rw [← hW]; exact heap_alloc_newest (w := World.alloc _ _) (by simp)
  have B0 : Hid (Below w.heap.size w W) := by rw [← hW]; exact (ext_trans (ext_trans (ext_alloc _ _) (ext_alloc _ _)) (ext_alloc _ _))
  have zW : w.heap.size + 2 < W.heap.size := by rw [← hW]; simp
  clear hW
  refine wp_region_schedC (fun v => Below (w.heap.size + 2) W v) [(true, 1), (true, 4), (false, 0), (false, 2), (false, 3), (false, 5), (false, 6), (false, 7), (false, 8)] (by kernel_rfl) rfl (by kernel_rfl) (by kernel_rfl) (fun _ _ d _ _ h => by cases d <;> exact h) ((ext_drew W).mono (by omega)) ?_
  intro J0 hJ0
  refine schedC_pure (v := digV n) rfl (by rfl) (fun v hC => ?_) ?_
  · have q := (hC.block (w.heap.size) (by omega)).trans D0.out
    obtain ⟨d0, d1, d2, d3, d4, d5, d6, d7, _, _, _, _, _, _, _, _⟩ := full8 q
    clear q
    unfold digV
    go_simp
  try go_simp
  refine schedC_pure (v := digV m) rfl (by rfl) (fun v hC => ?_) ?_
  · have q := (hC.block (w.heap.size + 1) (by omega)).trans D1.out
    obtain ⟨d0, d1, d2, d3, d4, d5, d6, d7, _, _, _, _, _, _, _, _⟩ := full8 q
    clear q
    unfold digV
    go_simp
  try go_simp
  refine schedC_eff rfl ?_
  intro J hJ
  go_wp2_with fail
  refine (begin_c _ 3 3 rfl).mono ?_
  rintro e w1 ⟨rfl, hb⟩
  replace R := Lib.hid (keepB hb R.out)
  have B1 : Hid (Below (w.heap.size + 2) W w1) := Lib.hid (((ext_drew W).mono (by omega)).trans (hb.mono (by show _ ≤ W.heap.size; omega)))
  have z1 : w.heap.size + 2 < w1.heap.size := Nat.lt_of_lt_of_le zW hb.size
  clear hb
  go_wp2_with fail
  refine ⟨B1.out, ?_⟩
  refine schedC_eff rfl ?_
  intro J hJ
  go_wp2_with fail
  refine (rnum_c _ n hn).mono ?_
  rintro e w2 ⟨rfl, hb⟩
  replace R := Lib.hid (keepB hb R.out)
  replace B1 : Hid (Below (w.heap.size + 2) W w2) := Lib.hid (B1.out.trans (hb.mono (by omega)))
  have z2 : w.heap.size + 2 < w2.heap.size := Nat.lt_of_lt_of_le z1 hb.size
  clear hb
  go_wp2_with fail
  refine ⟨B1.out, ?_⟩
  have OK2 := Lib.hid (takeN_ok (s := (begin 3)) (n := n) OKB.out hn)
  refine schedC_eff rfl ?_
  intro J hJ
  go_wp2_with fail
  refine (rin_c _ (begin 3) n hn (Lib.hid OKB.out)).mono ?_
  rintro e w3 ⟨rfl, hb⟩
  replace R := Lib.hid (keepB hb R.out)
  replace B1 : Hid (Below (w.heap.size + 2) W w3) := Lib.hid (B1.out.trans (hb.mono (by omega)))
  have z3 : w.heap.size + 2 < w3.heap.size := Nat.lt_of_lt_of_le z2 hb.size
  clear hb
  go_wp2_with fail
  refine ⟨B1.out, ?_⟩
  refine schedC_eff rfl ?_
  intro J hJ
  go_wp2_with fail
  refine (rnum_c _ m hm).mono ?_
  rintro e w4 ⟨rfl, hb⟩
  replace R := Lib.hid (keepB hb R.out)
  replace B1 : Hid (Below (w.heap.size + 2) W w4) := Lib.hid (B1.out.trans (hb.mono (by omega)))
  have z4 : w.heap.size + 2 < w4.heap.size := Nat.lt_of_lt_of_le z3 hb.size
  clear hb
  go_wp2_with fail
  refine ⟨B1.out, ?_⟩
  have OK4 := Lib.hid (takeN_ok (s := (takeN (begin 3) n)) (n := m) OK2.out hm)
  refine schedC_eff rfl ?_
  intro J hJ
  go_wp2_with fail
  refine (rin_c _ (takeN (begin 3) n) m hm (Lib.hid OK2.out)).mono ?_
  rintro e w5 ⟨rfl, hb⟩
  replace R := Lib.hid (keepB hb R.out)
  replace B1 : Hid (Below (w.heap.size + 2) W w5) := Lib.hid (B1.out.trans (hb.mono (by omega)))
  have z5 : w.heap.size + 2 < w5.heap.size := Nat.lt_of_lt_of_le z4 hb.size
  clear hb
  go_wp2_with fail
  refine ⟨B1.out, ?_⟩
  refine schedC_eff rfl ?_
  intro J hJ
  go_wp2_with fail
  refine (out_c _ (takeN (takeN (begin 3) n) m) (Lib.hid OK4.out)).mono ?_
  rw [show outN (takeN (takeN (begin 3) n) m) = x from HX.out.symm]
  unfold digV
  rintro e w6 ⟨rfl, hb⟩
  replace R := Lib.hid (keepB hb R.out)
  replace B1 : Hid (Below (w.heap.size + 2) W w6) := Lib.hid (B1.out.trans (hb.mono (by omega)))
  clear hb
  obtain ⟨c0, c1, c2, c3, c4, c5, c6, c7, f0, f1, f2, f3, f4, f5, f6, f7⟩ := full8 R.out
  have z6 : w.heap.size + 2 ≤ W.heap.size := by omega
  go_wp2_with fail
  refine ⟨B1.out, ?_⟩
  refine schedC_eff rfl ?_
  intro J hJ
  go_wp2_with fail
  refine ⟨bel8 B1.out (by omega) (Nat.le_refl _) _ _ _ _ _ _ _ _, ?_⟩
  refine schedC_nil (hJ0 _ _ ?_)
  go_wp2_with fail
  have BB := Lib.hid (B0.out.trans (B1.out.mono (by omega)))
  obtain ⟨g0, g1, g2, g3, g4, g5, g6, g7⟩ := put8 R.out (.int .u8 (byt x 0)) (.int .u8 (byt x 1)) (.int .u8 (byt x 2)) (.int .u8 (byt x 3)) (.int .u8 (byt x 4)) (.int .u8 (byt x 5)) (.int .u8 (byt x 6)) (.int .u8 (byt x 7))
  refine bodyPost_ret (v := digV x) (by unfold digV; simp only [results, Tryd.results39]; simp [go_sem, g0, g1, g2, g3, g4, g5, g6, g7]) rfl ⟨by unfold digV; rfl, bel8 BB.out (Nat.le_refl _) (by omega) _ _ _ _ _ _ _ _⟩

#print axioms rtwo_c
end Go.Proofs.YtbejjmmopdcjoaaDoor
