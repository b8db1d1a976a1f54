/-
  HashNums: the walk.
-/
import Derived.Test.YtbiflklmkppnkaaHKnown
import Derived.Test.YtbiflklmkppnkaaHFrame
namespace Go.Proofs.Ytbiflklmkppnkaa
open Go.RowKit

set_option maxRecDepth 100000 in
set_option maxHeartbeats 2000000 in
theorem walkHashNums (w : World) (d n : Nat) (hd : d < 18446744073709551616) (hn : n < 18446744073709551616) : Calls Try.prog 5 #[digV d, .int .u64 n] w (Holds w) := by
  have E1 := eql_r hn hn
  rw [decide_eq_true rfl] at E1
  have G1 := guard_r .eql n n
  have E2 := eql_d hd hd
  rw [decide_eq_true rfl] at E2
  have G2 := guard_d .eql d d
  unfold digV at E1 G1 E2 G2 ⊢
  go_enter Try.func5, Try.ntmps5
  go_wp2_with fail
  generalize hW : World.alloc (World.alloc w (.cells #[.int .u8 (byt d 0), .int .u8 (byt d 1), .int .u8 (byt d 2), .int .u8 (byt d 3), .int .u8 (byt d 4), .int .u8 (byt d 5), .int .u8 (byt d 6), .int .u8 (byt d 7)] 23)) (.cells #[.int .u8 (byt d 0), .int .u8 (byt d 1), .int .u8 (byt d 2), .int .u8 (byt d 3), .int .u8 (byt d 4), .int .u8 (byt d 5), .int .u8 (byt d 6), .int .u8 (byt d 7)] 25) = W
  have D : Hid (W.heap[w.heap.size]? = some (.cells #[.int .u8 (byt d 0), .int .u8 (byt d 1), .int .u8 (byt d 2), .int .u8 (byt d 3), .int .u8 (byt d 4), .int .u8 (byt d 5), .int .u8 (byt d 6), .int .u8 (byt d 7)] 23 (0, 0))) := by rw [← hW]; exact keepA (Go.heap_alloc_new w _)
  have R : Hid (W.heap[w.heap.size + 1]? = some (.cells #[.int .u8 (byt d 0), .int .u8 (byt d 1), .int .u8 (byt d 2), .int .u8 (byt d 3), .int .u8 (byt d 4), .int .u8 (byt d 5), .int .u8 (byt d 6), .int .u8 (byt d 7)] 25 (0, 0))) := by rw [← hW]; exact heap_alloc_newest (w := World.alloc _ _) (by simp)
  have B0 : Hid (Below w.heap.size w W) := by rw [← hW]; exact ext_trans (ext_alloc _ _) (ext_alloc _ _)
  clear hW
  refine wp_region_schedC (fun v => Below W.heap.size W v) [(false, 0), (true, 1), (true, 2), (true, 4), (false, 3), (false, 5), (true, 6), (true, 7), (true, 8), (true, 9), (true, 11), (false, 10), (false, 12), (true, 13), (true, 14), (true, 15), (true, 16), (true, 19), (false, 17), (false, 18), (true, 20), (true, 21), (true, 22), (true, 23), (true, 26), (false, 24), (false, 25), (true, 27), (true, 28), (true, 29)] (by kernel_rfl) rfl (by kernel_rfl) (by kernel_rfl) (fun _ _ d _ _ h => by cases d <;> exact h) (ext_drew W) ?_
  intro J0 hJ0
  refine schedC_eff rfl ?_
  intro J hJ
  go_wp2_with fail
  refine (known_c _).mono ?_
  try unfold digV
  rintro e w1 ⟨rfl, hb⟩
  have B : Hid (Below W.heap.size W w1) := Lib.hid (ext_trans (ext_drew W) hb)
  clear hb
  go_wp2_with fail
  refine ⟨B.out, ?_⟩
  iterate 3 (refine schedC_pure (v := ?_) rfl (by rfl) ?_ ?_; rotate_left; (focus (intro v hC; obtain ⟨ d0, d1, d2, d3, d4, d5, d6, d7, _, _, _, _, _, _, _, _⟩ := full8 (keepB hC D.out); obtain ⟨ r0, r1, r2, r3, r4, r5, r6, r7, _, _, _, _, _, _, _, _⟩ := full8 (keepB hC R.out); go_simp; try with_reducible rfl)); try go_simp)
  refine schedC_eff rfl ?_
  intro J hJ
  go_wp2_with fail
  refine (num_c _ d hd).mono ?_
  try unfold digV
  rintro e w2 ⟨rfl, hb⟩
  replace B : Hid (Below W.heap.size W w2) := Lib.hid (ext_trans B.out hb)
  clear hb
  go_wp2_with fail
  refine ⟨B.out, ?_⟩
  refine schedC_eff rfl ?_
  intro J hJ
  go_wp2_with fail
  refine (rnum_c _ d hd).mono ?_
  try unfold digV
  rintro e w3 ⟨rfl, hb⟩
  replace B : Hid (Below W.heap.size W w3) := Lib.hid (ext_trans B.out hb)
  clear hb
  go_wp2_with fail
  refine ⟨B.out, ?_⟩
  iterate 5 (refine schedC_pure (v := ?_) rfl (by rfl) ?_ ?_; rotate_left; (focus (intro v hC; obtain ⟨ d0, d1, d2, d3, d4, d5, d6, d7, _, _, _, _, _, _, _, _⟩ := full8 (keepB hC D.out); obtain ⟨ r0, r1, r2, r3, r4, r5, r6, r7, _, _, _, _, _, _, _, _⟩ := full8 (keepB hC R.out); go_simp; try with_reducible rfl)); try go_simp)
  refine schedC_eff rfl ?_
  intro J hJ
  go_wp2_with fail
  refine (fromNum_c _ n hn).mono ?_
  try unfold digV
  rintro e w4 ⟨rfl, hb⟩
  replace B : Hid (Below W.heap.size W w4) := Lib.hid (ext_trans B.out hb)
  clear hb
  go_wp2_with fail
  refine ⟨B.out, ?_⟩
  refine schedC_eff rfl ?_
  intro J hJ
  go_wp2_with fail
  refine (rfromNum_c _ n hn).mono ?_
  try unfold digV
  rintro e w5 ⟨rfl, hb⟩
  replace B : Hid (Below W.heap.size W w5) := Lib.hid (ext_trans B.out hb)
  clear hb
  go_wp2_with fail
  refine ⟨B.out, ?_⟩
  iterate 5 (refine schedC_pure (v := ?_) rfl (by rfl) ?_ ?_; rotate_left; (focus (intro v hC; obtain ⟨ d0, d1, d2, d3, d4, d5, d6, d7, _, _, _, _, _, _, _, _⟩ := full8 (keepB hC D.out); obtain ⟨ r0, r1, r2, r3, r4, r5, r6, r7, _, _, _, _, _, _, _, _⟩ := full8 (keepB hC R.out); go_simp; try with_reducible rfl)); try go_simp)
  refine schedC_eff rfl ?_
  intro J hJ
  go_wp2_with fail
  refine (num_c _ d hd).mono ?_
  try unfold digV
  rintro e w6 ⟨rfl, hb⟩
  replace B : Hid (Below W.heap.size W w6) := Lib.hid (ext_trans B.out hb)
  clear hb
  go_wp2_with fail
  refine ⟨B.out, ?_⟩
  refine schedC_eff rfl ?_
  intro J hJ
  go_wp2_with fail
  refine (fromNum_c _ d hd).mono ?_
  try unfold digV
  rintro e w7 ⟨rfl, hb⟩
  replace B : Hid (Below W.heap.size W w7) := Lib.hid (ext_trans B.out hb)
  clear hb
  go_wp2_with fail
  refine ⟨B.out, ?_⟩
  iterate 5 (refine schedC_pure (v := ?_) rfl (by rfl) ?_ ?_; rotate_left; (focus (intro v hC; obtain ⟨ d0, d1, d2, d3, d4, d5, d6, d7, _, _, _, _, _, _, _, _⟩ := full8 (keepB hC D.out); obtain ⟨ r0, r1, r2, r3, r4, r5, r6, r7, _, _, _, _, _, _, _, _⟩ := full8 (keepB hC R.out); go_simp; try with_reducible rfl)); try go_simp)
  refine schedC_eff rfl ?_
  intro J hJ
  go_wp2_with fail
  refine (fromNum_c _ n hn).mono ?_
  try unfold digV
  rintro e w8 ⟨rfl, hb⟩
  replace B : Hid (Below W.heap.size W w8) := Lib.hid (ext_trans B.out hb)
  clear hb
  go_wp2_with fail
  refine ⟨B.out, ?_⟩
  refine schedC_eff rfl ?_
  intro J hJ
  go_wp2_with fail
  refine (num_c _ n hn).mono ?_
  try unfold digV
  rintro e w9 ⟨rfl, hb⟩
  replace B : Hid (Below W.heap.size W w9) := Lib.hid (ext_trans B.out hb)
  clear hb
  go_wp2_with fail
  refine ⟨B.out, ?_⟩
  iterate 3 (refine schedC_pure (v := ?_) rfl (by rfl) ?_ ?_; rotate_left; (focus (intro v hC; obtain ⟨ d0, d1, d2, d3, d4, d5, d6, d7, _, _, _, _, _, _, _, _⟩ := full8 (keepB hC D.out); obtain ⟨ r0, r1, r2, r3, r4, r5, r6, r7, _, _, _, _, _, _, _, _⟩ := full8 (keepB hC R.out); go_simp; try with_reducible rfl)); try go_simp)
  refine schedC_nil (hJ0 _ _ ?_)
  go_wp2_with fail
  go_ret
  exact ⟨rfl, ext_trans B0.out B.out⟩
#print axioms walkHashNums
end Go.Proofs.Ytbiflklmkppnkaa
