/-
  hash: known: the example holds.
-/
import Derived.Test.YtdejlahgeckobaaHEq
import Derived.Test.YtdejlahgeckobaaHStrm
namespace Go.Proofs.Ytdejlahgeckobaa
open Go.RowKit

theorem dig261 : digV 261 = .agg #[.int .u8 5, .int .u8 1, .int .u8 0, .int .u8 0, .int .u8 0, .int .u8 0, .int .u8 0, .int .u8 0] := by
  unfold digV byt
  rfl

set_option maxRecDepth 100000 in
set_option maxHeartbeats 1000000 in
theorem known_c (w : World) : Calls Try.prog 15 #[] w (fun e w' => e = .returned (.bool true) ∧ Below w.heap.size w w') := by
  have L : 261 < 18446744073709551616 := by omega
  obtain ⟨X, hX⟩ : ∃ X, X = oneN (oneN 261) := ⟨_, rfl⟩
  have LX : X < 18446744073709551616 := by rw [hX]; exact oneN_lt (oneN_lt L)
  have HC : Hid (chainI 261 2 = X) := by rw [hX]; show chainI 261 2 = _; rfl
  have HX := Lib.hid hX
  clear hX
  have EQ := eql_d LX LX
  rw [decide_eq_true rfl] at EQ
  have GD := guard_d .eql X X
  go_enter Try.func15, Try.ntmps15
  go_wp2_with fail
  refine (fromNum_c _ 261 L).mono ?_
  rw [dig261]
  rintro e w1 ⟨rfl, hb⟩
  have B := Lib.hid (ext_trans hb (ext_alloc w1 (.cells #[.int .u8 5, .int .u8 1, .int .u8 0, .int .u8 0, .int .u8 0, .int .u8 0, .int .u8 0, .int .u8 0] 31)))
  clear hb
  go_wp2_with fail
  generalize hW : w1.alloc (.cells #[.int .u8 5, .int .u8 1, .int .u8 0, .int .u8 0, .int .u8 0, .int .u8 0, .int .u8 0, .int .u8 0] 31) = W at B ⊢
  have D : Hid (W.heap[w1.heap.size]? = some (.cells #[.int .u8 5, .int .u8 1, .int .u8 0, .int .u8 0, .int .u8 0, .int .u8 0, .int .u8 0, .int .u8 0] 31 (0, 0))) := by rw [← hW]; exact Go.heap_alloc_new w1 _
  clear hW
  refine wp_region_schedC (fun v => Below W.heap.size W v) [(true, 0), (false, 1), (true, 2), (true, 3), (true, 4), (true, 5), (true, 6), (true, 7), (true, 8), (true, 9), (true, 10), (true, 11), (true, 12), (true, 13), (true, 14), (true, 16), (false, 15), (false, 17), (false, 18), (true, 19), (true, 20), (true, 21), (true, 22), (false, 23), (true, 24), (true, 25), (true, 26), (true, 27)] (by kernel_rfl) rfl (by kernel_rfl) (by kernel_rfl) (fun _ _ d _ _ h => by cases d <;> exact h) (ext_drew W) ?_
  intro J0 hJ0
  refine schedC_pure (v := ?_) rfl (by rfl) ?_ ?_; rotate_left; (focus (intro v hC; go_simp; try with_reducible rfl)); try go_simp
  refine schedC_eff rfl ?_
  intro J hJ
  go_wp2_with fail
  refine (num_c _ 261 L).mono ?_
  rintro e w2 ⟨rfl, hb⟩
  have B2 : Hid (Below W.heap.size W w2) := Lib.hid (ext_trans (ext_drew W) hb)
  clear hb
  go_wp2_with fail
  refine ⟨B2.out, ?_⟩
  iterate 14 (refine schedC_pure (v := ?_) rfl (by rfl) ?_ ?_; rotate_left; (focus (intro v hC; obtain ⟨d0, d1, d2, d3, d4, d5, d6, d7, _, _, _, _, _, _, _, _⟩ := full8 (keepB hC D.out); go_simp; try with_reducible rfl)); try go_simp)
  refine schedC_eff rfl ?_
  intro J hJ
  go_wp2_with fail
  refine (chain_c _ 261 L 2).mono ?_
  rw [HC.out]
  rintro e w3 ⟨rfl, hb⟩
  have B3 : Hid (Below W.heap.size W w3) := Lib.hid (ext_trans B2.out hb)
  clear hb
  go_wp2_with fail
  refine ⟨B3.out, ?_⟩
  refine schedC_eff rfl ?_
  intro J hJ
  go_wp2_with fail
  refine (one_c _ 261 L).mono ?_
  rintro e w4 ⟨rfl, hb⟩
  have B4 : Hid (Below W.heap.size W w4) := Lib.hid (ext_trans B3.out hb)
  clear hb
  go_wp2_with fail
  refine ⟨B4.out, ?_⟩
  refine schedC_eff rfl ?_
  intro J hJ
  go_wp2_with fail
  refine (one_c _ (oneN 261) (oneN_lt L)).mono ?_
  rw [← HX.out]
  rintro e w5 ⟨rfl, hb⟩
  have B5 : Hid (Below W.heap.size W w5) := Lib.hid (ext_trans B4.out hb)
  clear hb
  go_wp2_with fail
  refine ⟨B5.out, ?_⟩
  refine schedC_pure (v := .bool true) rfl (by rfl) (fun v hC => ?_) ?_
  · go_simp
  try go_simp
  iterate 3 (refine schedC_pure (v := ?_) rfl (by rfl) ?_ ?_; rotate_left; (focus (intro v hC; obtain ⟨d0, d1, d2, d3, d4, d5, d6, d7, _, _, _, _, _, _, _, _⟩ := full8 (keepB hC D.out); go_simp; try with_reducible rfl)); try go_simp)
  refine schedC_eff rfl ?_
  intro J hJ
  go_wp2_with fail
  refine (stream_c _ 261 L 9).mono ?_
  rintro e w6 ⟨A, n, c, rfl, ho, hb⟩
  have B6 : Hid (Below W.heap.size W w6) := Lib.hid (ext_trans B5.out hb)
  obtain rfl : n = 9 := by
    have h1 := ho.len
    have h2 : streamI 261 9 = stream 261 9 := rfl
    rw [h2, stream_len] at h1
    exact h1.symm
  clear hb ho
  go_wp2_with fail
  refine ⟨B6.out, ?_⟩
  iterate 4 (refine schedC_pure (v := ?_) rfl (by rfl) ?_ ?_; rotate_left; (focus (intro v hC; go_simp; try with_reducible rfl)); try go_simp)
  refine schedC_nil (hJ0 _ _ ?_)
  go_wp2_with fail
  go_ret
  exact ⟨rfl, ext_trans B.out B6.out⟩
#print axioms known_c
end Go.Proofs.Ytdejlahgeckobaa
