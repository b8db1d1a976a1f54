/-
  CodeWays: the walk.
-/
import Derived.Test.YtibmkihehaedjaaDoorGWord
import Derived.Test.YtibmkihehaedjaaDoorGOpen
import Derived.Test.YtibmkihehaedjaaDoorFrame
namespace Go.Proofs.YtibmkihehaedjaaDoor
open Go.RowKit

set_option maxRecDepth 100000 in
set_option maxHeartbeats 4000000 in
theorem walkCodeWays (w : World) (o a b c i op : Int) (_ho : In64 o) (_ha : In64 a) (_hb : In64 b) (_hc : In64 c) (i1 : -9223372036854775808 ≤ i) (i2 : i < 9223372036854775808) (_p1 : -9223372036854775808 ≤ op) (_p2 : op < 9223372036854775808) (hf : Hid (Forms w)) : Calls Tryd.prog 4 #[.agg #[.int .i64 o, .int .i64 a, .int .i64 b, .int .i64 c], .int .i64 i, .int .i64 op] w (Holds w) := by
  by_cases hi : i = 9223372036854775807
  · have gi : (i == 9223372036854775807) = true := by rw [beq_iff_eq]; exact hi
    clear hi
    go_enter Tryd.func4, Tryd.ntmps4
    go_wp2_with fail
    have hb0 := ext_trans (ext_alloc w (.cells #[.int .i64 o, .int .i64 a, .int .i64 b, .int .i64 c] 23)) (ext_alloc _ (.cells #[.int .i64 o, .int .i64 a, .int .i64 b, .int .i64 c] 33))
    refine (codeKnown_c _ (Lib.hid (hf.out.ext hb0))).mono ?_
    rintro e2 v ⟨rfl, hb⟩
    go_wp2_with fail
    go_ret
    exact ⟨rfl, ext_trans hb0 hb⟩
  · have gi : (i == 9223372036854775807) = false := by rw [beq_eq_false_iff_ne]; exact hi
    have i3 : i < 9223372036854775807 := by omega
    clear hi
    go_enter Tryd.func4, Tryd.ntmps4
    go_upto_region 4 with fail
    clear gi
    obtain ⟨g3, hg3⟩ : ∃ g, g = w.heap.size := ⟨_, rfl⟩
    obtain ⟨U1, hU1⟩ : ∃ U, U = World.alloc w (.cells #[.int .i64 o, .int .i64 a, .int .i64 b, .int .i64 c] 23) := ⟨_, rfl⟩
    have C3 : Hid (U1.heap[g3]? = some (.cells #[.int .i64 o, .int .i64 a, .int .i64 b, .int .i64 c] 23 (0, 0))) := by rw [hU1, hg3]; exact Go.heap_alloc_new w _
    have B : Hid (Below w.heap.size w U1) := by rw [hU1]; exact ext_alloc w _
    have hs : w.heap.size + 1 = U1.heap.size := by rw [hU1]; simp
    rw [← hU1, hs, ← hg3]
    clear hU1 hg3 hs
    obtain ⟨g7, hg7⟩ : ∃ g, g = U1.heap.size := ⟨_, rfl⟩
    obtain ⟨U, hU⟩ : ∃ U, U = World.alloc U1 (.cells #[.int .i64 o, .int .i64 a, .int .i64 b, .int .i64 c] 33) := ⟨_, rfl⟩
    have C7 : Hid (U.heap[g7]? = some (.cells #[.int .i64 o, .int .i64 a, .int .i64 b, .int .i64 c] 33 (0, 0))) := by rw [hU, hg7]; exact Go.heap_alloc_new U1 _
    have BU : Hid (Below U1.heap.size U1 U) := by rw [hU]; exact ext_alloc U1 _
    replace C3 := Lib.hid (keepG BU.out C3.out)
    replace B := Lib.hid (ext_trans B.out BU.out)
    rw [← hU, ← hg7]
    clear hU hg7 BU U1
    have HF := Lib.hid (hf.out.ext (ext_trans B.out (ext_drew U)))
    clear hf
    refine wp_region_schedC (fun u => Below U.heap.size U u) [(false, 0), (true, 1), (true, 2), (true, 4), (false, 3), (false, 5), (false, 6), (true, 7), (true, 8), (true, 9), (true, 11), (false, 10), (false, 12), (true, 13), (true, 14), (true, 15), (true, 16), (true, 17), (true, 19), (true, 20), (false, 18), (false, 21), (false, 22), (true, 23), (true, 24), (true, 25), (true, 27), (false, 26), (false, 28), (true, 29), (true, 30), (true, 31), (true, 32), (true, 33), (true, 35), (true, 36), (false, 34), (false, 37), (true, 38), (true, 39), (true, 40)] (by kernel_rfl) rfl (by kernel_rfl) (by kernel_rfl) (fun _ _ d _ _ h => by cases d <;> exact h) (ext_drew U) ?_
    intro J0 hJ0
    have Q : Hid (Below U.heap.size U U.drew) := ext_drew U
    refine schedC_eff rfl ?_
    intro J hJ
    go_wp2_with fail
    refine (codeKnown_c _ HF).mono ?_
    rintro e2 v ⟨rfl, hb⟩
    replace Q := Lib.hid (ext_trans Q.out hb)
    replace HF := Lib.hid (HF.out.ext hb)
    clear hb
    go_wp2_with fail
    refine ⟨Q.out, ?_⟩

    iterate 2 (refine schedC_pure (v := ?_) rfl (by rfl) ?_ ?_; rotate_left; (focus (intro u hC; obtain ⟨y0, y1, y2, y3⟩ := full4i (keepG hC C7.out); go_simp; try with_reducible rfl)); try go_simp)
    iterate 1 (refine schedC_pure (v := ?_) rfl (by rfl) ?_ ?_; rotate_left; (focus (intro u hC; obtain ⟨z0, z1, z2, z3⟩ := full4i (keepG hC C3.out); go_simp; try with_reducible rfl)); try go_simp)
    refine schedC_eff rfl ?_
    intro J hJ
    go_wp2_with fail
    refine (reads_c _ HF o a b c).mono ?_
    rintro e2 v ⟨A1, n1, d1, rfl, hR, hb⟩
    have R1 := Lib.hid hR
    clear hR
    replace Q := Lib.hid (ext_trans Q.out hb)
    replace HF := Lib.hid (HF.out.ext hb)
    clear hb
    go_wp2_with fail
    refine ⟨Q.out, ?_⟩

    refine schedC_eff rfl ?_
    intro J hJ
    go_wp2_with fail
    refine (rreads_c _ o a b c).mono ?_
    rintro e2 v ⟨A2, n2, d2, rfl, hR, hb⟩
    have R2 := Lib.hid hR
    clear hR
    replace Q := Lib.hid (ext_trans Q.out hb)
    replace HF := Lib.hid (HF.out.ext hb)
    replace R1 := Lib.hid (R1.out.ext hb)
    clear hb
    go_wp2_with fail
    refine ⟨Q.out, ?_⟩

    refine schedC_eff rfl ?_
    intro J hJ
    go_wp2_with fail
    refine (ints_c _ A1 n1 d1 _ R1 A2 n2 d2 _ R2).mono ?_
    rw [decide_eq_true rfl]
    rintro e2 v ⟨rfl, hb⟩
    clear R1 R2
    replace Q := Lib.hid (ext_trans Q.out hb)
    replace HF := Lib.hid (HF.out.ext hb)
    clear hb
    go_wp2_with fail
    refine ⟨Q.out, ?_⟩

    iterate 2 (refine schedC_pure (v := ?_) rfl (by rfl) ?_ ?_; rotate_left; (focus (intro u hC; go_simp; try with_reducible rfl)); try go_simp)
    iterate 1 (refine schedC_pure (v := ?_) rfl (by rfl) ?_ ?_; rotate_left; (focus (intro u hC; obtain ⟨y0, y1, y2, y3⟩ := full4i (keepG hC C7.out); go_simp; try with_reducible rfl)); try go_simp)
    iterate 1 (refine schedC_pure (v := ?_) rfl (by rfl) ?_ ?_; rotate_left; (focus (intro u hC; obtain ⟨z0, z1, z2, z3⟩ := full4i (keepG hC C3.out); go_simp; try with_reducible rfl)); try go_simp)
    refine schedC_eff rfl ?_
    intro J hJ
    go_wp2_with fail
    refine (writes_c _ HF o a b c).mono ?_
    rintro e2 v ⟨rfl, hb⟩
    replace Q := Lib.hid (ext_trans Q.out hb)
    replace HF := Lib.hid (HF.out.ext hb)
    clear hb
    go_wp2_with fail
    refine ⟨Q.out, ?_⟩

    refine schedC_eff rfl ?_
    intro J hJ
    go_wp2_with fail
    refine (rwrites_c _ o a b c).mono ?_
    rintro e2 v ⟨rfl, hb⟩
    replace Q := Lib.hid (ext_trans Q.out hb)
    replace HF := Lib.hid (HF.out.ext hb)
    clear hb
    go_wp2_with fail
    refine ⟨Q.out, ?_⟩

    iterate 3 (refine schedC_pure (v := ?_) rfl (by rfl) ?_ ?_; rotate_left; (focus (intro u hC; go_simp; try with_reducible rfl)); try go_simp)
    iterate 1 (refine schedC_pure (v := ?_) rfl (by rfl) ?_ ?_; rotate_left; (focus (intro u hC; obtain ⟨y0, y1, y2, y3⟩ := full4i (keepG hC C7.out); go_simp; try with_reducible rfl)); try go_simp)
    iterate 1 (refine schedC_pure (v := ?_) rfl (by rfl) ?_ ?_; rotate_left; (focus (intro u hC; go_simp; try with_reducible rfl)); try go_simp)
    iterate 1 (refine schedC_pure (v := ?_) rfl (by rfl) ?_ ?_; rotate_left; (focus (intro u hC; obtain ⟨z0, z1, z2, z3⟩ := full4i (keepG hC C3.out); go_simp; try with_reducible rfl)); try go_simp)
    iterate 1 (refine schedC_pure (v := ?_) rfl (by rfl) ?_ ?_; rotate_left; (focus (intro u hC; go_simp; try with_reducible rfl)); try go_simp)
    refine schedC_eff rfl ?_
    intro J hJ
    go_wp2_with fail
    refine (next_c _ o a b c i i1 i3).mono ?_
    rintro e2 v ⟨A1, n1, d1, rfl, hR, hb⟩
    have R1 := Lib.hid hR
    clear hR
    replace Q := Lib.hid (ext_trans Q.out hb)
    replace HF := Lib.hid (HF.out.ext hb)
    clear hb
    go_wp2_with fail
    refine ⟨Q.out, ?_⟩

    refine schedC_eff rfl ?_
    intro J hJ
    go_wp2_with fail
    refine (rnext_c _ o a b c i i1 i3).mono ?_
    rintro e2 v ⟨A2, n2, d2, rfl, hR, hb⟩
    have R2 := Lib.hid hR
    clear hR
    replace Q := Lib.hid (ext_trans Q.out hb)
    replace HF := Lib.hid (HF.out.ext hb)
    replace R1 := Lib.hid (R1.out.ext hb)
    clear hb
    go_wp2_with fail
    refine ⟨Q.out, ?_⟩

    refine schedC_eff rfl ?_
    intro J hJ
    go_wp2_with fail
    refine (ints_c _ A1 n1 d1 _ R1 A2 n2 d2 _ R2).mono ?_
    rw [decide_eq_true rfl]
    rintro e2 v ⟨rfl, hb⟩
    clear R1 R2
    replace Q := Lib.hid (ext_trans Q.out hb)
    replace HF := Lib.hid (HF.out.ext hb)
    clear hb
    go_wp2_with fail
    refine ⟨Q.out, ?_⟩

    iterate 4 (refine schedC_pure (v := ?_) rfl (by rfl) ?_ ?_; rotate_left; (focus (intro u hC; go_simp; try with_reducible rfl)); try go_simp)
    refine schedC_eff rfl ?_
    intro J hJ
    go_wp2_with fail
    refine (word_c _ HF op).mono ?_
    rintro e2 v ⟨rfl, hb⟩
    replace Q := Lib.hid (ext_trans Q.out hb)
    replace HF := Lib.hid (HF.out.ext hb)
    clear hb
    go_wp2_with fail
    refine ⟨Q.out, ?_⟩

    refine schedC_eff rfl ?_
    intro J hJ
    go_wp2_with fail
    refine (rword_c _ op).mono ?_
    rintro e2 v ⟨rfl, hb⟩
    replace Q := Lib.hid (ext_trans Q.out hb)
    replace HF := Lib.hid (HF.out.ext hb)
    clear hb
    go_wp2_with fail
    refine ⟨Q.out, ?_⟩

    iterate 4 (refine schedC_pure (v := ?_) rfl (by rfl) ?_ ?_; rotate_left; (focus (intro u hC; go_simp; try with_reducible rfl)); try go_simp)
    iterate 1 (refine schedC_pure (v := ?_) rfl (by rfl) ?_ ?_; rotate_left; (focus (intro u hC; obtain ⟨z0, z1, z2, z3⟩ := full4i (keepG hC C3.out); go_simp; try with_reducible rfl)); try go_simp)
    iterate 1 (refine schedC_pure (v := ?_) rfl (by rfl) ?_ ?_; rotate_left; (focus (intro u hC; go_simp; try with_reducible rfl)); try go_simp)
    iterate 1 (refine schedC_pure (v := ?_) rfl (by rfl) ?_ ?_; rotate_left; (focus (intro u hC; obtain ⟨z0, z1, z2, z3⟩ := full4i (keepG hC C3.out); go_simp; try with_reducible rfl)); try go_simp)
    refine schedC_eff rfl ?_
    intro J hJ
    go_wp2_with fail
    refine (word_c _ HF o).mono ?_
    rintro e2 v ⟨rfl, hb⟩
    replace Q := Lib.hid (ext_trans Q.out hb)
    replace HF := Lib.hid (HF.out.ext hb)
    clear hb
    go_wp2_with fail
    refine ⟨Q.out, ?_⟩

    refine schedC_eff rfl ?_
    intro J hJ
    go_wp2_with fail
    refine (rword_c _ o).mono ?_
    rintro e2 v ⟨rfl, hb⟩
    replace Q := Lib.hid (ext_trans Q.out hb)
    replace HF := Lib.hid (HF.out.ext hb)
    clear hb
    go_wp2_with fail
    refine ⟨Q.out, ?_⟩

    iterate 3 (refine schedC_pure (v := ?_) rfl (by rfl) ?_ ?_; rotate_left; (focus (intro u hC; go_simp; try with_reducible rfl)); try go_simp)
    refine schedC_nil (hJ0 _ _ ?_)
    clear hJ0
    go_wp2_with fail
    go_ret
    exact ⟨rfl, ext_trans B.out Q.out⟩
#print axioms walkCodeWays
end Go.Proofs.YtibmkihehaedjaaDoor
