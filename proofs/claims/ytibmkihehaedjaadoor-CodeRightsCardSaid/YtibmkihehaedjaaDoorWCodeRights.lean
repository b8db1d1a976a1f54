/-
  CodeRights: the walk.
-/
import Derived.Test.YtibmkihehaedjaaDoorGCheck
import Derived.Test.YtibmkihehaedjaaDoorFrame
namespace Go.Proofs.YtibmkihehaedjaaDoor
open Go.RowKit

set_option maxRecDepth 100000 in
set_option maxHeartbeats 8000000 in
theorem walkCodeRights (w : World) (o a b c size words : Int) (A : Option Addr) (n d : Nat) (l : List Ins) (_ho : In64 o) (_ha : In64 a) (_hb : In64 b) (_hc : In64 c) (_s1 : -9223372036854775808 ≤ size) (_s2 : size < 9223372036854775808) (_w1 : -9223372036854775808 ≤ words) (_w2 : words < 9223372036854775808) (h : RdS w A n d l) (_hl : ∀ x ∈ l, x.ok) (hf : Hid (Forms w)) : Calls Tryd.prog 3 #[.agg #[.int .i64 o, .int .i64 a, .int .i64 b, .int .i64 c], .int .i64 size, .int .i64 words, .slice A n d] w (Holds w) := by
  have HL := Lib.hid h.len
  have hle := h.le
  have hmx := h.max
  have R0 := Lib.hid h
  clear h _ho _ha _hb _hc _s1 _s2 _w1 _w2 _hl
  go_enter Tryd.func3, Tryd.ntmps3
  go_upto_region 1 with fail
  obtain ⟨g4, hg4⟩ : ∃ g, g = w.heap.size := ⟨_, rfl⟩
  obtain ⟨U, hU⟩ : ∃ U, U = World.alloc w (.cells #[.int .i64 o, .int .i64 a, .int .i64 b, .int .i64 c] 23) := ⟨_, rfl⟩
  have C4 : Hid (U.heap[g4]? = some (.cells #[.int .i64 o, .int .i64 a, .int .i64 b, .int .i64 c] 23 (0, 0))) := by rw [hU, hg4]; exact Go.heap_alloc_new w _
  have B : Hid (Below w.heap.size w U) := by rw [hU]; exact ext_alloc w _
  rw [← hU, ← hg4]
  clear hU hg4
  have HF := Lib.hid (hf.out.ext B.out)
  replace R0 := Lib.hid (R0.out.ext B.out)
  clear hf
  go_wp2_with fail
  refine (codeKnown_c _ HF).mono ?_
  rintro e v ⟨rfl, hb⟩
  replace C4 := Lib.hid (keepG hb C4.out)
  replace B := Lib.hid (ext_trans B.out hb)
  replace HF := Lib.hid (HF.out.ext hb)
  replace R0 := Lib.hid (R0.out.ext hb)
  clear hb
  by_cases h3 : 300 < n
  · have h3I : (300 : Int) < (n : Int) := by omega
    go_wp2_with fail
    refine (codeKnown_c _ HF).mono ?_
    rintro e v2 ⟨rfl, hb⟩
    go_wp2_with fail
    go_ret
    exact ⟨rfl, ext_trans B.out hb⟩
  · have h3I : ¬ (300 : Int) < (n : Int) := by omega
    go_wp2_with fail
    refine (of_c _ A n d l R0 (by omega)).mono ?_
    rintro e v2 ⟨A2, d2, rfl, hR, hb⟩
    have R2 := Lib.hid hR
    clear hR
    replace C4 := Lib.hid (keepG hb C4.out)
    replace B := Lib.hid (ext_trans B.out hb)
    replace HF := Lib.hid (HF.out.ext hb)
    replace R0 := Lib.hid (R0.out.ext hb)
    clear hb
    rw [HL.out] at R2 ⊢
    go_wp2_with fail
    refine (check_c _ HF A2 n d2 l R2 words).mono ?_
    obtain ⟨p, hp⟩ : ∃ p, p = checkV l words := ⟨_, rfl⟩
    have HP := Lib.hid hp
    rw [← hp]
    clear hp R2
    rintro e v3 ⟨rfl, hb⟩
    replace C4 := Lib.hid (keepG hb C4.out)
    replace B := Lib.hid (ext_trans B.out hb)
    replace HF := Lib.hid (HF.out.ext hb)
    replace R0 := Lib.hid (R0.out.ext hb)
    clear hb
    go_wp2_with fail
    refine (rcheck_c _ A n d l R0 words).mono ?_
    rw [← HP.out]
    clear HP
    rintro e v4 ⟨rfl, hb⟩
    replace C4 := Lib.hid (keepG hb C4.out)
    replace B := Lib.hid (ext_trans B.out hb)
    replace HF := Lib.hid (HF.out.ext hb)
    replace R0 := Lib.hid (R0.out.ext hb)
    clear hb
    clear R0
    go_upto_region 5 with fail
    refine wp_region_schedC (fun u => Below v4.heap.size v4 u) [(true, 0), (true, 1), (true, 2), (true, 4), (true, 5), (true, 6), (false, 3), (false, 7), (true, 8), (true, 9), (true, 10), (true, 11), (true, 12), (true, 13), (true, 14), (true, 15), (true, 16), (true, 17), (true, 18), (true, 19)] (by kernel_rfl) rfl (by kernel_rfl) (by kernel_rfl) (fun _ _ d _ _ h => by cases d <;> exact h) (ext_drew v4) ?_
    intro J0 hJ0
    have Q : Hid (Below v4.heap.size v4 v4.drew) := ext_drew v4
    replace HF := Lib.hid (HF.out.ext Q.out)
    iterate 1 (refine schedC_pure (v := ?_) rfl (by rfl) ?_ ?_; rotate_left; (focus (intro u hC; obtain ⟨z0, z1, z2, z3⟩ := full4i (keepG hC C4.out); go_simp; try with_reducible rfl)); try go_simp)
    iterate 1 (refine schedC_pure (v := ?_) rfl (by rfl) ?_ ?_; rotate_left; (focus (intro u hC; go_simp; try with_reducible rfl)); try go_simp)
    iterate 1 (refine schedC_pure (v := ?_) rfl (by rfl) ?_ ?_; rotate_left; (focus (intro u hC; go_simp; try with_reducible rfl)); try go_simp)
    iterate 1 (refine schedC_pure (v := ?_) rfl (by rfl) ?_ ?_; rotate_left; (focus (intro u hC; obtain ⟨z0, z1, z2, z3⟩ := full4i (keepG hC C4.out); go_simp; try with_reducible rfl)); try go_simp)
    iterate 1 (refine schedC_pure (v := ?_) rfl (by rfl) ?_ ?_; rotate_left; (focus (intro u hC; go_simp; try with_reducible rfl)); try go_simp)
    iterate 1 (refine schedC_pure (v := ?_) rfl (by rfl) ?_ ?_; rotate_left; (focus (intro u hC; go_simp; try with_reducible rfl)); try go_simp)
    refine schedC_eff rfl ?_
    intro J hJ
    go_wp2_with fail
    refine (right_c _ HF o a b c size words).mono ?_
    rintro e2 v ⟨rfl, hb⟩
    replace Q := Lib.hid (ext_trans Q.out hb)
    replace HF := Lib.hid (HF.out.ext hb)
    clear hb
    go_wp2_with fail
    refine ⟨Q.out, ?_⟩
    refine schedC_eff rfl ?_
    intro J hJ
    go_wp2_with fail
    refine (rright_c _ o a b c size words).mono ?_
    rintro e2 v ⟨rfl, hb⟩
    replace Q := Lib.hid (ext_trans Q.out hb)
    replace HF := Lib.hid (HF.out.ext hb)
    clear hb
    go_wp2_with fail
    refine ⟨Q.out, ?_⟩
    iterate 1 (refine schedC_pure (v := ?_) rfl (by rfl) ?_ ?_; rotate_left; (focus (intro u hC; go_simp; try with_reducible rfl)); try go_simp)
    iterate 1 (refine schedC_pure (v := ?_) rfl (by rfl) ?_ ?_; rotate_left; (focus (intro u hC; go_simp; try with_reducible rfl)); try go_simp)
    iterate 1 (refine schedC_pure (v := ?_) rfl (by rfl) ?_ ?_; rotate_left; (focus (intro u hC; go_simp; try with_reducible rfl)); try go_simp)
    iterate 1 (refine schedC_pure (v := ?_) rfl (by rfl) ?_ ?_; rotate_left; (focus (intro u hC; go_simp; try with_reducible rfl)); try go_simp)
    iterate 1 (refine schedC_pure (v := ?_) rfl (by rfl) ?_ ?_; rotate_left; (focus (intro u hC; go_simp; try with_reducible rfl)); try go_simp)
    iterate 1 (refine schedC_pure (v := ?_) rfl (by rfl) ?_ ?_; rotate_left; (focus (intro u hC; go_simp; try with_reducible rfl)); try go_simp)
    iterate 1 (refine schedC_pure (v := ?_) rfl (by rfl) ?_ ?_; rotate_left; (focus (intro u hC; go_simp; try with_reducible rfl)); try go_simp)
    iterate 1 (refine schedC_pure (v := ?_) rfl (by rfl) ?_ ?_; rotate_left; (focus (intro u hC; go_simp; try with_reducible rfl)); try go_simp)
    iterate 1 (refine schedC_pure (v := ?_) rfl (by rfl) ?_ ?_; rotate_left; (focus (intro u hC; go_simp; try with_reducible rfl)); try go_simp)
    iterate 1 (refine schedC_pure (v := ?_) rfl (by rfl) ?_ ?_; rotate_left; (focus (intro u hC; go_simp; try with_reducible rfl)); try go_simp)
    iterate 1 (refine schedC_pure (v := ?_) rfl (by rfl) ?_ ?_; rotate_left; (focus (intro u hC; go_simp; try with_reducible rfl)); try go_simp)
    iterate 1 (refine schedC_pure (v := ?_) rfl (by rfl) ?_ ?_; rotate_left; (focus (intro u hC; go_simp; try with_reducible rfl)); try go_simp)
    refine schedC_nil (hJ0 _ _ ?_)
    clear hJ0
    go_wp2_with fail
    go_ret
    exact ⟨rfl, ext_trans B.out Q.out⟩
#print axioms walkCodeRights
end Go.Proofs.YtibmkihehaedjaaDoor
