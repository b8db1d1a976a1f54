/-
  HashOf: the walk.
-/
import Derived.Test.YtbiflklmkppnkaaHKnown
import Derived.Test.YtbiflklmkppnkaaHFrame
import Derived.Test.YtbiflklmkppnkaaHWord
namespace Go.Proofs.Ytbiflklmkppnkaa
open Go.RowKit

set_option maxRecDepth 100000 in
set_option maxHeartbeats 4000000 in
theorem walkHashOf (w : World) (A : Option Addr) (n c : Nat) (bs : List UInt8) (d : Nat) (s : ByteArray) (h' : Rd w A n c bs) (hd : d < 18446744073709551616) (hs' : s.size ≤ maxLen) :
    Calls Try.prog 3 #[.slice A n c, digV d, .string s] w (Holds w) := by
  have h := Lib.hid h'
  have HL := Lib.hid h'.len
  have HSM := Lib.hid hs'
  have hle := h'.le
  have hmax := h'.max
  have hsz : s.size ≤ 9223372036854775807 := by unfold maxLen at hs'; omega
  clear h' hs'
  by_cases h4 : n > 400
  · have hI : (400 : Int) < (n : Int) := by omega
    clear h4
    unfold digV
    go_enter Try.func3, Try.ntmps3
    go_wp2_with fail
    refine (known_c _).mono ?_
    rintro e w1 ⟨rfl, hb1⟩
    have B := Lib.hid (ext_trans (ext_alloc _ _) hb1)
    clear hb1
    go_wp2_with fail
    refine (known_c _).mono ?_
    rintro e w2 ⟨rfl, hb2⟩
    go_wp2_with fail
    go_ret
    exact ⟨rfl, ext_trans B.out hb2⟩
  have hI : ¬ (400 : Int) < (n : Int) := by omega
  have hn4 : n ≤ 100000 := by omega
  by_cases h5 : s.size > 400
  · have hI2 : (400 : Int) < (s.size : Int) := by omega
    clear h4 h5
    unfold digV
    go_enter Try.func3, Try.ntmps3
    go_wp2_with fail
    refine (known_c _).mono ?_
    rintro e w1 ⟨rfl, hb1⟩
    have B := Lib.hid (ext_trans (ext_alloc _ _) hb1)
    clear hb1
    go_wp2_with fail
    refine (known_c _).mono ?_
    rintro e w2 ⟨rfl, hb2⟩
    go_wp2_with fail
    go_ret
    exact ⟨rfl, ext_trans B.out hb2⟩
  have hI2 : ¬ (400 : Int) < (s.size : Int) := by omega
  have hs4 : s.size ≤ 100000 := by omega
  clear h4 h5
  obtain ⟨X, hX⟩ : ∃ X, X = ofN bs := ⟨_, rfl⟩
  obtain ⟨Y, hY⟩ : ∃ Y, Y = wordN d s.data.toList := ⟨_, rfl⟩
  have LX : X < 18446744073709551616 := by rw [hX]; exact ofN_lt (by rw [HL.out]; omega)
  have LY : Y < 18446744073709551616 := by rw [hY]; exact wordN_lt hd (by rw [Array.length_toList]; exact Nat.lt_of_le_of_lt hs4 (by omega))
  have HX : Hid (ofN bs = X) := hX.symm
  have HY : Hid (wordN d s.data.toList = Y) := hY.symm
  clear hX hY
  have E1 := eql_r LX LX
  rw [decide_eq_true rfl] at E1
  have G1 := guard_r .eql X X
  have E2 := eql_r LY LY
  rw [decide_eq_true rfl] at E2
  have G2 := guard_r .eql Y Y
  unfold digV at E1 G1 E2 G2 ⊢
  go_enter Try.func3, Try.ntmps3
  go_wp2_with fail
  refine (known_c _).mono ?_
  rintro e w1 ⟨rfl, hb1⟩
  have D := Lib.hid (keepB (b := w.heap.size) hb1 (heap_alloc_newest (w := w) rfl))
  have B := Lib.hid (ext_trans (ext_alloc _ _) hb1)
  clear hb1
  have RD := Lib.hid (h.out.ext B.out)
  go_wp2_with fail
  refine wp_region_schedC (fun v => Below w1.heap.size w1 v) [(true, 0), (true, 2), (false, 1), (false, 3), (true, 4), (true, 5), (true, 6), (true, 7), (true, 9), (true, 10), (false, 8), (false, 11), (true, 12), (true, 13), (true, 14)] (by kernel_rfl) rfl (by kernel_rfl) (by kernel_rfl) (fun _ _ d _ _ h => by cases d <;> exact h) (ext_drew w1) ?_
  intro J0 hJ0
  iterate 2 (refine schedC_pure (v := ?_) rfl (by rfl) ?_ ?_; rotate_left; (focus (intro v hC; obtain ⟨ d0, d1, d2, d3, d4, d5, d6, d7, _, _, _, _, _, _, _, _⟩ := full8 (keepB hC D.out); go_simp; try with_reducible rfl)); try go_simp)
  refine schedC_eff rfl ?_
  intro J hJ
  go_wp2_with fail
  refine (of_c _ _ _ _ _ (RD.out.ext (ext_drew w1)) (by omega)).mono ?_
  rw [HX.out]
  try unfold digV
  rintro e w3 ⟨rfl, hb⟩
  have Q : Hid (Below w1.heap.size w1 w3) := Lib.hid (ext_trans (ext_drew w1) hb)
  clear hb
  go_wp2_with fail
  refine ⟨Q.out, ?_⟩
  refine schedC_eff rfl ?_
  intro J hJ
  go_wp2_with fail
  refine (rof_c _ _ _ _ _ (RD.out.ext Q.out) hn4).mono ?_
  rw [HX.out]
  try unfold digV
  rintro e w4 ⟨rfl, hb⟩
  replace Q : Hid (Below w1.heap.size w1 w4) := Lib.hid (ext_trans Q.out hb)
  clear hb
  go_wp2_with fail
  refine ⟨Q.out, ?_⟩
  iterate 6 (refine schedC_pure (v := ?_) rfl (by rfl) ?_ ?_; rotate_left; (focus (intro v hC; obtain ⟨ d0, d1, d2, d3, d4, d5, d6, d7, _, _, _, _, _, _, _, _⟩ := full8 (keepB hC D.out); go_simp; try with_reducible rfl)); try go_simp)
  refine schedC_eff rfl ?_
  intro J hJ
  go_wp2_with fail
  refine (word_c _ d hd s HSM.out).mono ?_
  rw [HY.out]
  try unfold digV
  rintro e w5 ⟨rfl, hb⟩
  replace Q : Hid (Below w1.heap.size w1 w5) := Lib.hid (ext_trans Q.out hb)
  clear hb
  go_wp2_with fail
  refine ⟨Q.out, ?_⟩
  refine schedC_eff rfl ?_
  intro J hJ
  go_wp2_with fail
  refine (rword_c _ d hd s hs4).mono ?_
  rw [HY.out]
  try unfold digV
  rintro e w6 ⟨rfl, hb⟩
  replace Q : Hid (Below w1.heap.size w1 w6) := Lib.hid (ext_trans Q.out hb)
  clear hb
  go_wp2_with fail
  refine ⟨Q.out, ?_⟩
  iterate 3 (refine schedC_pure (v := ?_) rfl (by rfl) ?_ ?_; rotate_left; (focus (intro v hC; obtain ⟨ d0, d1, d2, d3, d4, d5, d6, d7, _, _, _, _, _, _, _, _⟩ := full8 (keepB hC D.out); go_simp; try with_reducible rfl)); try go_simp)
  refine schedC_nil (hJ0 _ _ ?_)
  go_wp2_with fail
  go_ret
  exact ⟨rfl, ext_trans B.out Q.out⟩
#print axioms walkHashOf
end Go.Proofs.Ytbiflklmkppnkaa
