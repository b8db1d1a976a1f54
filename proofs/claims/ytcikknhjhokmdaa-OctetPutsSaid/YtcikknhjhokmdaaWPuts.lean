/-
  OctetPuts: the walk.
-/
import Derived.Test.YtcikknhjhokmdaaSchedC
import Derived.Test.YtcikknhjhokmdaaCut
import Derived.Test.YtcikknhjhokmdaaPushG
namespace Go.Proofs.Ytcikknhjhokmdaa
open Go.RowKit

set_option maxRecDepth 100000 in
set_option maxHeartbeats 2000000 in
theorem puts_walk (w : World) (A0 : Option Addr) (n0 c0 : Nat) (b0 : List UInt8) (n : Nat) (i : Int) (A3 : Option Addr) (n3 c3 : Nat) (b3 : List UInt8) (m0 m3 : Nat)
    (H0 : Hid (Rd w A0 m0 c0 b0)) (hm0 : m0 ≤ 200) (hle0 : n0 ≤ c0) (_hx0 : c0 ≤ 9223372036854775807) (hc0 : (n0 ≤ 200 ∧ m0 = n0) ∨ (200 < n0 ∧ m0 = 200)) (HN : Hid (n < 18446744073709551616)) (HI : Hid (-9223372036854775808 ≤ i ∧ i < 9223372036854775808))
    (H3 : Hid (Rd w A3 m3 c3 b3)) (hm3 : m3 ≤ 200) (hle3 : n3 ≤ c3) (_hx3 : c3 ≤ 9223372036854775807) (hc3 : (n3 ≤ 200 ∧ m3 = n3) ∨ (200 < n3 ∧ m3 = 200)) :
    Calls Try.prog 3 #[.slice A0 n0 c0, .int .u64 n, .int .i64 i, .slice A3 n3 c3] w (Holds w) := by
  have x0 : (if (200 : Int) < (n0 : Int) then (200 : Int) else (n0 : Int)) = (m0 : Int) := by split <;> omega
  have x3 : (if (200 : Int) < (n3 : Int) then (200 : Int) else (n3 : Int)) = (m3 : Int) := by split <;> omega
  have hmc0 : m0 ≤ c0 := by omega
  have hmc3 : m3 ≤ c3 := by omega
  go_enter Try.func3, Try.ntmps3
  go_wp2_with fail
  refine wp_region_sched [(true, 0), (true, 1), (true, 2), (true, 3), (true, 4), (true, 5), (true, 6), (true, 7), (true, 8), (true, 9), (true, 10), (true, 11)] (by kernel_rfl) rfl (by kernel_rfl) (by kernel_rfl) (fun _ _ d _ _ h => by cases d <;> exact h) ?_
  intro J0 hJ0
  iterate 3 (refine sched_pure (v := ?_) rfl (by rfl) ?_ ?_; rotate_left; (focus (intro w; go_simp; try with_reducible rfl)); try go_simp)
  refine sched_pure (v := .int .i64 (m0 : Int)) rfl (by rfl) ?_ ?_
  · intro w; go_simp
  try go_simp
  refine sched_pure (v := .slice A0 m0 c0) rfl (by rfl) ?_ ?_
  · intro w; go_simp
  try go_simp
  iterate 3 (refine sched_pure (v := ?_) rfl (by rfl) ?_ ?_; rotate_left; (focus (intro w; go_simp; try with_reducible rfl)); try go_simp)
  refine sched_pure (v := .int .i64 (m3 : Int)) rfl (by rfl) ?_ ?_
  · intro w; go_simp
  try go_simp
  refine sched_pure (v := .slice A3 m3 c3) rfl (by rfl) ?_ ?_
  · intro w; go_simp
  try go_simp
  iterate 2 (refine sched_pure (v := ?_) rfl (by rfl) ?_ ?_; rotate_left; (focus (intro w; go_simp; try with_reducible rfl)); try go_simp)
  refine sched_nil (hJ0 _ _ ?_)
  go_wp2_with (refine wpList_push_all (o := ⟨some 26, _, _, _, _, _⟩) rfl (.tmp 24) (.tmp 25) 22 22 rfl 5 Try.underlying22 infoU8 w.heap.size _ _ _ [] (by rfl) ((Own.empty w _).ext (ext_drew _)) _ m0 b0 (by rfl) ((H0.out.ext (ext_trans (ext_alloc _ _) (ext_drew _))).src Try.underlying22) (by omega) (ext_alloc _ _).size ?_; intro A9 c9 w2 ho9 hb9; go_simp)
  have HW : Hid (Rd w2 A9 m0 c9 b0) := by have := ho9.rd; rw [Nat.zero_add, List.nil_append] at this; exact this
  have Q2 := Lib.hid ((ext_trans (ext_alloc w _) (ext_drew _)).trans hb9)
  clear ho9 hb9
  refine wp_region_schedC (fun v => Below w2.heap.size w2 v) [(true, 0), (true, 1), (true, 3), (true, 4), (true, 6), (true, 7), (true, 9), (true, 10), (true, 11), (false, 2), (false, 5), (false, 8), (false, 12), (true, 13), (true, 14), (true, 15), (true, 16)] (by kernel_rfl) rfl (by kernel_rfl) (by kernel_rfl) (fun _ _ d _ _ h => by cases d <;> exact h) (ext_drew _) ?_
  intro J1 hJ1
  have H0b : ∀ v, Below w2.heap.size w2 v → Rd v A0 m0 c0 b0 := fun v hv => H0.out.ext (ext_trans Q2.out hv)
  have H3b : ∀ v, Below w2.heap.size w2 v → Rd v A3 m3 c3 b3 := fun v hv => H3.out.ext (ext_trans Q2.out hv)
  have hl3 : b3.length = m3 := H3.out.len
  iterate 8 (refine schedC_pure (v := ?_) rfl (by rfl) ?_ ?_; rotate_left; (focus (intro w hC; go_simp; try with_reducible rfl)); try go_simp)
  refine schedC_pure (v := .string ⟨b3.toArray⟩) rfl (by rfl) (fun v hC => ?_) ?_
  · have := (H3b v hC).text (P := Try.prog) (t := 22) (t' := 9) Try.underlying22 Try.underlying5 Try.underlying9
    simp only [execOp]
    go_simp
  try go_simp
  refine schedC_eff rfl ?_
  intro J hJ
  go_wp2_with fail
  refine (putNum_c _ _ _ _ _ (H0b _ (ext_drew _)) (by omega) n HN).mono ?_
  rintro e w3 ⟨A10, k10, c10, rfl, ho10, hb⟩
  have Q3 : Hid (Below w2.heap.size w2 w3) := Lib.hid (ext_trans (ext_drew _) hb)
  clear hb
  go_wp2_with fail
  refine ⟨Q3.out, ?_⟩
  refine schedC_eff rfl ?_
  intro J hJ
  go_wp2_with fail
  refine (putInt_c _ _ _ _ _ (H0b _ Q3.out) (by omega) i HI.out.1 HI.out.2).mono ?_
  rintro e w4 ⟨A11, k11, c11, rfl, ho11, hb⟩
  have Q4 : Hid (Below w2.heap.size w2 w4) := Lib.hid (ext_trans Q3.out hb)
  have R10 := Lib.hid (ho10.rd.ext hb)
  clear hb ho10
  go_wp2_with fail
  refine ⟨Q4.out, ?_⟩
  refine schedC_eff rfl ?_
  intro J hJ
  go_wp2_with fail
  refine (putBytes_c _ _ _ _ _ (H0b _ Q4.out) (by omega) _ _ _ _ (H3b _ Q4.out) (by omega)).mono ?_
  rintro e w5 ⟨A12, k12, c12, rfl, ho12, hb⟩
  have Q5 : Hid (Below w2.heap.size w2 w5) := Lib.hid (ext_trans Q4.out hb)
  have S10 := Lib.hid (R10.out.ext hb)
  have R11 := Lib.hid (ho11.rd.ext hb)
  clear hb ho11 R10
  go_wp2_with fail
  refine ⟨Q5.out, ?_⟩
  refine schedC_eff rfl ?_
  intro J hJ
  go_wp2_with fail
  refine (putText_c _ _ _ _ _ (H0b _ Q5.out) (by omega) _ (by show b3.length ≤ _; omega)).mono ?_
  rintro e w6 ⟨A13, k13, c13, rfl, ho13, hb⟩
  have Q6 : Hid (Below w2.heap.size w2 w6) := Lib.hid (ext_trans Q5.out hb)
  have T10 := Lib.hid (S10.out.ext hb)
  have S11 := Lib.hid (R11.out.ext hb)
  have S12 := Lib.hid (ho12.rd.ext hb)
  have S13 := Lib.hid ho13.rd
  clear hb ho12 S10 R11 ho13
  go_wp2_with fail
  refine ⟨Q6.out, ?_⟩
  iterate 4 (refine schedC_pure (v := ?_) rfl (by rfl) ?_ ?_; rotate_left; (focus (intro w hC; go_simp; try with_reducible rfl)); try go_simp)
  refine schedC_nil (hJ1 _ _ ?_)
  clear hJ0
  go_wp2_with fail
  have HA := Lib.hid (H0b _ Q6.out)
  have HW6 := Lib.hid (HW.out.ext Q6.out)
  have H36 := Lib.hid (H3b _ Q6.out)
  have Q := Lib.hid (ext_trans Q2.out Q6.out)
  clear H0b H3b HW Q3 Q4 Q5 Q2 Q6 H0 H3
  refine (known_c _).mono ?_
  rintro e w7 ⟨rfl, hb⟩
  have P7 := Lib.hid hb
  clear hb
  go_wp2_with fail
  refine (same_yes _ _ _ _ b0 (HA.out.ext P7.out) _ _ (HW6.out.ext P7.out)).mono ?_
  rintro e w8 ⟨rfl, hb⟩
  have P8 := Lib.hid (ext_trans P7.out hb)
  clear hb P7
  go_wp2_with (refine wpList_push_g (o := ⟨some 50, _, _, _, _, _⟩) (by rfl) (.tmp 48) (.tmp 49) 22 22 rfl 5 Try.underlying22 infoU8 w8.heap.size _ _ _ [] (by rfl) (Own.empty w8 _) _ m0 b0 (by rfl) ((HW6.out.ext (ext_trans P8.out (ext_alloc _ _))).src Try.underlying22) (by omega) (ext_alloc _ _).size ?_; intro Aa ca u1 hoa hba; go_simp)
  have O1 : Hid (Own u1 5 w8.heap.size Aa m0 ca b0) := by have := hoa; rw [Nat.zero_add] at this; exact this
  have G1 := Lib.hid ((ext_alloc w8 _).trans hba)
  clear hoa hba
  refine (refNum_c _ n HN).mono ?_
  rintro e u2 ⟨Ab, q, cb, rfl, hob, hbb⟩
  have hq : q ≤ 1000 := by have := hob.len; have := num_ten HN.out; (try simp only [List.length_append] at *); omega
  have O2 := Lib.hid (O1.out.ext hbb)
  have G2 := Lib.hid (ext_trans G1.out hbb)
  have R := Lib.hid hob.rd
  clear hob hbb O1 G1
  go_wp2_with (refine wpList_push_g (o := ⟨some 53, _, _, _, _, _⟩) (by rfl) (.tmp 50) (.tmp 52) 22 22 rfl 5 Try.underlying22 infoU8 w8.heap.size _ _ _ _ (by rfl) O2.out _ q _ (by rfl) (R.out.src Try.underlying22) (by omega) G2.out.size ?_; intro Ac cc u3 hoc hbc; go_simp)
  have G3 := Lib.hid (ext_trans P8.out (G2.out.trans hbc))
  have R3 := Lib.hid hoc.rd
  clear hoc hbc O2 G2 R
  obtain rfl : k10 = m0 + q := by have := T10.out.len; have := R3.out.len; simp only [List.length_append] at *; omega
  have R4 : Hid (Rd u3 Ac (m0 + q) cc (b0 ++ num n)) := by have := R3.out; (try simp only [← List.append_assoc] at this); exact this
  clear R3
  refine (same_yes _ _ _ _ _ (T10.out.ext G3.out) _ _ R4.out).mono ?_
  rintro e w9 ⟨rfl, hb⟩
  have P9 := Lib.hid (ext_trans G3.out hb)
  clear hb G3 R4 P8 hq
  go_wp2_with (refine wpList_push_g (o := ⟨some 60, _, _, _, _, _⟩) (by rfl) (.tmp 58) (.tmp 59) 22 22 rfl 5 Try.underlying22 infoU8 w9.heap.size _ _ _ [] (by rfl) (Own.empty w9 _) _ m0 b0 (by rfl) ((HW6.out.ext (ext_trans P9.out (ext_alloc _ _))).src Try.underlying22) (by omega) (ext_alloc _ _).size ?_; intro Aa ca u1 hoa hba; go_simp)
  have O1 : Hid (Own u1 5 w9.heap.size Aa m0 ca b0) := by have := hoa; rw [Nat.zero_add] at this; exact this
  have G1 := Lib.hid ((ext_alloc w9 _).trans hba)
  clear hoa hba
  refine (refFold_c _ i HI.out.1 HI.out.2).mono ?_
  rintro e u ⟨rfl, rfl⟩
  go_wp2_with fail
  refine (refNum_c _ _ (fold_lt HI.out.1 HI.out.2)).mono ?_
  rintro e u2 ⟨Ab, q, cb, rfl, hob, hbb⟩
  have hq : q ≤ 1000 := by have := hob.len; have := num_ten (fold_lt HI.out.1 HI.out.2); (try simp only [List.length_append] at *); omega
  have O2 := Lib.hid (O1.out.ext hbb)
  have G2 := Lib.hid (ext_trans G1.out hbb)
  have R := Lib.hid hob.rd
  clear hob hbb O1 G1
  go_wp2_with (refine wpList_push_g (o := ⟨some 64, _, _, _, _, _⟩) (by rfl) (.tmp 60) (.tmp 63) 22 22 rfl 5 Try.underlying22 infoU8 w9.heap.size _ _ _ _ (by rfl) O2.out _ q _ (by rfl) (R.out.src Try.underlying22) (by omega) G2.out.size ?_; intro Ac cc u3 hoc hbc; go_simp)
  have G3 := Lib.hid (ext_trans P9.out (G2.out.trans hbc))
  have R3 := Lib.hid hoc.rd
  clear hoc hbc O2 G2 R
  obtain rfl : k11 = m0 + q := by have := S11.out.len; have := R3.out.len; simp only [List.length_append] at *; omega
  have R4 : Hid (Rd u3 Ac (m0 + q) cc (b0 ++ num (fold i))) := by have := R3.out; (try simp only [← List.append_assoc] at this); exact this
  clear R3
  refine (same_yes _ _ _ _ _ (S11.out.ext G3.out) _ _ R4.out).mono ?_
  rintro e w10 ⟨rfl, hb⟩
  have P10 := Lib.hid (ext_trans G3.out hb)
  clear hb G3 R4 P9 hq
  go_wp2_with (refine wpList_push_g (o := ⟨some 71, _, _, _, _, _⟩) (by rfl) (.tmp 69) (.tmp 70) 22 22 rfl 5 Try.underlying22 infoU8 w10.heap.size _ _ _ [] (by rfl) (Own.empty w10 _) _ m0 b0 (by rfl) ((HW6.out.ext (ext_trans P10.out (ext_alloc _ _))).src Try.underlying22) (by omega) (ext_alloc _ _).size ?_; intro Aa ca u1 hoa hba; go_simp)
  have O1 : Hid (Own u1 5 w10.heap.size Aa m0 ca b0) := by have := hoa; rw [Nat.zero_add] at this; exact this
  have G1 := Lib.hid ((ext_alloc w10 _).trans hba)
  clear hoa hba
  refine (refBytes_c _ _ _ _ _ (H36.out.ext (ext_trans P10.out G1.out)) (by omega)).mono ?_
  rintro e u2 ⟨Ab, q, cb, rfl, hob, hbb⟩
  have hq : q ≤ 1000 := by have := hob.len; have := num_ten (m := b3.length) (by omega); (try simp only [List.length_append] at *); omega
  have O2 := Lib.hid (O1.out.ext hbb)
  have G2 := Lib.hid (ext_trans G1.out hbb)
  have R := Lib.hid hob.rd
  clear hob hbb O1 G1
  go_wp2_with (refine wpList_push_g (o := ⟨some 74, _, _, _, _, _⟩) (by rfl) (.tmp 71) (.tmp 73) 22 22 rfl 5 Try.underlying22 infoU8 w10.heap.size _ _ _ _ (by rfl) O2.out _ q _ (by rfl) (R.out.src Try.underlying22) (by omega) G2.out.size ?_; intro Ac cc u3 hoc hbc; go_simp)
  have G3 := Lib.hid (ext_trans P10.out (G2.out.trans hbc))
  have R3 := Lib.hid hoc.rd
  clear hoc hbc O2 G2 R
  obtain rfl : k12 = m0 + q := by have := S12.out.len; have := R3.out.len; simp only [List.length_append] at *; omega
  have R4 : Hid (Rd u3 Ac (m0 + q) cc (b0 ++ num b3.length ++ b3)) := by have := R3.out; (try simp only [← List.append_assoc] at this); exact this
  clear R3
  refine (same_yes _ _ _ _ _ (S12.out.ext G3.out) _ _ R4.out).mono ?_
  rintro e w11 ⟨rfl, hb⟩
  have P11 := Lib.hid (ext_trans G3.out hb)
  clear hb G3 R4 P10 hq
  go_wp2_with fail
  obtain rfl : k13 = m0 + q := by have h1 := S12.out.len; have h2 := S13.out.len; rw [← h1, ← h2]; rfl
  refine (same_yes _ _ _ _ _ (S13.out.ext P11.out) _ _ (S12.out.ext P11.out)).mono ?_
  rintro e w12 ⟨rfl, hb⟩
  go_wp2_with fail
  go_ret
  exact ⟨rfl, ext_trans Q.out (ext_trans P11.out hb)⟩

theorem walkOctetPuts (w : World) (A0 : Option Addr) (n0 c0 : Nat) (b0 : List UInt8) (n : Nat) (i : Int) (A3 : Option Addr) (n3 c3 : Nat) (b3 : List UInt8) (h0 : Rd w A0 n0 c0 b0) (hn : n < 18446744073709551616)
    (hi1 : -9223372036854775808 ≤ i) (hi2 : i < 9223372036854775808) (h3 : Rd w A3 n3 c3 b3) :
    Calls Try.prog 3 #[.slice A0 n0 c0, .int .u64 n, .int .i64 i, .slice A3 n3 c3] w (Holds w) := by
  obtain ⟨m0, hm0, hmn0, hc0⟩ := min_case n0 200
  obtain ⟨m3, hm3, hmn3, hc3⟩ := min_case n3 200
  exact puts_walk w A0 n0 c0 _ n i A3 n3 c3 _ m0 m3 (h0.front hmn0) hm0 h0.le h0.max hc0 hn ⟨hi1, hi2⟩ (h3.front hmn3) hm3 h3.le h3.max hc3
#print axioms walkOctetPuts
end Go.Proofs.Ytcikknhjhokmdaa
