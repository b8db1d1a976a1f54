/-
  OnceTells: the walk.
-/
import Derived.Test.YtbhibfdlkahagaaORVer
import Derived.Test.YtbhibfdlkahagaaHOpen
namespace Go.Proofs.Ytbhibfdlkahagaa
open Go.RowKit

theorem schedC_skip2 {P : Program} {ops : Array Oper} {C : World → Prop} {K : Act → World → Prop} {i : Nat} {s : List (Bool × Nat)} {o : Oper} {a : Act} {w : World} (hi : ops[i]? = some o) (hw : Region.wanted o (yielded ops a.tmps) = false)
    (h : wpSchedC P ops C K s (a.put o.dst undef) w) : wpSchedC P ops C K ((true, i) :: s) a w := ⟨o, undef, hi, .inr ⟨hw, rfl⟩, h⟩

set_option maxRecDepth 100000 in
set_option maxHeartbeats 4000000 in
theorem tells_long (w : World) (y m : Nat) (hy : y < 18446744073709551616) (A : Option Addr) (n c : Nat) (bs : List UInt8) (h : Rd w A n c bs) (K : Int) (hn : 200 < n) :
    Calls Try.prog 6 #[digV y, digV m, .slice A n c, .int .i64 K] w (Holds w) := by
  have hle := h.le
  have hmax := h.max
  have i1 : (200 : Int) < (n : Int) := by omega
  have i2 : (200 : Int) ≤ (c : Int) := by omega
  obtain ⟨sg, hsg⟩ : ∃ l, l = bs.take 200 := ⟨_, rfl⟩
  have RD : Hid (Rd w A 200 c sg) := by rw [hsg]; exact h.front (by omega)
  have HL := RD.out.len
  obtain ⟨tk, tb, hT⟩ : ∃ a b, toldR m sg = (a, b) := ⟨_, _, rfl⟩
  obtain rfl : tb = false := by have h := hT; unfold toldR at h; rw [if_neg (by omega)] at h; injection h with h1 h2; exact h2.symm
  have TT := Lib.hid hT
  have hS : shownR sg K = (0, false) := by unfold shownR; rw [if_neg (by omega)]
  obtain ⟨xk, hxk⟩ : ∃ x : Nat, x = 0 := ⟨_, rfl⟩
  have X0 : Hid (xk = 0) := hxk
  rw [← hxk] at hS
  have SS := Lib.hid hS
  clear hxk hS hT
  have Lt : tk < 18446744073709551616 := by have := toldR_lt m sg; rw [TT.out] at this; exact this
  have Lx : xk < 18446744073709551616 := by have := shownR_lt sg K; rw [SS.out] at this; exact this
  have V2 : Hid (verR tk m sg = false) := by show _ = _; unfold verR; rw [TT.out]; simp
  obtain ⟨q, hq⟩ : ∃ q, q = verR y m sg := ⟨_, rfl⟩
  have V1 : Hid (verR y m sg = q) := hq.symm
  have QQ : (q == q) = true := by simp
  have E1 := eql_d Lt Lt
  rw [decide_eq_true rfl] at E1
  have G1 := guard_d .eql tk tk
  have NX := neq_d Lx (show 0 < 18446744073709551616 by omega)
  rw [decide_eq_true X0.out] at NX
  have GX := guard_d .neq xk 0
  rw [digV0] at NX GX
  clear hq
  unfold digV at E1 G1 NX GX
  unfold digV
  go_enter Try.func6, Try.ntmps6
  go_upto_region 2 with fail
  generalize hW : World.alloc (World.alloc w (.cells #[.int .u8 (byt y 0), .int .u8 (byt y 1), .int .u8 (byt y 2), .int .u8 (byt y 3), .int .u8 (byt y 4), .int .u8 (byt y 5), .int .u8 (byt y 6), .int .u8 (byt y 7)] 30)) (.cells #[.int .u8 (byt m 0), .int .u8 (byt m 1), .int .u8 (byt m 2), .int .u8 (byt m 3), .int .u8 (byt m 4), .int .u8 (byt m 5), .int .u8 (byt m 6), .int .u8 (byt m 7)] 30) = W
  have DY : Hid (W.heap[w.heap.size]? = some (.cells #[.int .u8 (byt y 0), .int .u8 (byt y 1), .int .u8 (byt y 2), .int .u8 (byt y 3), .int .u8 (byt y 4), .int .u8 (byt y 5), .int .u8 (byt y 6), .int .u8 (byt y 7)] 30 (0, 0))) := by rw [← hW]; exact keepA (Go.heap_alloc_new w _)
  have DM : Hid (W.heap[w.heap.size + 1]? = some (.cells #[.int .u8 (byt m 0), .int .u8 (byt m 1), .int .u8 (byt m 2), .int .u8 (byt m 3), .int .u8 (byt m 4), .int .u8 (byt m 5), .int .u8 (byt m 6), .int .u8 (byt m 7)] 30 (0, 0))) := by rw [← hW]; exact heap_alloc_newest (w := World.alloc _ _) (by simp)
  have B : Hid (Below w.heap.size w W) := by rw [← hW]; exact ext_trans (ext_alloc _ _) (ext_alloc _ _)
  clear hW
  replace RD := Lib.hid (RD.out.ext B.out)
  obtain ⟨m0, m1, m2, m3, m4, m5, m6, m7, _, _, _, _, _, _, _, _⟩ := full8 DM.out; 
  go_wp2_with fail
  rw [← show digV m = .agg #[.int .u8 (byt m 0), .int .u8 (byt m 1), .int .u8 (byt m 2), .int .u8 (byt m 3), .int .u8 (byt m 4), .int .u8 (byt m 5), .int .u8 (byt m 6), .int .u8 (byt m 7)] from rfl]
  refine (told_c _ m A 200 c sg RD).mono ?_
  unfold Tolds
  rw [TT.out]
  unfold digV
  rintro e w1 ⟨rfl, hb⟩
  replace hb := ext_trans hb (ext_alloc w1 (.cells #[.int .u8 (byt tk 0), .int .u8 (byt tk 1), .int .u8 (byt tk 2), .int .u8 (byt tk 3), .int .u8 (byt tk 4), .int .u8 (byt tk 5), .int .u8 (byt tk 6), .int .u8 (byt tk 7)] 31))
  have DK : Hid ((World.alloc w1 (.cells #[.int .u8 (byt tk 0), .int .u8 (byt tk 1), .int .u8 (byt tk 2), .int .u8 (byt tk 3), .int .u8 (byt tk 4), .int .u8 (byt tk 5), .int .u8 (byt tk 6), .int .u8 (byt tk 7)] 31)).heap[w1.heap.size]? = some (.cells #[.int .u8 (byt tk 0), .int .u8 (byt tk 1), .int .u8 (byt tk 2), .int .u8 (byt tk 3), .int .u8 (byt tk 4), .int .u8 (byt tk 5), .int .u8 (byt tk 6), .int .u8 (byt tk 7)] 31 (0, 0))) := Go.heap_alloc_new w1 _
  replace DY := Lib.hid (keepB hb DY.out)
  replace DM := Lib.hid (keepB hb DM.out)
  replace RD := Lib.hid (RD.out.ext hb)
  replace B := Lib.hid (ext_trans B.out hb)
  clear hb m0 m1 m2 m3 m4 m5 m6 m7
  go_upto_region 3 with fail
  generalize World.alloc w1 (.cells #[.int .u8 (byt tk 0), .int .u8 (byt tk 1), .int .u8 (byt tk 2), .int .u8 (byt tk 3), .int .u8 (byt tk 4), .int .u8 (byt tk 5), .int .u8 (byt tk 6), .int .u8 (byt tk 7)] 31) = U1 at *
  obtain ⟨m0, m1, m2, m3, m4, m5, m6, m7, _, _, _, _, _, _, _, _⟩ := full8 DM.out; 
  go_wp2_with fail
  rw [← show digV m = .agg #[.int .u8 (byt m 0), .int .u8 (byt m 1), .int .u8 (byt m 2), .int .u8 (byt m 3), .int .u8 (byt m 4), .int .u8 (byt m 5), .int .u8 (byt m 6), .int .u8 (byt m 7)] from rfl]
  refine (rtold_c _ m A 200 c sg RD).mono ?_
  unfold Tolds
  rw [TT.out]
  unfold digV
  rintro e w2 ⟨rfl, hb⟩
  replace hb := ext_trans hb (ext_alloc w2 (.cells #[.int .u8 (byt tk 0), .int .u8 (byt tk 1), .int .u8 (byt tk 2), .int .u8 (byt tk 3), .int .u8 (byt tk 4), .int .u8 (byt tk 5), .int .u8 (byt tk 6), .int .u8 (byt tk 7)] 30))
  have DW : Hid ((World.alloc w2 (.cells #[.int .u8 (byt tk 0), .int .u8 (byt tk 1), .int .u8 (byt tk 2), .int .u8 (byt tk 3), .int .u8 (byt tk 4), .int .u8 (byt tk 5), .int .u8 (byt tk 6), .int .u8 (byt tk 7)] 30)).heap[w2.heap.size]? = some (.cells #[.int .u8 (byt tk 0), .int .u8 (byt tk 1), .int .u8 (byt tk 2), .int .u8 (byt tk 3), .int .u8 (byt tk 4), .int .u8 (byt tk 5), .int .u8 (byt tk 6), .int .u8 (byt tk 7)] 30 (0, 0))) := Go.heap_alloc_new w2 _
  replace DY := Lib.hid (keepB hb DY.out)
  replace DM := Lib.hid (keepB hb DM.out)
  replace DK := Lib.hid (keepB hb DK.out)
  replace RD := Lib.hid (RD.out.ext hb)
  replace B := Lib.hid (ext_trans B.out hb)
  clear hb m0 m1 m2 m3 m4 m5 m6 m7
  go_upto_region 4 with fail
  generalize World.alloc w2 (.cells #[.int .u8 (byt tk 0), .int .u8 (byt tk 1), .int .u8 (byt tk 2), .int .u8 (byt tk 3), .int .u8 (byt tk 4), .int .u8 (byt tk 5), .int .u8 (byt tk 6), .int .u8 (byt tk 7)] 30) = U2 at *
  go_wp2_with fail
  refine (shown_c _ A 200 c sg RD K).mono ?_
  unfold Shows
  rw [SS.out]
  unfold digV
  rintro e w3 ⟨rfl, hb⟩
  replace hb := ext_trans hb (ext_alloc w3 (.cells #[.int .u8 (byt xk 0), .int .u8 (byt xk 1), .int .u8 (byt xk 2), .int .u8 (byt xk 3), .int .u8 (byt xk 4), .int .u8 (byt xk 5), .int .u8 (byt xk 6), .int .u8 (byt xk 7)] 31))
  have DX : Hid ((World.alloc w3 (.cells #[.int .u8 (byt xk 0), .int .u8 (byt xk 1), .int .u8 (byt xk 2), .int .u8 (byt xk 3), .int .u8 (byt xk 4), .int .u8 (byt xk 5), .int .u8 (byt xk 6), .int .u8 (byt xk 7)] 31)).heap[w3.heap.size]? = some (.cells #[.int .u8 (byt xk 0), .int .u8 (byt xk 1), .int .u8 (byt xk 2), .int .u8 (byt xk 3), .int .u8 (byt xk 4), .int .u8 (byt xk 5), .int .u8 (byt xk 6), .int .u8 (byt xk 7)] 31 (0, 0))) := Go.heap_alloc_new w3 _
  replace DY := Lib.hid (keepB hb DY.out)
  replace DM := Lib.hid (keepB hb DM.out)
  replace DK := Lib.hid (keepB hb DK.out)
  replace DW := Lib.hid (keepB hb DW.out)
  replace RD := Lib.hid (RD.out.ext hb)
  replace B := Lib.hid (ext_trans B.out hb)
  clear hb
  go_upto_region 5 with fail
  generalize World.alloc w3 (.cells #[.int .u8 (byt xk 0), .int .u8 (byt xk 1), .int .u8 (byt xk 2), .int .u8 (byt xk 3), .int .u8 (byt xk 4), .int .u8 (byt xk 5), .int .u8 (byt xk 6), .int .u8 (byt xk 7)] 31) = V at *
  go_wp2_with fail
  try rw [show decide (K < 18) = false from decide_eq_false (by omega)]
  refine wp_region_schedC (fun v => Below V.heap.size V v) [(true, 0), (true, 1), (true, 2), (true, 3), (true, 4), (true, 5), (true, 6), (true, 7), (true, 8), (false, 9), (true, 10), (true, 11), (true, 12), (true, 13), (true, 14), (true, 15), (true, 16), (true, 17), (true, 18), (true, 19), (true, 20), (true, 21)] (by kernel_rfl) rfl (by kernel_rfl) (by kernel_rfl) (fun _ _ d _ _ h => by cases d <;> exact h) (ext_drew V) ?_
  intro J0 hJ0
  have CC : Hid (Below V.heap.size V V.drew) := Lib.hid (ext_drew V)
  iterate 9 ((first | refine schedC_skip2 rfl (by rfl) ?_ | (refine schedC_pure (v := ?_) rfl (by rfl) ?_ ?_; rotate_left; (focus (intro v hC; obtain ⟨x0, x1, x2, x3, x4, x5, x6, x7, _, _, _, _, _, _, _, _⟩ := full8 (keepB hC DX.out); go_simp; try with_reducible rfl)))); try go_simp)
  refine schedC_eff rfl ?_
  intro J hJ
  go_wp2_with fail
  refine ⟨CC.out, ?_⟩
  iterate 12 ((first | refine schedC_skip2 rfl (by rfl) ?_ | (refine schedC_pure (v := ?_) rfl (by rfl) ?_ ?_; rotate_left; (focus (intro v hC; obtain ⟨x0, x1, x2, x3, x4, x5, x6, x7, _, _, _, _, _, _, _, _⟩ := full8 (keepB hC DX.out); go_simp; try with_reducible rfl)))); try go_simp)
  refine schedC_nil (hJ0 _ _ ?_)
  clear hJ0
  replace DY := Lib.hid (keepB CC.out DY.out)
  replace DM := Lib.hid (keepB CC.out DM.out)
  replace DK := Lib.hid (keepB CC.out DK.out)
  replace DW := Lib.hid (keepB CC.out DW.out)
  replace RD := Lib.hid (RD.out.ext CC.out)
  replace B := Lib.hid (ext_trans B.out CC.out)
  clear CC
  generalize V.drew = w4 at *
  go_wp2_with fail
  refine wp_region_schedC (fun v => Below w4.heap.size w4 v) [(false, 0), (true, 1), (true, 2), (true, 3), (true, 4), (true, 5), (true, 6), (true, 7), (true, 8), (true, 9), (true, 10), (true, 11), (true, 12), (true, 13), (true, 14), (true, 16), (true, 17), (true, 18), (false, 15), (false, 19), (true, 20), (true, 21), (true, 22), (true, 23), (true, 24), (true, 25), (true, 27), (false, 26), (true, 28), (true, 29), (true, 30)] (by kernel_rfl) rfl (by kernel_rfl) (by kernel_rfl) (fun _ _ d _ _ h => by cases d <;> exact h) (ext_drew w4) ?_
  intro J0 hJ0
  refine schedC_eff rfl ?_
  intro J hJ
  go_wp2_with fail
  refine (known_c _).mono ?_
  try unfold digV
  rintro e w5 ⟨rfl, hb⟩
  have CC : Hid (Below w4.heap.size w4 w5) := Lib.hid (ext_trans (ext_drew w4) hb)
  clear hb
  go_wp2_with fail
  refine ⟨CC.out, ?_⟩
  iterate 17 (refine schedC_pure (v := ?_) rfl (by rfl) ?_ ?_; rotate_left; (focus (intro v hC; obtain ⟨y0, y1, y2, y3, y4, y5, y6, y7, _, _, _, _, _, _, _, _⟩ := full8 (keepB hC DY.out); obtain ⟨m0, m1, m2, m3, m4, m5, m6, m7, _, _, _, _, _, _, _, _⟩ := full8 (keepB hC DM.out); obtain ⟨k0, k1, k2, k3, k4, k5, k6, k7, _, _, _, _, _, _, _, _⟩ := full8 (keepB hC DK.out); obtain ⟨z0, z1, z2, z3, z4, z5, z6, z7, _, _, _, _, _, _, _, _⟩ := full8 (keepB hC DW.out); go_simp; try with_reducible rfl)); try go_simp)
  refine schedC_eff rfl ?_
  intro J hJ
  go_wp2_with fail
  refine (verify_c _ y m hy A 200 c sg (Lib.hid (RD.out.ext CC.out))).mono ?_
  rw [V1.out]
  try unfold digV
  rintro e w6 ⟨rfl, hb⟩
  replace CC : Hid (Below w4.heap.size w4 w6) := Lib.hid (ext_trans CC.out hb)
  clear hb
  go_wp2_with fail
  refine ⟨CC.out, ?_⟩
  refine schedC_eff rfl ?_
  intro J hJ
  go_wp2_with fail
  refine (rverify_c _ y m hy A 200 c sg (Lib.hid (RD.out.ext CC.out))).mono ?_
  rw [V1.out]
  try unfold digV
  rintro e w7 ⟨rfl, hb⟩
  replace CC : Hid (Below w4.heap.size w4 w7) := Lib.hid (ext_trans CC.out hb)
  clear hb
  go_wp2_with fail
  refine ⟨CC.out, ?_⟩
  iterate 7 (refine schedC_pure (v := ?_) rfl (by rfl) ?_ ?_; rotate_left; (focus (intro v hC; obtain ⟨y0, y1, y2, y3, y4, y5, y6, y7, _, _, _, _, _, _, _, _⟩ := full8 (keepB hC DY.out); obtain ⟨m0, m1, m2, m3, m4, m5, m6, m7, _, _, _, _, _, _, _, _⟩ := full8 (keepB hC DM.out); obtain ⟨k0, k1, k2, k3, k4, k5, k6, k7, _, _, _, _, _, _, _, _⟩ := full8 (keepB hC DK.out); obtain ⟨z0, z1, z2, z3, z4, z5, z6, z7, _, _, _, _, _, _, _, _⟩ := full8 (keepB hC DW.out); go_simp; try with_reducible rfl)); try go_simp)
  refine schedC_eff rfl ?_
  intro J hJ
  go_wp2_with fail
  refine (verify_c _ tk m Lt A 200 c sg (Lib.hid (RD.out.ext CC.out))).mono ?_
  rw [V2.out]
  try unfold digV
  rintro e w8 ⟨rfl, hb⟩
  replace CC : Hid (Below w4.heap.size w4 w8) := Lib.hid (ext_trans CC.out hb)
  clear hb
  go_wp2_with fail
  refine ⟨CC.out, ?_⟩
  iterate 3 (refine schedC_pure (v := ?_) rfl (by rfl) ?_ ?_; rotate_left; (focus (intro v hC; obtain ⟨y0, y1, y2, y3, y4, y5, y6, y7, _, _, _, _, _, _, _, _⟩ := full8 (keepB hC DY.out); obtain ⟨m0, m1, m2, m3, m4, m5, m6, m7, _, _, _, _, _, _, _, _⟩ := full8 (keepB hC DM.out); obtain ⟨k0, k1, k2, k3, k4, k5, k6, k7, _, _, _, _, _, _, _, _⟩ := full8 (keepB hC DK.out); obtain ⟨z0, z1, z2, z3, z4, z5, z6, z7, _, _, _, _, _, _, _, _⟩ := full8 (keepB hC DW.out); go_simp; try with_reducible rfl)); try go_simp)
  refine schedC_nil (hJ0 _ _ ?_)
  clear hJ0
  go_wp2_with fail
  go_ret
  exact ⟨rfl, ext_trans B.out CC.out⟩

set_option maxRecDepth 100000 in
set_option maxHeartbeats 4000000 in
theorem tells_other (w : World) (y m : Nat) (hy : y < 18446744073709551616) (A : Option Addr) (n c : Nat) (bs : List UInt8) (h : Rd w A n c bs) (K : Int) (hn : n ≤ 200) (hm : n ≠ 144) :
    Calls Try.prog 6 #[digV y, digV m, .slice A n c, .int .i64 K] w (Holds w) := by
  have hle := h.le
  have hmax := h.max
  have i1 : ¬ (200 : Int) < (n : Int) := by omega
  have i2 : (n : Int) ≤ (c : Int) := by omega
  have gI : ((n : Int) == 144) = false := by rw [beq_eq_false_iff_ne]; omega
  have gJ : ¬ (n : Int) = 144 := by omega
  obtain ⟨sg, hsg⟩ : ∃ l, l = bs := ⟨_, rfl⟩
  have RD : Hid (Rd w A n c sg) := by rw [hsg]; exact h
  have HL := RD.out.len
  obtain ⟨tk, tb, hT⟩ : ∃ a b, toldR m sg = (a, b) := ⟨_, _, rfl⟩
  obtain rfl : tb = false := by have h := hT; unfold toldR at h; rw [if_neg (by omega)] at h; injection h with h1 h2; exact h2.symm
  have TT := Lib.hid hT
  have hS : shownR sg K = (0, false) := by unfold shownR; rw [if_neg (by omega)]
  obtain ⟨xk, hxk⟩ : ∃ x : Nat, x = 0 := ⟨_, rfl⟩
  have X0 : Hid (xk = 0) := hxk
  rw [← hxk] at hS
  have SS := Lib.hid hS
  clear hxk hS hT
  have Lt : tk < 18446744073709551616 := by have := toldR_lt m sg; rw [TT.out] at this; exact this
  have Lx : xk < 18446744073709551616 := by have := shownR_lt sg K; rw [SS.out] at this; exact this
  have V2 : Hid (verR tk m sg = false) := by show _ = _; unfold verR; rw [TT.out]; simp
  obtain ⟨q, hq⟩ : ∃ q, q = verR y m sg := ⟨_, rfl⟩
  have V1 : Hid (verR y m sg = q) := hq.symm
  have QQ : (q == q) = true := by simp
  have E1 := eql_d Lt Lt
  rw [decide_eq_true rfl] at E1
  have G1 := guard_d .eql tk tk
  have NX := neq_d Lx (show 0 < 18446744073709551616 by omega)
  rw [decide_eq_true X0.out] at NX
  have GX := guard_d .neq xk 0
  rw [digV0] at NX GX
  clear hq
  unfold digV at E1 G1 NX GX
  unfold digV
  go_enter Try.func6, Try.ntmps6
  go_upto_region 2 with fail
  generalize hW : World.alloc (World.alloc w (.cells #[.int .u8 (byt y 0), .int .u8 (byt y 1), .int .u8 (byt y 2), .int .u8 (byt y 3), .int .u8 (byt y 4), .int .u8 (byt y 5), .int .u8 (byt y 6), .int .u8 (byt y 7)] 30)) (.cells #[.int .u8 (byt m 0), .int .u8 (byt m 1), .int .u8 (byt m 2), .int .u8 (byt m 3), .int .u8 (byt m 4), .int .u8 (byt m 5), .int .u8 (byt m 6), .int .u8 (byt m 7)] 30) = W
  have DY : Hid (W.heap[w.heap.size]? = some (.cells #[.int .u8 (byt y 0), .int .u8 (byt y 1), .int .u8 (byt y 2), .int .u8 (byt y 3), .int .u8 (byt y 4), .int .u8 (byt y 5), .int .u8 (byt y 6), .int .u8 (byt y 7)] 30 (0, 0))) := by rw [← hW]; exact keepA (Go.heap_alloc_new w _)
  have DM : Hid (W.heap[w.heap.size + 1]? = some (.cells #[.int .u8 (byt m 0), .int .u8 (byt m 1), .int .u8 (byt m 2), .int .u8 (byt m 3), .int .u8 (byt m 4), .int .u8 (byt m 5), .int .u8 (byt m 6), .int .u8 (byt m 7)] 30 (0, 0))) := by rw [← hW]; exact heap_alloc_newest (w := World.alloc _ _) (by simp)
  have B : Hid (Below w.heap.size w W) := by rw [← hW]; exact ext_trans (ext_alloc _ _) (ext_alloc _ _)
  clear hW
  replace RD := Lib.hid (RD.out.ext B.out)
  obtain ⟨m0, m1, m2, m3, m4, m5, m6, m7, _, _, _, _, _, _, _, _⟩ := full8 DM.out; 
  go_wp2_with fail
  rw [← show digV m = .agg #[.int .u8 (byt m 0), .int .u8 (byt m 1), .int .u8 (byt m 2), .int .u8 (byt m 3), .int .u8 (byt m 4), .int .u8 (byt m 5), .int .u8 (byt m 6), .int .u8 (byt m 7)] from rfl]
  refine (told_c _ m A n c sg RD).mono ?_
  unfold Tolds
  rw [TT.out]
  unfold digV
  rintro e w1 ⟨rfl, hb⟩
  replace hb := ext_trans hb (ext_alloc w1 (.cells #[.int .u8 (byt tk 0), .int .u8 (byt tk 1), .int .u8 (byt tk 2), .int .u8 (byt tk 3), .int .u8 (byt tk 4), .int .u8 (byt tk 5), .int .u8 (byt tk 6), .int .u8 (byt tk 7)] 31))
  have DK : Hid ((World.alloc w1 (.cells #[.int .u8 (byt tk 0), .int .u8 (byt tk 1), .int .u8 (byt tk 2), .int .u8 (byt tk 3), .int .u8 (byt tk 4), .int .u8 (byt tk 5), .int .u8 (byt tk 6), .int .u8 (byt tk 7)] 31)).heap[w1.heap.size]? = some (.cells #[.int .u8 (byt tk 0), .int .u8 (byt tk 1), .int .u8 (byt tk 2), .int .u8 (byt tk 3), .int .u8 (byt tk 4), .int .u8 (byt tk 5), .int .u8 (byt tk 6), .int .u8 (byt tk 7)] 31 (0, 0))) := Go.heap_alloc_new w1 _
  replace DY := Lib.hid (keepB hb DY.out)
  replace DM := Lib.hid (keepB hb DM.out)
  replace RD := Lib.hid (RD.out.ext hb)
  replace B := Lib.hid (ext_trans B.out hb)
  clear hb m0 m1 m2 m3 m4 m5 m6 m7
  go_upto_region 3 with fail
  generalize World.alloc w1 (.cells #[.int .u8 (byt tk 0), .int .u8 (byt tk 1), .int .u8 (byt tk 2), .int .u8 (byt tk 3), .int .u8 (byt tk 4), .int .u8 (byt tk 5), .int .u8 (byt tk 6), .int .u8 (byt tk 7)] 31) = U1 at *
  obtain ⟨m0, m1, m2, m3, m4, m5, m6, m7, _, _, _, _, _, _, _, _⟩ := full8 DM.out; 
  go_wp2_with fail
  rw [← show digV m = .agg #[.int .u8 (byt m 0), .int .u8 (byt m 1), .int .u8 (byt m 2), .int .u8 (byt m 3), .int .u8 (byt m 4), .int .u8 (byt m 5), .int .u8 (byt m 6), .int .u8 (byt m 7)] from rfl]
  refine (rtold_c _ m A n c sg RD).mono ?_
  unfold Tolds
  rw [TT.out]
  unfold digV
  rintro e w2 ⟨rfl, hb⟩
  replace hb := ext_trans hb (ext_alloc w2 (.cells #[.int .u8 (byt tk 0), .int .u8 (byt tk 1), .int .u8 (byt tk 2), .int .u8 (byt tk 3), .int .u8 (byt tk 4), .int .u8 (byt tk 5), .int .u8 (byt tk 6), .int .u8 (byt tk 7)] 30))
  have DW : Hid ((World.alloc w2 (.cells #[.int .u8 (byt tk 0), .int .u8 (byt tk 1), .int .u8 (byt tk 2), .int .u8 (byt tk 3), .int .u8 (byt tk 4), .int .u8 (byt tk 5), .int .u8 (byt tk 6), .int .u8 (byt tk 7)] 30)).heap[w2.heap.size]? = some (.cells #[.int .u8 (byt tk 0), .int .u8 (byt tk 1), .int .u8 (byt tk 2), .int .u8 (byt tk 3), .int .u8 (byt tk 4), .int .u8 (byt tk 5), .int .u8 (byt tk 6), .int .u8 (byt tk 7)] 30 (0, 0))) := Go.heap_alloc_new w2 _
  replace DY := Lib.hid (keepB hb DY.out)
  replace DM := Lib.hid (keepB hb DM.out)
  replace DK := Lib.hid (keepB hb DK.out)
  replace RD := Lib.hid (RD.out.ext hb)
  replace B := Lib.hid (ext_trans B.out hb)
  clear hb m0 m1 m2 m3 m4 m5 m6 m7
  go_upto_region 4 with fail
  generalize World.alloc w2 (.cells #[.int .u8 (byt tk 0), .int .u8 (byt tk 1), .int .u8 (byt tk 2), .int .u8 (byt tk 3), .int .u8 (byt tk 4), .int .u8 (byt tk 5), .int .u8 (byt tk 6), .int .u8 (byt tk 7)] 30) = U2 at *
  go_wp2_with fail
  refine (shown_c _ A n c sg RD K).mono ?_
  unfold Shows
  rw [SS.out]
  unfold digV
  rintro e w3 ⟨rfl, hb⟩
  replace hb := ext_trans hb (ext_alloc w3 (.cells #[.int .u8 (byt xk 0), .int .u8 (byt xk 1), .int .u8 (byt xk 2), .int .u8 (byt xk 3), .int .u8 (byt xk 4), .int .u8 (byt xk 5), .int .u8 (byt xk 6), .int .u8 (byt xk 7)] 31))
  have DX : Hid ((World.alloc w3 (.cells #[.int .u8 (byt xk 0), .int .u8 (byt xk 1), .int .u8 (byt xk 2), .int .u8 (byt xk 3), .int .u8 (byt xk 4), .int .u8 (byt xk 5), .int .u8 (byt xk 6), .int .u8 (byt xk 7)] 31)).heap[w3.heap.size]? = some (.cells #[.int .u8 (byt xk 0), .int .u8 (byt xk 1), .int .u8 (byt xk 2), .int .u8 (byt xk 3), .int .u8 (byt xk 4), .int .u8 (byt xk 5), .int .u8 (byt xk 6), .int .u8 (byt xk 7)] 31 (0, 0))) := Go.heap_alloc_new w3 _
  replace DY := Lib.hid (keepB hb DY.out)
  replace DM := Lib.hid (keepB hb DM.out)
  replace DK := Lib.hid (keepB hb DK.out)
  replace DW := Lib.hid (keepB hb DW.out)
  replace RD := Lib.hid (RD.out.ext hb)
  replace B := Lib.hid (ext_trans B.out hb)
  clear hb
  go_upto_region 5 with fail
  generalize World.alloc w3 (.cells #[.int .u8 (byt xk 0), .int .u8 (byt xk 1), .int .u8 (byt xk 2), .int .u8 (byt xk 3), .int .u8 (byt xk 4), .int .u8 (byt xk 5), .int .u8 (byt xk 6), .int .u8 (byt xk 7)] 31) = V at *
  go_wp2_with fail
  try rw [show decide (K < 18) = false from decide_eq_false (by omega)]
  refine wp_region_schedC (fun v => Below V.heap.size V v) [(true, 0), (true, 1), (true, 2), (true, 3), (true, 4), (true, 5), (true, 6), (true, 7), (true, 8), (false, 9), (true, 10), (true, 11), (true, 12), (true, 13), (true, 14), (true, 15), (true, 16), (true, 17), (true, 18), (true, 19), (true, 20), (true, 21)] (by kernel_rfl) rfl (by kernel_rfl) (by kernel_rfl) (fun _ _ d _ _ h => by cases d <;> exact h) (ext_drew V) ?_
  intro J0 hJ0
  have CC : Hid (Below V.heap.size V V.drew) := Lib.hid (ext_drew V)
  iterate 9 ((first | refine schedC_skip2 rfl (by rfl) ?_ | (refine schedC_pure (v := ?_) rfl (by rfl) ?_ ?_; rotate_left; (focus (intro v hC; obtain ⟨x0, x1, x2, x3, x4, x5, x6, x7, _, _, _, _, _, _, _, _⟩ := full8 (keepB hC DX.out); go_simp; try with_reducible rfl)))); try go_simp)
  refine schedC_eff rfl ?_
  intro J hJ
  go_wp2_with fail
  refine ⟨CC.out, ?_⟩
  iterate 12 ((first | refine schedC_skip2 rfl (by rfl) ?_ | (refine schedC_pure (v := ?_) rfl (by rfl) ?_ ?_; rotate_left; (focus (intro v hC; obtain ⟨x0, x1, x2, x3, x4, x5, x6, x7, _, _, _, _, _, _, _, _⟩ := full8 (keepB hC DX.out); go_simp; try with_reducible rfl)))); try go_simp)
  refine schedC_nil (hJ0 _ _ ?_)
  clear hJ0
  replace DY := Lib.hid (keepB CC.out DY.out)
  replace DM := Lib.hid (keepB CC.out DM.out)
  replace DK := Lib.hid (keepB CC.out DK.out)
  replace DW := Lib.hid (keepB CC.out DW.out)
  replace RD := Lib.hid (RD.out.ext CC.out)
  replace B := Lib.hid (ext_trans B.out CC.out)
  clear CC
  generalize V.drew = w4 at *
  go_wp2_with fail
  refine wp_region_schedC (fun v => Below w4.heap.size w4 v) [(false, 0), (true, 1), (true, 2), (true, 3), (true, 4), (true, 5), (true, 6), (true, 7), (true, 8), (true, 9), (true, 10), (true, 11), (true, 12), (true, 13), (true, 14), (true, 16), (true, 17), (true, 18), (false, 15), (false, 19), (true, 20), (true, 21), (true, 22), (true, 23), (true, 24), (true, 25), (true, 27), (false, 26), (true, 28), (true, 29), (true, 30)] (by kernel_rfl) rfl (by kernel_rfl) (by kernel_rfl) (fun _ _ d _ _ h => by cases d <;> exact h) (ext_drew w4) ?_
  intro J0 hJ0
  refine schedC_eff rfl ?_
  intro J hJ
  go_wp2_with fail
  refine (known_c _).mono ?_
  try unfold digV
  rintro e w5 ⟨rfl, hb⟩
  have CC : Hid (Below w4.heap.size w4 w5) := Lib.hid (ext_trans (ext_drew w4) hb)
  clear hb
  go_wp2_with fail
  refine ⟨CC.out, ?_⟩
  iterate 17 (refine schedC_pure (v := ?_) rfl (by rfl) ?_ ?_; rotate_left; (focus (intro v hC; obtain ⟨y0, y1, y2, y3, y4, y5, y6, y7, _, _, _, _, _, _, _, _⟩ := full8 (keepB hC DY.out); obtain ⟨m0, m1, m2, m3, m4, m5, m6, m7, _, _, _, _, _, _, _, _⟩ := full8 (keepB hC DM.out); obtain ⟨k0, k1, k2, k3, k4, k5, k6, k7, _, _, _, _, _, _, _, _⟩ := full8 (keepB hC DK.out); obtain ⟨z0, z1, z2, z3, z4, z5, z6, z7, _, _, _, _, _, _, _, _⟩ := full8 (keepB hC DW.out); go_simp; try with_reducible rfl)); try go_simp)
  refine schedC_eff rfl ?_
  intro J hJ
  go_wp2_with fail
  refine (verify_c _ y m hy A n c sg (Lib.hid (RD.out.ext CC.out))).mono ?_
  rw [V1.out]
  try unfold digV
  rintro e w6 ⟨rfl, hb⟩
  replace CC : Hid (Below w4.heap.size w4 w6) := Lib.hid (ext_trans CC.out hb)
  clear hb
  go_wp2_with fail
  refine ⟨CC.out, ?_⟩
  refine schedC_eff rfl ?_
  intro J hJ
  go_wp2_with fail
  refine (rverify_c _ y m hy A n c sg (Lib.hid (RD.out.ext CC.out))).mono ?_
  rw [V1.out]
  try unfold digV
  rintro e w7 ⟨rfl, hb⟩
  replace CC : Hid (Below w4.heap.size w4 w7) := Lib.hid (ext_trans CC.out hb)
  clear hb
  go_wp2_with fail
  refine ⟨CC.out, ?_⟩
  iterate 7 (refine schedC_pure (v := ?_) rfl (by rfl) ?_ ?_; rotate_left; (focus (intro v hC; obtain ⟨y0, y1, y2, y3, y4, y5, y6, y7, _, _, _, _, _, _, _, _⟩ := full8 (keepB hC DY.out); obtain ⟨m0, m1, m2, m3, m4, m5, m6, m7, _, _, _, _, _, _, _, _⟩ := full8 (keepB hC DM.out); obtain ⟨k0, k1, k2, k3, k4, k5, k6, k7, _, _, _, _, _, _, _, _⟩ := full8 (keepB hC DK.out); obtain ⟨z0, z1, z2, z3, z4, z5, z6, z7, _, _, _, _, _, _, _, _⟩ := full8 (keepB hC DW.out); go_simp; try with_reducible rfl)); try go_simp)
  refine schedC_eff rfl ?_
  intro J hJ
  go_wp2_with fail
  refine (verify_c _ tk m Lt A n c sg (Lib.hid (RD.out.ext CC.out))).mono ?_
  rw [V2.out]
  try unfold digV
  rintro e w8 ⟨rfl, hb⟩
  replace CC : Hid (Below w4.heap.size w4 w8) := Lib.hid (ext_trans CC.out hb)
  clear hb
  go_wp2_with fail
  refine ⟨CC.out, ?_⟩
  iterate 3 (refine schedC_pure (v := ?_) rfl (by rfl) ?_ ?_; rotate_left; (focus (intro v hC; obtain ⟨y0, y1, y2, y3, y4, y5, y6, y7, _, _, _, _, _, _, _, _⟩ := full8 (keepB hC DY.out); obtain ⟨m0, m1, m2, m3, m4, m5, m6, m7, _, _, _, _, _, _, _, _⟩ := full8 (keepB hC DM.out); obtain ⟨k0, k1, k2, k3, k4, k5, k6, k7, _, _, _, _, _, _, _, _⟩ := full8 (keepB hC DK.out); obtain ⟨z0, z1, z2, z3, z4, z5, z6, z7, _, _, _, _, _, _, _, _⟩ := full8 (keepB hC DW.out); go_simp; try with_reducible rfl)); try go_simp)
  refine schedC_nil (hJ0 _ _ ?_)
  clear hJ0
  go_wp2_with fail
  go_ret
  exact ⟨rfl, ext_trans B.out CC.out⟩

set_option maxRecDepth 100000 in
set_option maxHeartbeats 4000000 in
theorem tells_low (w : World) (y m : Nat) (hy : y < 18446744073709551616) (A : Option Addr) (n c : Nat) (bs : List UInt8) (h : Rd w A n c bs) (K : Int) (hn : n = 144) (hK : K < 0) :
    Calls Try.prog 6 #[digV y, digV m, .slice A n c, .int .i64 K] w (Holds w) := by
  have hle := h.le
  have hmax := h.max
  subst hn
  have g0 : ¬ 0 ≤ K := by omega
  have i2 : (144 : Int) ≤ (c : Int) := by omega
  obtain ⟨sg, hsg⟩ : ∃ l, l = bs := ⟨_, rfl⟩
  have RD : Hid (Rd w A 144 c sg) := by rw [hsg]; exact h
  have HL := RD.out.len
  obtain ⟨tk, tb, hT⟩ : ∃ a b, toldR m sg = (a, b) := ⟨_, _, rfl⟩
  obtain rfl : tb = true := by have h := hT; unfold toldR at h; rw [if_pos (by omega)] at h; injection h with h1 h2; exact h2.symm
  have TT := Lib.hid hT
  have hS : shownR sg K = (0, false) := by unfold shownR; rw [if_neg (by omega)]
  obtain ⟨xk, hxk⟩ : ∃ x : Nat, x = 0 := ⟨_, rfl⟩
  have X0 : Hid (xk = 0) := hxk
  rw [← hxk] at hS
  have SS := Lib.hid hS
  clear hxk hS hT
  have Lt : tk < 18446744073709551616 := by have := toldR_lt m sg; rw [TT.out] at this; exact this
  have Lx : xk < 18446744073709551616 := by have := shownR_lt sg K; rw [SS.out] at this; exact this
  have V2 : Hid (verR tk m sg = true) := by show _ = _; unfold verR; rw [TT.out]; simp
  obtain ⟨q, hq⟩ : ∃ q, q = verR y m sg := ⟨_, rfl⟩
  have V1 : Hid (verR y m sg = q) := hq.symm
  have QQ : (q == q) = true := by simp
  have E1 := eql_d Lt Lt
  rw [decide_eq_true rfl] at E1
  have G1 := guard_d .eql tk tk
  have NX := neq_d Lx (show 0 < 18446744073709551616 by omega)
  rw [decide_eq_true X0.out] at NX
  have GX := guard_d .neq xk 0
  rw [digV0] at NX GX
  clear hq
  unfold digV at E1 G1 NX GX
  unfold digV
  go_enter Try.func6, Try.ntmps6
  go_upto_region 2 with fail
  generalize hW : World.alloc (World.alloc w (.cells #[.int .u8 (byt y 0), .int .u8 (byt y 1), .int .u8 (byt y 2), .int .u8 (byt y 3), .int .u8 (byt y 4), .int .u8 (byt y 5), .int .u8 (byt y 6), .int .u8 (byt y 7)] 30)) (.cells #[.int .u8 (byt m 0), .int .u8 (byt m 1), .int .u8 (byt m 2), .int .u8 (byt m 3), .int .u8 (byt m 4), .int .u8 (byt m 5), .int .u8 (byt m 6), .int .u8 (byt m 7)] 30) = W
  have DY : Hid (W.heap[w.heap.size]? = some (.cells #[.int .u8 (byt y 0), .int .u8 (byt y 1), .int .u8 (byt y 2), .int .u8 (byt y 3), .int .u8 (byt y 4), .int .u8 (byt y 5), .int .u8 (byt y 6), .int .u8 (byt y 7)] 30 (0, 0))) := by rw [← hW]; exact keepA (Go.heap_alloc_new w _)
  have DM : Hid (W.heap[w.heap.size + 1]? = some (.cells #[.int .u8 (byt m 0), .int .u8 (byt m 1), .int .u8 (byt m 2), .int .u8 (byt m 3), .int .u8 (byt m 4), .int .u8 (byt m 5), .int .u8 (byt m 6), .int .u8 (byt m 7)] 30 (0, 0))) := by rw [← hW]; exact heap_alloc_newest (w := World.alloc _ _) (by simp)
  have B : Hid (Below w.heap.size w W) := by rw [← hW]; exact ext_trans (ext_alloc _ _) (ext_alloc _ _)
  clear hW
  replace RD := Lib.hid (RD.out.ext B.out)
  obtain ⟨m0, m1, m2, m3, m4, m5, m6, m7, _, _, _, _, _, _, _, _⟩ := full8 DM.out; 
  go_wp2_with fail
  rw [← show digV m = .agg #[.int .u8 (byt m 0), .int .u8 (byt m 1), .int .u8 (byt m 2), .int .u8 (byt m 3), .int .u8 (byt m 4), .int .u8 (byt m 5), .int .u8 (byt m 6), .int .u8 (byt m 7)] from rfl]
  refine (told_c _ m A 144 c sg RD).mono ?_
  unfold Tolds
  rw [TT.out]
  unfold digV
  rintro e w1 ⟨rfl, hb⟩
  replace hb := ext_trans hb (ext_alloc w1 (.cells #[.int .u8 (byt tk 0), .int .u8 (byt tk 1), .int .u8 (byt tk 2), .int .u8 (byt tk 3), .int .u8 (byt tk 4), .int .u8 (byt tk 5), .int .u8 (byt tk 6), .int .u8 (byt tk 7)] 31))
  have DK : Hid ((World.alloc w1 (.cells #[.int .u8 (byt tk 0), .int .u8 (byt tk 1), .int .u8 (byt tk 2), .int .u8 (byt tk 3), .int .u8 (byt tk 4), .int .u8 (byt tk 5), .int .u8 (byt tk 6), .int .u8 (byt tk 7)] 31)).heap[w1.heap.size]? = some (.cells #[.int .u8 (byt tk 0), .int .u8 (byt tk 1), .int .u8 (byt tk 2), .int .u8 (byt tk 3), .int .u8 (byt tk 4), .int .u8 (byt tk 5), .int .u8 (byt tk 6), .int .u8 (byt tk 7)] 31 (0, 0))) := Go.heap_alloc_new w1 _
  replace DY := Lib.hid (keepB hb DY.out)
  replace DM := Lib.hid (keepB hb DM.out)
  replace RD := Lib.hid (RD.out.ext hb)
  replace B := Lib.hid (ext_trans B.out hb)
  clear hb m0 m1 m2 m3 m4 m5 m6 m7
  go_upto_region 3 with fail
  generalize World.alloc w1 (.cells #[.int .u8 (byt tk 0), .int .u8 (byt tk 1), .int .u8 (byt tk 2), .int .u8 (byt tk 3), .int .u8 (byt tk 4), .int .u8 (byt tk 5), .int .u8 (byt tk 6), .int .u8 (byt tk 7)] 31) = U1 at *
  obtain ⟨m0, m1, m2, m3, m4, m5, m6, m7, _, _, _, _, _, _, _, _⟩ := full8 DM.out; 
  go_wp2_with fail
  rw [← show digV m = .agg #[.int .u8 (byt m 0), .int .u8 (byt m 1), .int .u8 (byt m 2), .int .u8 (byt m 3), .int .u8 (byt m 4), .int .u8 (byt m 5), .int .u8 (byt m 6), .int .u8 (byt m 7)] from rfl]
  refine (rtold_c _ m A 144 c sg RD).mono ?_
  unfold Tolds
  rw [TT.out]
  unfold digV
  rintro e w2 ⟨rfl, hb⟩
  replace hb := ext_trans hb (ext_alloc w2 (.cells #[.int .u8 (byt tk 0), .int .u8 (byt tk 1), .int .u8 (byt tk 2), .int .u8 (byt tk 3), .int .u8 (byt tk 4), .int .u8 (byt tk 5), .int .u8 (byt tk 6), .int .u8 (byt tk 7)] 30))
  have DW : Hid ((World.alloc w2 (.cells #[.int .u8 (byt tk 0), .int .u8 (byt tk 1), .int .u8 (byt tk 2), .int .u8 (byt tk 3), .int .u8 (byt tk 4), .int .u8 (byt tk 5), .int .u8 (byt tk 6), .int .u8 (byt tk 7)] 30)).heap[w2.heap.size]? = some (.cells #[.int .u8 (byt tk 0), .int .u8 (byt tk 1), .int .u8 (byt tk 2), .int .u8 (byt tk 3), .int .u8 (byt tk 4), .int .u8 (byt tk 5), .int .u8 (byt tk 6), .int .u8 (byt tk 7)] 30 (0, 0))) := Go.heap_alloc_new w2 _
  replace DY := Lib.hid (keepB hb DY.out)
  replace DM := Lib.hid (keepB hb DM.out)
  replace DK := Lib.hid (keepB hb DK.out)
  replace RD := Lib.hid (RD.out.ext hb)
  replace B := Lib.hid (ext_trans B.out hb)
  clear hb m0 m1 m2 m3 m4 m5 m6 m7
  go_upto_region 4 with fail
  generalize World.alloc w2 (.cells #[.int .u8 (byt tk 0), .int .u8 (byt tk 1), .int .u8 (byt tk 2), .int .u8 (byt tk 3), .int .u8 (byt tk 4), .int .u8 (byt tk 5), .int .u8 (byt tk 6), .int .u8 (byt tk 7)] 30) = U2 at *
  go_wp2_with fail
  refine (shown_c _ A 144 c sg RD K).mono ?_
  unfold Shows
  rw [SS.out]
  unfold digV
  rintro e w3 ⟨rfl, hb⟩
  replace hb := ext_trans hb (ext_alloc w3 (.cells #[.int .u8 (byt xk 0), .int .u8 (byt xk 1), .int .u8 (byt xk 2), .int .u8 (byt xk 3), .int .u8 (byt xk 4), .int .u8 (byt xk 5), .int .u8 (byt xk 6), .int .u8 (byt xk 7)] 31))
  have DX : Hid ((World.alloc w3 (.cells #[.int .u8 (byt xk 0), .int .u8 (byt xk 1), .int .u8 (byt xk 2), .int .u8 (byt xk 3), .int .u8 (byt xk 4), .int .u8 (byt xk 5), .int .u8 (byt xk 6), .int .u8 (byt xk 7)] 31)).heap[w3.heap.size]? = some (.cells #[.int .u8 (byt xk 0), .int .u8 (byt xk 1), .int .u8 (byt xk 2), .int .u8 (byt xk 3), .int .u8 (byt xk 4), .int .u8 (byt xk 5), .int .u8 (byt xk 6), .int .u8 (byt xk 7)] 31 (0, 0))) := Go.heap_alloc_new w3 _
  replace DY := Lib.hid (keepB hb DY.out)
  replace DM := Lib.hid (keepB hb DM.out)
  replace DK := Lib.hid (keepB hb DK.out)
  replace DW := Lib.hid (keepB hb DW.out)
  replace RD := Lib.hid (RD.out.ext hb)
  replace B := Lib.hid (ext_trans B.out hb)
  clear hb
  go_upto_region 5 with fail
  generalize World.alloc w3 (.cells #[.int .u8 (byt xk 0), .int .u8 (byt xk 1), .int .u8 (byt xk 2), .int .u8 (byt xk 3), .int .u8 (byt xk 4), .int .u8 (byt xk 5), .int .u8 (byt xk 6), .int .u8 (byt xk 7)] 31) = V at *
  go_wp2_with fail
  try rw [show decide (K < 18) = false from decide_eq_false (by omega)]
  refine wp_region_schedC (fun v => Below V.heap.size V v) [(true, 0), (true, 1), (true, 2), (true, 3), (true, 4), (true, 5), (true, 6), (true, 7), (true, 8), (false, 9), (true, 10), (true, 11), (true, 12), (true, 13), (true, 14), (true, 15), (true, 16), (true, 17), (true, 18), (true, 19), (true, 20), (true, 21)] (by kernel_rfl) rfl (by kernel_rfl) (by kernel_rfl) (fun _ _ d _ _ h => by cases d <;> exact h) (ext_drew V) ?_
  intro J0 hJ0
  have CC : Hid (Below V.heap.size V V.drew) := Lib.hid (ext_drew V)
  iterate 9 ((first | refine schedC_skip2 rfl (by rfl) ?_ | (refine schedC_pure (v := ?_) rfl (by rfl) ?_ ?_; rotate_left; (focus (intro v hC; obtain ⟨x0, x1, x2, x3, x4, x5, x6, x7, _, _, _, _, _, _, _, _⟩ := full8 (keepB hC DX.out); go_simp; try with_reducible rfl)))); try go_simp)
  refine schedC_eff rfl ?_
  intro J hJ
  go_wp2_with fail
  refine ⟨CC.out, ?_⟩
  iterate 12 ((first | refine schedC_skip2 rfl (by rfl) ?_ | (refine schedC_pure (v := ?_) rfl (by rfl) ?_ ?_; rotate_left; (focus (intro v hC; obtain ⟨x0, x1, x2, x3, x4, x5, x6, x7, _, _, _, _, _, _, _, _⟩ := full8 (keepB hC DX.out); go_simp; try with_reducible rfl)))); try go_simp)
  refine schedC_nil (hJ0 _ _ ?_)
  clear hJ0
  replace DY := Lib.hid (keepB CC.out DY.out)
  replace DM := Lib.hid (keepB CC.out DM.out)
  replace DK := Lib.hid (keepB CC.out DK.out)
  replace DW := Lib.hid (keepB CC.out DW.out)
  replace RD := Lib.hid (RD.out.ext CC.out)
  replace B := Lib.hid (ext_trans B.out CC.out)
  clear CC
  generalize V.drew = w4 at *
  go_wp2_with fail
  refine wp_region_schedC (fun v => Below w4.heap.size w4 v) [(false, 0), (true, 1), (true, 2), (true, 3), (true, 4), (true, 5), (true, 6), (true, 7), (true, 8), (true, 9), (true, 10), (true, 11), (true, 12), (true, 13), (true, 14), (true, 16), (true, 17), (true, 18), (false, 15), (false, 19), (true, 20), (true, 21), (true, 22), (true, 23), (true, 24), (true, 25), (true, 27), (false, 26), (true, 28), (true, 29), (true, 30)] (by kernel_rfl) rfl (by kernel_rfl) (by kernel_rfl) (fun _ _ d _ _ h => by cases d <;> exact h) (ext_drew w4) ?_
  intro J0 hJ0
  refine schedC_eff rfl ?_
  intro J hJ
  go_wp2_with fail
  refine (known_c _).mono ?_
  try unfold digV
  rintro e w5 ⟨rfl, hb⟩
  have CC : Hid (Below w4.heap.size w4 w5) := Lib.hid (ext_trans (ext_drew w4) hb)
  clear hb
  go_wp2_with fail
  refine ⟨CC.out, ?_⟩
  iterate 17 (refine schedC_pure (v := ?_) rfl (by rfl) ?_ ?_; rotate_left; (focus (intro v hC; obtain ⟨y0, y1, y2, y3, y4, y5, y6, y7, _, _, _, _, _, _, _, _⟩ := full8 (keepB hC DY.out); obtain ⟨m0, m1, m2, m3, m4, m5, m6, m7, _, _, _, _, _, _, _, _⟩ := full8 (keepB hC DM.out); obtain ⟨k0, k1, k2, k3, k4, k5, k6, k7, _, _, _, _, _, _, _, _⟩ := full8 (keepB hC DK.out); obtain ⟨z0, z1, z2, z3, z4, z5, z6, z7, _, _, _, _, _, _, _, _⟩ := full8 (keepB hC DW.out); go_simp; try with_reducible rfl)); try go_simp)
  refine schedC_eff rfl ?_
  intro J hJ
  go_wp2_with fail
  refine (verify_c _ y m hy A 144 c sg (Lib.hid (RD.out.ext CC.out))).mono ?_
  rw [V1.out]
  try unfold digV
  rintro e w6 ⟨rfl, hb⟩
  replace CC : Hid (Below w4.heap.size w4 w6) := Lib.hid (ext_trans CC.out hb)
  clear hb
  go_wp2_with fail
  refine ⟨CC.out, ?_⟩
  refine schedC_eff rfl ?_
  intro J hJ
  go_wp2_with fail
  refine (rverify_c _ y m hy A 144 c sg (Lib.hid (RD.out.ext CC.out))).mono ?_
  rw [V1.out]
  try unfold digV
  rintro e w7 ⟨rfl, hb⟩
  replace CC : Hid (Below w4.heap.size w4 w7) := Lib.hid (ext_trans CC.out hb)
  clear hb
  go_wp2_with fail
  refine ⟨CC.out, ?_⟩
  iterate 7 (refine schedC_pure (v := ?_) rfl (by rfl) ?_ ?_; rotate_left; (focus (intro v hC; obtain ⟨y0, y1, y2, y3, y4, y5, y6, y7, _, _, _, _, _, _, _, _⟩ := full8 (keepB hC DY.out); obtain ⟨m0, m1, m2, m3, m4, m5, m6, m7, _, _, _, _, _, _, _, _⟩ := full8 (keepB hC DM.out); obtain ⟨k0, k1, k2, k3, k4, k5, k6, k7, _, _, _, _, _, _, _, _⟩ := full8 (keepB hC DK.out); obtain ⟨z0, z1, z2, z3, z4, z5, z6, z7, _, _, _, _, _, _, _, _⟩ := full8 (keepB hC DW.out); go_simp; try with_reducible rfl)); try go_simp)
  refine schedC_eff rfl ?_
  intro J hJ
  go_wp2_with fail
  refine (verify_c _ tk m Lt A 144 c sg (Lib.hid (RD.out.ext CC.out))).mono ?_
  rw [V2.out]
  try unfold digV
  rintro e w8 ⟨rfl, hb⟩
  replace CC : Hid (Below w4.heap.size w4 w8) := Lib.hid (ext_trans CC.out hb)
  clear hb
  go_wp2_with fail
  refine ⟨CC.out, ?_⟩
  iterate 3 (refine schedC_pure (v := ?_) rfl (by rfl) ?_ ?_; rotate_left; (focus (intro v hC; obtain ⟨y0, y1, y2, y3, y4, y5, y6, y7, _, _, _, _, _, _, _, _⟩ := full8 (keepB hC DY.out); obtain ⟨m0, m1, m2, m3, m4, m5, m6, m7, _, _, _, _, _, _, _, _⟩ := full8 (keepB hC DM.out); obtain ⟨k0, k1, k2, k3, k4, k5, k6, k7, _, _, _, _, _, _, _, _⟩ := full8 (keepB hC DK.out); obtain ⟨z0, z1, z2, z3, z4, z5, z6, z7, _, _, _, _, _, _, _, _⟩ := full8 (keepB hC DW.out); go_simp; try with_reducible rfl)); try go_simp)
  refine schedC_nil (hJ0 _ _ ?_)
  clear hJ0
  go_wp2_with fail
  go_ret
  exact ⟨rfl, ext_trans B.out CC.out⟩

set_option maxRecDepth 100000 in
set_option maxHeartbeats 4000000 in
theorem tells_high (w : World) (y m : Nat) (hy : y < 18446744073709551616) (A : Option Addr) (n c : Nat) (bs : List UInt8) (h : Rd w A n c bs) (K : Int) (hn : n = 144) (hK : 18 ≤ K) :
    Calls Try.prog 6 #[digV y, digV m, .slice A n c, .int .i64 K] w (Holds w) := by
  have hle := h.le
  have hmax := h.max
  subst hn
  have g0 : 0 ≤ K := by omega
  have g1 : ¬ K < 18 := by omega
  have i2 : (144 : Int) ≤ (c : Int) := by omega
  obtain ⟨sg, hsg⟩ : ∃ l, l = bs := ⟨_, rfl⟩
  have RD : Hid (Rd w A 144 c sg) := by rw [hsg]; exact h
  have HL := RD.out.len
  obtain ⟨tk, tb, hT⟩ : ∃ a b, toldR m sg = (a, b) := ⟨_, _, rfl⟩
  obtain rfl : tb = true := by have h := hT; unfold toldR at h; rw [if_pos (by omega)] at h; injection h with h1 h2; exact h2.symm
  have TT := Lib.hid hT
  have hS : shownR sg K = (0, false) := by unfold shownR; rw [if_neg (by omega)]
  obtain ⟨xk, hxk⟩ : ∃ x : Nat, x = 0 := ⟨_, rfl⟩
  have X0 : Hid (xk = 0) := hxk
  rw [← hxk] at hS
  have SS := Lib.hid hS
  clear hxk hS hT
  have Lt : tk < 18446744073709551616 := by have := toldR_lt m sg; rw [TT.out] at this; exact this
  have Lx : xk < 18446744073709551616 := by have := shownR_lt sg K; rw [SS.out] at this; exact this
  have V2 : Hid (verR tk m sg = true) := by show _ = _; unfold verR; rw [TT.out]; simp
  obtain ⟨q, hq⟩ : ∃ q, q = verR y m sg := ⟨_, rfl⟩
  have V1 : Hid (verR y m sg = q) := hq.symm
  have QQ : (q == q) = true := by simp
  have E1 := eql_d Lt Lt
  rw [decide_eq_true rfl] at E1
  have G1 := guard_d .eql tk tk
  have NX := neq_d Lx (show 0 < 18446744073709551616 by omega)
  rw [decide_eq_true X0.out] at NX
  have GX := guard_d .neq xk 0
  rw [digV0] at NX GX
  clear hq
  unfold digV at E1 G1 NX GX
  unfold digV
  go_enter Try.func6, Try.ntmps6
  go_upto_region 2 with fail
  generalize hW : World.alloc (World.alloc w (.cells #[.int .u8 (byt y 0), .int .u8 (byt y 1), .int .u8 (byt y 2), .int .u8 (byt y 3), .int .u8 (byt y 4), .int .u8 (byt y 5), .int .u8 (byt y 6), .int .u8 (byt y 7)] 30)) (.cells #[.int .u8 (byt m 0), .int .u8 (byt m 1), .int .u8 (byt m 2), .int .u8 (byt m 3), .int .u8 (byt m 4), .int .u8 (byt m 5), .int .u8 (byt m 6), .int .u8 (byt m 7)] 30) = W
  have DY : Hid (W.heap[w.heap.size]? = some (.cells #[.int .u8 (byt y 0), .int .u8 (byt y 1), .int .u8 (byt y 2), .int .u8 (byt y 3), .int .u8 (byt y 4), .int .u8 (byt y 5), .int .u8 (byt y 6), .int .u8 (byt y 7)] 30 (0, 0))) := by rw [← hW]; exact keepA (Go.heap_alloc_new w _)
  have DM : Hid (W.heap[w.heap.size + 1]? = some (.cells #[.int .u8 (byt m 0), .int .u8 (byt m 1), .int .u8 (byt m 2), .int .u8 (byt m 3), .int .u8 (byt m 4), .int .u8 (byt m 5), .int .u8 (byt m 6), .int .u8 (byt m 7)] 30 (0, 0))) := by rw [← hW]; exact heap_alloc_newest (w := World.alloc _ _) (by simp)
  have B : Hid (Below w.heap.size w W) := by rw [← hW]; exact ext_trans (ext_alloc _ _) (ext_alloc _ _)
  clear hW
  replace RD := Lib.hid (RD.out.ext B.out)
  obtain ⟨m0, m1, m2, m3, m4, m5, m6, m7, _, _, _, _, _, _, _, _⟩ := full8 DM.out; 
  go_wp2_with fail
  rw [← show digV m = .agg #[.int .u8 (byt m 0), .int .u8 (byt m 1), .int .u8 (byt m 2), .int .u8 (byt m 3), .int .u8 (byt m 4), .int .u8 (byt m 5), .int .u8 (byt m 6), .int .u8 (byt m 7)] from rfl]
  refine (told_c _ m A 144 c sg RD).mono ?_
  unfold Tolds
  rw [TT.out]
  unfold digV
  rintro e w1 ⟨rfl, hb⟩
  replace hb := ext_trans hb (ext_alloc w1 (.cells #[.int .u8 (byt tk 0), .int .u8 (byt tk 1), .int .u8 (byt tk 2), .int .u8 (byt tk 3), .int .u8 (byt tk 4), .int .u8 (byt tk 5), .int .u8 (byt tk 6), .int .u8 (byt tk 7)] 31))
  have DK : Hid ((World.alloc w1 (.cells #[.int .u8 (byt tk 0), .int .u8 (byt tk 1), .int .u8 (byt tk 2), .int .u8 (byt tk 3), .int .u8 (byt tk 4), .int .u8 (byt tk 5), .int .u8 (byt tk 6), .int .u8 (byt tk 7)] 31)).heap[w1.heap.size]? = some (.cells #[.int .u8 (byt tk 0), .int .u8 (byt tk 1), .int .u8 (byt tk 2), .int .u8 (byt tk 3), .int .u8 (byt tk 4), .int .u8 (byt tk 5), .int .u8 (byt tk 6), .int .u8 (byt tk 7)] 31 (0, 0))) := Go.heap_alloc_new w1 _
  replace DY := Lib.hid (keepB hb DY.out)
  replace DM := Lib.hid (keepB hb DM.out)
  replace RD := Lib.hid (RD.out.ext hb)
  replace B := Lib.hid (ext_trans B.out hb)
  clear hb m0 m1 m2 m3 m4 m5 m6 m7
  go_upto_region 3 with fail
  generalize World.alloc w1 (.cells #[.int .u8 (byt tk 0), .int .u8 (byt tk 1), .int .u8 (byt tk 2), .int .u8 (byt tk 3), .int .u8 (byt tk 4), .int .u8 (byt tk 5), .int .u8 (byt tk 6), .int .u8 (byt tk 7)] 31) = U1 at *
  obtain ⟨m0, m1, m2, m3, m4, m5, m6, m7, _, _, _, _, _, _, _, _⟩ := full8 DM.out; 
  go_wp2_with fail
  rw [← show digV m = .agg #[.int .u8 (byt m 0), .int .u8 (byt m 1), .int .u8 (byt m 2), .int .u8 (byt m 3), .int .u8 (byt m 4), .int .u8 (byt m 5), .int .u8 (byt m 6), .int .u8 (byt m 7)] from rfl]
  refine (rtold_c _ m A 144 c sg RD).mono ?_
  unfold Tolds
  rw [TT.out]
  unfold digV
  rintro e w2 ⟨rfl, hb⟩
  replace hb := ext_trans hb (ext_alloc w2 (.cells #[.int .u8 (byt tk 0), .int .u8 (byt tk 1), .int .u8 (byt tk 2), .int .u8 (byt tk 3), .int .u8 (byt tk 4), .int .u8 (byt tk 5), .int .u8 (byt tk 6), .int .u8 (byt tk 7)] 30))
  have DW : Hid ((World.alloc w2 (.cells #[.int .u8 (byt tk 0), .int .u8 (byt tk 1), .int .u8 (byt tk 2), .int .u8 (byt tk 3), .int .u8 (byt tk 4), .int .u8 (byt tk 5), .int .u8 (byt tk 6), .int .u8 (byt tk 7)] 30)).heap[w2.heap.size]? = some (.cells #[.int .u8 (byt tk 0), .int .u8 (byt tk 1), .int .u8 (byt tk 2), .int .u8 (byt tk 3), .int .u8 (byt tk 4), .int .u8 (byt tk 5), .int .u8 (byt tk 6), .int .u8 (byt tk 7)] 30 (0, 0))) := Go.heap_alloc_new w2 _
  replace DY := Lib.hid (keepB hb DY.out)
  replace DM := Lib.hid (keepB hb DM.out)
  replace DK := Lib.hid (keepB hb DK.out)
  replace RD := Lib.hid (RD.out.ext hb)
  replace B := Lib.hid (ext_trans B.out hb)
  clear hb m0 m1 m2 m3 m4 m5 m6 m7
  go_upto_region 4 with fail
  generalize World.alloc w2 (.cells #[.int .u8 (byt tk 0), .int .u8 (byt tk 1), .int .u8 (byt tk 2), .int .u8 (byt tk 3), .int .u8 (byt tk 4), .int .u8 (byt tk 5), .int .u8 (byt tk 6), .int .u8 (byt tk 7)] 30) = U2 at *
  go_wp2_with fail
  refine (shown_c _ A 144 c sg RD K).mono ?_
  unfold Shows
  rw [SS.out]
  unfold digV
  rintro e w3 ⟨rfl, hb⟩
  replace hb := ext_trans hb (ext_alloc w3 (.cells #[.int .u8 (byt xk 0), .int .u8 (byt xk 1), .int .u8 (byt xk 2), .int .u8 (byt xk 3), .int .u8 (byt xk 4), .int .u8 (byt xk 5), .int .u8 (byt xk 6), .int .u8 (byt xk 7)] 31))
  have DX : Hid ((World.alloc w3 (.cells #[.int .u8 (byt xk 0), .int .u8 (byt xk 1), .int .u8 (byt xk 2), .int .u8 (byt xk 3), .int .u8 (byt xk 4), .int .u8 (byt xk 5), .int .u8 (byt xk 6), .int .u8 (byt xk 7)] 31)).heap[w3.heap.size]? = some (.cells #[.int .u8 (byt xk 0), .int .u8 (byt xk 1), .int .u8 (byt xk 2), .int .u8 (byt xk 3), .int .u8 (byt xk 4), .int .u8 (byt xk 5), .int .u8 (byt xk 6), .int .u8 (byt xk 7)] 31 (0, 0))) := Go.heap_alloc_new w3 _
  replace DY := Lib.hid (keepB hb DY.out)
  replace DM := Lib.hid (keepB hb DM.out)
  replace DK := Lib.hid (keepB hb DK.out)
  replace DW := Lib.hid (keepB hb DW.out)
  replace RD := Lib.hid (RD.out.ext hb)
  replace B := Lib.hid (ext_trans B.out hb)
  clear hb
  go_upto_region 5 with fail
  generalize World.alloc w3 (.cells #[.int .u8 (byt xk 0), .int .u8 (byt xk 1), .int .u8 (byt xk 2), .int .u8 (byt xk 3), .int .u8 (byt xk 4), .int .u8 (byt xk 5), .int .u8 (byt xk 6), .int .u8 (byt xk 7)] 31) = V at *
  go_wp2_with fail
  try rw [show decide (K < 18) = false from decide_eq_false (by omega)]
  refine wp_region_schedC (fun v => Below V.heap.size V v) [(true, 0), (true, 1), (true, 2), (true, 3), (true, 4), (true, 5), (true, 6), (true, 7), (true, 8), (false, 9), (true, 10), (true, 11), (true, 12), (true, 13), (true, 14), (true, 15), (true, 16), (true, 17), (true, 18), (true, 19), (true, 20), (true, 21)] (by kernel_rfl) rfl (by kernel_rfl) (by kernel_rfl) (fun _ _ d _ _ h => by cases d <;> exact h) (ext_drew V) ?_
  intro J0 hJ0
  have CC : Hid (Below V.heap.size V V.drew) := Lib.hid (ext_drew V)
  iterate 9 ((first | refine schedC_skip2 rfl (by rfl) ?_ | (refine schedC_pure (v := ?_) rfl (by rfl) ?_ ?_; rotate_left; (focus (intro v hC; obtain ⟨x0, x1, x2, x3, x4, x5, x6, x7, _, _, _, _, _, _, _, _⟩ := full8 (keepB hC DX.out); go_simp; try with_reducible rfl)))); try go_simp)
  refine schedC_eff rfl ?_
  intro J hJ
  go_wp2_with fail
  refine ⟨CC.out, ?_⟩
  iterate 12 ((first | refine schedC_skip2 rfl (by rfl) ?_ | (refine schedC_pure (v := ?_) rfl (by rfl) ?_ ?_; rotate_left; (focus (intro v hC; obtain ⟨x0, x1, x2, x3, x4, x5, x6, x7, _, _, _, _, _, _, _, _⟩ := full8 (keepB hC DX.out); go_simp; try with_reducible rfl)))); try go_simp)
  refine schedC_nil (hJ0 _ _ ?_)
  clear hJ0
  replace DY := Lib.hid (keepB CC.out DY.out)
  replace DM := Lib.hid (keepB CC.out DM.out)
  replace DK := Lib.hid (keepB CC.out DK.out)
  replace DW := Lib.hid (keepB CC.out DW.out)
  replace RD := Lib.hid (RD.out.ext CC.out)
  replace B := Lib.hid (ext_trans B.out CC.out)
  clear CC
  generalize V.drew = w4 at *
  go_wp2_with fail
  refine wp_region_schedC (fun v => Below w4.heap.size w4 v) [(false, 0), (true, 1), (true, 2), (true, 3), (true, 4), (true, 5), (true, 6), (true, 7), (true, 8), (true, 9), (true, 10), (true, 11), (true, 12), (true, 13), (true, 14), (true, 16), (true, 17), (true, 18), (false, 15), (false, 19), (true, 20), (true, 21), (true, 22), (true, 23), (true, 24), (true, 25), (true, 27), (false, 26), (true, 28), (true, 29), (true, 30)] (by kernel_rfl) rfl (by kernel_rfl) (by kernel_rfl) (fun _ _ d _ _ h => by cases d <;> exact h) (ext_drew w4) ?_
  intro J0 hJ0
  refine schedC_eff rfl ?_
  intro J hJ
  go_wp2_with fail
  refine (known_c _).mono ?_
  try unfold digV
  rintro e w5 ⟨rfl, hb⟩
  have CC : Hid (Below w4.heap.size w4 w5) := Lib.hid (ext_trans (ext_drew w4) hb)
  clear hb
  go_wp2_with fail
  refine ⟨CC.out, ?_⟩
  iterate 17 (refine schedC_pure (v := ?_) rfl (by rfl) ?_ ?_; rotate_left; (focus (intro v hC; obtain ⟨y0, y1, y2, y3, y4, y5, y6, y7, _, _, _, _, _, _, _, _⟩ := full8 (keepB hC DY.out); obtain ⟨m0, m1, m2, m3, m4, m5, m6, m7, _, _, _, _, _, _, _, _⟩ := full8 (keepB hC DM.out); obtain ⟨k0, k1, k2, k3, k4, k5, k6, k7, _, _, _, _, _, _, _, _⟩ := full8 (keepB hC DK.out); obtain ⟨z0, z1, z2, z3, z4, z5, z6, z7, _, _, _, _, _, _, _, _⟩ := full8 (keepB hC DW.out); go_simp; try with_reducible rfl)); try go_simp)
  refine schedC_eff rfl ?_
  intro J hJ
  go_wp2_with fail
  refine (verify_c _ y m hy A 144 c sg (Lib.hid (RD.out.ext CC.out))).mono ?_
  rw [V1.out]
  try unfold digV
  rintro e w6 ⟨rfl, hb⟩
  replace CC : Hid (Below w4.heap.size w4 w6) := Lib.hid (ext_trans CC.out hb)
  clear hb
  go_wp2_with fail
  refine ⟨CC.out, ?_⟩
  refine schedC_eff rfl ?_
  intro J hJ
  go_wp2_with fail
  refine (rverify_c _ y m hy A 144 c sg (Lib.hid (RD.out.ext CC.out))).mono ?_
  rw [V1.out]
  try unfold digV
  rintro e w7 ⟨rfl, hb⟩
  replace CC : Hid (Below w4.heap.size w4 w7) := Lib.hid (ext_trans CC.out hb)
  clear hb
  go_wp2_with fail
  refine ⟨CC.out, ?_⟩
  iterate 7 (refine schedC_pure (v := ?_) rfl (by rfl) ?_ ?_; rotate_left; (focus (intro v hC; obtain ⟨y0, y1, y2, y3, y4, y5, y6, y7, _, _, _, _, _, _, _, _⟩ := full8 (keepB hC DY.out); obtain ⟨m0, m1, m2, m3, m4, m5, m6, m7, _, _, _, _, _, _, _, _⟩ := full8 (keepB hC DM.out); obtain ⟨k0, k1, k2, k3, k4, k5, k6, k7, _, _, _, _, _, _, _, _⟩ := full8 (keepB hC DK.out); obtain ⟨z0, z1, z2, z3, z4, z5, z6, z7, _, _, _, _, _, _, _, _⟩ := full8 (keepB hC DW.out); go_simp; try with_reducible rfl)); try go_simp)
  refine schedC_eff rfl ?_
  intro J hJ
  go_wp2_with fail
  refine (verify_c _ tk m Lt A 144 c sg (Lib.hid (RD.out.ext CC.out))).mono ?_
  rw [V2.out]
  try unfold digV
  rintro e w8 ⟨rfl, hb⟩
  replace CC : Hid (Below w4.heap.size w4 w8) := Lib.hid (ext_trans CC.out hb)
  clear hb
  go_wp2_with fail
  refine ⟨CC.out, ?_⟩
  iterate 3 (refine schedC_pure (v := ?_) rfl (by rfl) ?_ ?_; rotate_left; (focus (intro v hC; obtain ⟨y0, y1, y2, y3, y4, y5, y6, y7, _, _, _, _, _, _, _, _⟩ := full8 (keepB hC DY.out); obtain ⟨m0, m1, m2, m3, m4, m5, m6, m7, _, _, _, _, _, _, _, _⟩ := full8 (keepB hC DM.out); obtain ⟨k0, k1, k2, k3, k4, k5, k6, k7, _, _, _, _, _, _, _, _⟩ := full8 (keepB hC DK.out); obtain ⟨z0, z1, z2, z3, z4, z5, z6, z7, _, _, _, _, _, _, _, _⟩ := full8 (keepB hC DW.out); go_simp; try with_reducible rfl)); try go_simp)
  refine schedC_nil (hJ0 _ _ ?_)
  clear hJ0
  go_wp2_with fail
  go_ret
  exact ⟨rfl, ext_trans B.out CC.out⟩

set_option maxRecDepth 100000 in
set_option maxHeartbeats 4000000 in
theorem tells_in (w : World) (y m : Nat) (hy : y < 18446744073709551616) (A : Option Addr) (n c : Nat) (bs : List UInt8) (h : Rd w A n c bs) (K : Int) (hn : n = 144) (h0 : 0 ≤ K) (h1 : K < 18) :
    Calls Try.prog 6 #[digV y, digV m, .slice A n c, .int .i64 K] w (Holds w) := by
  have hle := h.le
  have hmax := h.max
  subst hn
  have i2 : (144 : Int) ≤ (c : Int) := by omega
  obtain ⟨sg, hsg⟩ : ∃ l, l = bs := ⟨_, rfl⟩
  have RD : Hid (Rd w A 144 c sg) := by rw [hsg]; exact h
  have HL := RD.out.len
  obtain ⟨tk, tb, hT⟩ : ∃ a b, toldR m sg = (a, b) := ⟨_, _, rfl⟩
  obtain rfl : tb = true := by have h := hT; unfold toldR at h; rw [if_pos (by omega)] at h; injection h with h1 h2; exact h2.symm
  have TT := Lib.hid hT
  obtain ⟨k, rfl⟩ : ∃ k : Nat, K = k := ⟨K.toNat, by omega⟩
  have hk : k < 18 := by omega
  obtain ⟨xk, hxk⟩ : ∃ x : Nat, x = partN sg k := ⟨_, rfl⟩
  have HX : Hid (partN sg k = xk) := hxk.symm
  have hS : shownR sg (k : Int) = (xk, true) := by unfold shownR; rw [if_pos (by omega), hxk]; rfl
  have SS := Lib.hid hS
  have k0 : (0 : Int) ≤ (k : Int) := by omega
  have k1 : (k : Int) < 18 := by omega
  clear hxk hS hT
  have Lt : tk < 18446744073709551616 := by have := toldR_lt m sg; rw [TT.out] at this; exact this
  have Lx : xk < 18446744073709551616 := by have := shownR_lt sg (k : Int); rw [SS.out] at this; exact this
  have V2 : Hid (verR tk m sg = true) := by show _ = _; unfold verR; rw [TT.out]; simp
  obtain ⟨q, hq⟩ : ∃ q, q = verR y m sg := ⟨_, rfl⟩
  have V1 : Hid (verR y m sg = q) := hq.symm
  have QQ : (q == q) = true := by simp
  have E1 := eql_d Lt Lt
  rw [decide_eq_true rfl] at E1
  have G1 := guard_d .eql tk tk
  have NX := neq_d Lx Lx
  rw [decide_eq_true rfl] at NX
  have GX := guard_d .neq xk xk
  clear hq
  unfold digV at E1 G1 NX GX
  unfold digV
  go_enter Try.func6, Try.ntmps6
  go_upto_region 2 with fail
  generalize hW : World.alloc (World.alloc w (.cells #[.int .u8 (byt y 0), .int .u8 (byt y 1), .int .u8 (byt y 2), .int .u8 (byt y 3), .int .u8 (byt y 4), .int .u8 (byt y 5), .int .u8 (byt y 6), .int .u8 (byt y 7)] 30)) (.cells #[.int .u8 (byt m 0), .int .u8 (byt m 1), .int .u8 (byt m 2), .int .u8 (byt m 3), .int .u8 (byt m 4), .int .u8 (byt m 5), .int .u8 (byt m 6), .int .u8 (byt m 7)] 30) = W
  have DY : Hid (W.heap[w.heap.size]? = some (.cells #[.int .u8 (byt y 0), .int .u8 (byt y 1), .int .u8 (byt y 2), .int .u8 (byt y 3), .int .u8 (byt y 4), .int .u8 (byt y 5), .int .u8 (byt y 6), .int .u8 (byt y 7)] 30 (0, 0))) := by rw [← hW]; exact keepA (Go.heap_alloc_new w _)
  have DM : Hid (W.heap[w.heap.size + 1]? = some (.cells #[.int .u8 (byt m 0), .int .u8 (byt m 1), .int .u8 (byt m 2), .int .u8 (byt m 3), .int .u8 (byt m 4), .int .u8 (byt m 5), .int .u8 (byt m 6), .int .u8 (byt m 7)] 30 (0, 0))) := by rw [← hW]; exact heap_alloc_newest (w := World.alloc _ _) (by simp)
  have B : Hid (Below w.heap.size w W) := by rw [← hW]; exact ext_trans (ext_alloc _ _) (ext_alloc _ _)
  clear hW
  replace RD := Lib.hid (RD.out.ext B.out)
  obtain ⟨m0, m1, m2, m3, m4, m5, m6, m7, _, _, _, _, _, _, _, _⟩ := full8 DM.out; 
  go_wp2_with fail
  rw [← show digV m = .agg #[.int .u8 (byt m 0), .int .u8 (byt m 1), .int .u8 (byt m 2), .int .u8 (byt m 3), .int .u8 (byt m 4), .int .u8 (byt m 5), .int .u8 (byt m 6), .int .u8 (byt m 7)] from rfl]
  refine (told_c _ m A 144 c sg RD).mono ?_
  unfold Tolds
  rw [TT.out]
  unfold digV
  rintro e w1 ⟨rfl, hb⟩
  replace hb := ext_trans hb (ext_alloc w1 (.cells #[.int .u8 (byt tk 0), .int .u8 (byt tk 1), .int .u8 (byt tk 2), .int .u8 (byt tk 3), .int .u8 (byt tk 4), .int .u8 (byt tk 5), .int .u8 (byt tk 6), .int .u8 (byt tk 7)] 31))
  have DK : Hid ((World.alloc w1 (.cells #[.int .u8 (byt tk 0), .int .u8 (byt tk 1), .int .u8 (byt tk 2), .int .u8 (byt tk 3), .int .u8 (byt tk 4), .int .u8 (byt tk 5), .int .u8 (byt tk 6), .int .u8 (byt tk 7)] 31)).heap[w1.heap.size]? = some (.cells #[.int .u8 (byt tk 0), .int .u8 (byt tk 1), .int .u8 (byt tk 2), .int .u8 (byt tk 3), .int .u8 (byt tk 4), .int .u8 (byt tk 5), .int .u8 (byt tk 6), .int .u8 (byt tk 7)] 31 (0, 0))) := Go.heap_alloc_new w1 _
  replace DY := Lib.hid (keepB hb DY.out)
  replace DM := Lib.hid (keepB hb DM.out)
  replace RD := Lib.hid (RD.out.ext hb)
  replace B := Lib.hid (ext_trans B.out hb)
  clear hb m0 m1 m2 m3 m4 m5 m6 m7
  go_upto_region 3 with fail
  generalize World.alloc w1 (.cells #[.int .u8 (byt tk 0), .int .u8 (byt tk 1), .int .u8 (byt tk 2), .int .u8 (byt tk 3), .int .u8 (byt tk 4), .int .u8 (byt tk 5), .int .u8 (byt tk 6), .int .u8 (byt tk 7)] 31) = U1 at *
  obtain ⟨m0, m1, m2, m3, m4, m5, m6, m7, _, _, _, _, _, _, _, _⟩ := full8 DM.out; 
  go_wp2_with fail
  rw [← show digV m = .agg #[.int .u8 (byt m 0), .int .u8 (byt m 1), .int .u8 (byt m 2), .int .u8 (byt m 3), .int .u8 (byt m 4), .int .u8 (byt m 5), .int .u8 (byt m 6), .int .u8 (byt m 7)] from rfl]
  refine (rtold_c _ m A 144 c sg RD).mono ?_
  unfold Tolds
  rw [TT.out]
  unfold digV
  rintro e w2 ⟨rfl, hb⟩
  replace hb := ext_trans hb (ext_alloc w2 (.cells #[.int .u8 (byt tk 0), .int .u8 (byt tk 1), .int .u8 (byt tk 2), .int .u8 (byt tk 3), .int .u8 (byt tk 4), .int .u8 (byt tk 5), .int .u8 (byt tk 6), .int .u8 (byt tk 7)] 30))
  have DW : Hid ((World.alloc w2 (.cells #[.int .u8 (byt tk 0), .int .u8 (byt tk 1), .int .u8 (byt tk 2), .int .u8 (byt tk 3), .int .u8 (byt tk 4), .int .u8 (byt tk 5), .int .u8 (byt tk 6), .int .u8 (byt tk 7)] 30)).heap[w2.heap.size]? = some (.cells #[.int .u8 (byt tk 0), .int .u8 (byt tk 1), .int .u8 (byt tk 2), .int .u8 (byt tk 3), .int .u8 (byt tk 4), .int .u8 (byt tk 5), .int .u8 (byt tk 6), .int .u8 (byt tk 7)] 30 (0, 0))) := Go.heap_alloc_new w2 _
  replace DY := Lib.hid (keepB hb DY.out)
  replace DM := Lib.hid (keepB hb DM.out)
  replace DK := Lib.hid (keepB hb DK.out)
  replace RD := Lib.hid (RD.out.ext hb)
  replace B := Lib.hid (ext_trans B.out hb)
  clear hb m0 m1 m2 m3 m4 m5 m6 m7
  go_upto_region 4 with fail
  generalize World.alloc w2 (.cells #[.int .u8 (byt tk 0), .int .u8 (byt tk 1), .int .u8 (byt tk 2), .int .u8 (byt tk 3), .int .u8 (byt tk 4), .int .u8 (byt tk 5), .int .u8 (byt tk 6), .int .u8 (byt tk 7)] 30) = U2 at *
  go_wp2_with fail
  refine (shown_c _ A 144 c sg RD (k : Int)).mono ?_
  unfold Shows
  rw [SS.out]
  unfold digV
  rintro e w3 ⟨rfl, hb⟩
  replace hb := ext_trans hb (ext_alloc w3 (.cells #[.int .u8 (byt xk 0), .int .u8 (byt xk 1), .int .u8 (byt xk 2), .int .u8 (byt xk 3), .int .u8 (byt xk 4), .int .u8 (byt xk 5), .int .u8 (byt xk 6), .int .u8 (byt xk 7)] 31))
  have DX : Hid ((World.alloc w3 (.cells #[.int .u8 (byt xk 0), .int .u8 (byt xk 1), .int .u8 (byt xk 2), .int .u8 (byt xk 3), .int .u8 (byt xk 4), .int .u8 (byt xk 5), .int .u8 (byt xk 6), .int .u8 (byt xk 7)] 31)).heap[w3.heap.size]? = some (.cells #[.int .u8 (byt xk 0), .int .u8 (byt xk 1), .int .u8 (byt xk 2), .int .u8 (byt xk 3), .int .u8 (byt xk 4), .int .u8 (byt xk 5), .int .u8 (byt xk 6), .int .u8 (byt xk 7)] 31 (0, 0))) := Go.heap_alloc_new w3 _
  replace DY := Lib.hid (keepB hb DY.out)
  replace DM := Lib.hid (keepB hb DM.out)
  replace DK := Lib.hid (keepB hb DK.out)
  replace DW := Lib.hid (keepB hb DW.out)
  replace RD := Lib.hid (RD.out.ext hb)
  replace B := Lib.hid (ext_trans B.out hb)
  clear hb
  go_upto_region 5 with fail
  generalize World.alloc w3 (.cells #[.int .u8 (byt xk 0), .int .u8 (byt xk 1), .int .u8 (byt xk 2), .int .u8 (byt xk 3), .int .u8 (byt xk 4), .int .u8 (byt xk 5), .int .u8 (byt xk 6), .int .u8 (byt xk 7)] 31) = V at *
  go_wp2_with fail
  try rw [show decide (K < 18) = false from decide_eq_false (by omega)]
  refine wp_region_schedC (fun v => Below V.heap.size V v) [(true, 0), (true, 1), (true, 2), (true, 3), (true, 4), (true, 5), (true, 6), (true, 7), (true, 8), (false, 9), (true, 10), (true, 11), (true, 12), (true, 13), (true, 14), (true, 15), (true, 16), (true, 17), (true, 18), (true, 19), (true, 20), (true, 21)] (by kernel_rfl) rfl (by kernel_rfl) (by kernel_rfl) (fun _ _ d _ _ h => by cases d <;> exact h) (ext_drew V) ?_
  intro J0 hJ0
  have CC : Hid (Below V.heap.size V V.drew) := Lib.hid (ext_drew V)
  iterate 9 ((first | refine schedC_skip2 rfl (by rfl) ?_ | (refine schedC_pure (v := ?_) rfl (by rfl) ?_ ?_; rotate_left; (focus (intro v hC; obtain ⟨x0, x1, x2, x3, x4, x5, x6, x7, _, _, _, _, _, _, _, _⟩ := full8 (keepB hC DX.out); go_simp; try with_reducible rfl)))); try go_simp)
  refine schedC_eff rfl ?_
  intro J hJ
  go_wp2_with fail
  refine (rshown_c _ A 144 c sg (Lib.hid (RD.out.ext CC.out)) rfl k hk).mono ?_
  rw [HX.out]
  try unfold digV
  rintro e w4 ⟨rfl, hb⟩
  replace CC : Hid (Below V.heap.size V w4) := Lib.hid (ext_trans CC.out hb)
  clear hb
  go_wp2_with fail
  refine ⟨CC.out, ?_⟩
  iterate 12 ((first | refine schedC_skip2 rfl (by rfl) ?_ | (refine schedC_pure (v := ?_) rfl (by rfl) ?_ ?_; rotate_left; (focus (intro v hC; obtain ⟨x0, x1, x2, x3, x4, x5, x6, x7, _, _, _, _, _, _, _, _⟩ := full8 (keepB hC DX.out); go_simp; try with_reducible rfl)))); try go_simp)
  refine schedC_nil (hJ0 _ _ ?_)
  clear hJ0
  replace DY := Lib.hid (keepB CC.out DY.out)
  replace DM := Lib.hid (keepB CC.out DM.out)
  replace DK := Lib.hid (keepB CC.out DK.out)
  replace DW := Lib.hid (keepB CC.out DW.out)
  replace RD := Lib.hid (RD.out.ext CC.out)
  replace B := Lib.hid (ext_trans B.out CC.out)
  clear CC
  go_wp2_with fail
  refine wp_region_schedC (fun v => Below w4.heap.size w4 v) [(false, 0), (true, 1), (true, 2), (true, 3), (true, 4), (true, 5), (true, 6), (true, 7), (true, 8), (true, 9), (true, 10), (true, 11), (true, 12), (true, 13), (true, 14), (true, 16), (true, 17), (true, 18), (false, 15), (false, 19), (true, 20), (true, 21), (true, 22), (true, 23), (true, 24), (true, 25), (true, 27), (false, 26), (true, 28), (true, 29), (true, 30)] (by kernel_rfl) rfl (by kernel_rfl) (by kernel_rfl) (fun _ _ d _ _ h => by cases d <;> exact h) (ext_drew w4) ?_
  intro J0 hJ0
  refine schedC_eff rfl ?_
  intro J hJ
  go_wp2_with fail
  refine (known_c _).mono ?_
  try unfold digV
  rintro e w5 ⟨rfl, hb⟩
  have CC : Hid (Below w4.heap.size w4 w5) := Lib.hid (ext_trans (ext_drew w4) hb)
  clear hb
  go_wp2_with fail
  refine ⟨CC.out, ?_⟩
  iterate 17 (refine schedC_pure (v := ?_) rfl (by rfl) ?_ ?_; rotate_left; (focus (intro v hC; obtain ⟨y0, y1, y2, y3, y4, y5, y6, y7, _, _, _, _, _, _, _, _⟩ := full8 (keepB hC DY.out); obtain ⟨m0, m1, m2, m3, m4, m5, m6, m7, _, _, _, _, _, _, _, _⟩ := full8 (keepB hC DM.out); obtain ⟨k0, k1, k2, k3, k4, k5, k6, k7, _, _, _, _, _, _, _, _⟩ := full8 (keepB hC DK.out); obtain ⟨z0, z1, z2, z3, z4, z5, z6, z7, _, _, _, _, _, _, _, _⟩ := full8 (keepB hC DW.out); go_simp; try with_reducible rfl)); try go_simp)
  refine schedC_eff rfl ?_
  intro J hJ
  go_wp2_with fail
  refine (verify_c _ y m hy A 144 c sg (Lib.hid (RD.out.ext CC.out))).mono ?_
  rw [V1.out]
  try unfold digV
  rintro e w6 ⟨rfl, hb⟩
  replace CC : Hid (Below w4.heap.size w4 w6) := Lib.hid (ext_trans CC.out hb)
  clear hb
  go_wp2_with fail
  refine ⟨CC.out, ?_⟩
  refine schedC_eff rfl ?_
  intro J hJ
  go_wp2_with fail
  refine (rverify_c _ y m hy A 144 c sg (Lib.hid (RD.out.ext CC.out))).mono ?_
  rw [V1.out]
  try unfold digV
  rintro e w7 ⟨rfl, hb⟩
  replace CC : Hid (Below w4.heap.size w4 w7) := Lib.hid (ext_trans CC.out hb)
  clear hb
  go_wp2_with fail
  refine ⟨CC.out, ?_⟩
  iterate 7 (refine schedC_pure (v := ?_) rfl (by rfl) ?_ ?_; rotate_left; (focus (intro v hC; obtain ⟨y0, y1, y2, y3, y4, y5, y6, y7, _, _, _, _, _, _, _, _⟩ := full8 (keepB hC DY.out); obtain ⟨m0, m1, m2, m3, m4, m5, m6, m7, _, _, _, _, _, _, _, _⟩ := full8 (keepB hC DM.out); obtain ⟨k0, k1, k2, k3, k4, k5, k6, k7, _, _, _, _, _, _, _, _⟩ := full8 (keepB hC DK.out); obtain ⟨z0, z1, z2, z3, z4, z5, z6, z7, _, _, _, _, _, _, _, _⟩ := full8 (keepB hC DW.out); go_simp; try with_reducible rfl)); try go_simp)
  refine schedC_eff rfl ?_
  intro J hJ
  go_wp2_with fail
  refine (verify_c _ tk m Lt A 144 c sg (Lib.hid (RD.out.ext CC.out))).mono ?_
  rw [V2.out]
  try unfold digV
  rintro e w8 ⟨rfl, hb⟩
  replace CC : Hid (Below w4.heap.size w4 w8) := Lib.hid (ext_trans CC.out hb)
  clear hb
  go_wp2_with fail
  refine ⟨CC.out, ?_⟩
  iterate 3 (refine schedC_pure (v := ?_) rfl (by rfl) ?_ ?_; rotate_left; (focus (intro v hC; obtain ⟨y0, y1, y2, y3, y4, y5, y6, y7, _, _, _, _, _, _, _, _⟩ := full8 (keepB hC DY.out); obtain ⟨m0, m1, m2, m3, m4, m5, m6, m7, _, _, _, _, _, _, _, _⟩ := full8 (keepB hC DM.out); obtain ⟨k0, k1, k2, k3, k4, k5, k6, k7, _, _, _, _, _, _, _, _⟩ := full8 (keepB hC DK.out); obtain ⟨z0, z1, z2, z3, z4, z5, z6, z7, _, _, _, _, _, _, _, _⟩ := full8 (keepB hC DW.out); go_simp; try with_reducible rfl)); try go_simp)
  refine schedC_nil (hJ0 _ _ ?_)
  clear hJ0
  go_wp2_with fail
  go_ret
  exact ⟨rfl, ext_trans B.out CC.out⟩

theorem walkOnceTells (w : World) (y m : Nat) (A : Option Addr) (n c : Nat) (bs : List UInt8) (K : Int) (hy : y < 18446744073709551616) (_hm : m < 18446744073709551616) (h : Rd w A n c bs) (_h0 : -9223372036854775808 ≤ K) (_h1 : K < 9223372036854775808) :
    Calls Try.prog 6 #[digV y, digV m, .slice A n c, .int .i64 K] w (Holds w) := by
  by_cases hn : 200 < n
  · exact tells_long w y m hy A n c bs h K hn
  by_cases hm : n = 144
  · by_cases h0 : K < 0
    · exact tells_low w y m hy A n c bs h K hm h0
    by_cases h1 : 18 ≤ K
    · exact tells_high w y m hy A n c bs h K hm h1
    exact tells_in w y m hy A n c bs h K hm (by omega) (by omega)
  · exact tells_other w y m hy A n c bs h K (by omega) hm
#print axioms walkOnceTells
end Go.Proofs.Ytbhibfdlkahagaa
