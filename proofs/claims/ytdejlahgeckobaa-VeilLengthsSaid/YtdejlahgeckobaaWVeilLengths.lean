/-
  VeilLengths: the walk.
-/
import Derived.Test.YtdejlahgeckobaaVTold
import Derived.Test.YtdejlahgeckobaaHOpen2
namespace Go.Proofs.Ytdejlahgeckobaa
open Go.RowKit

set_option maxRecDepth 100000 in
set_option maxHeartbeats 4000000 in
theorem walkVeilLengths (w : World) (x y : Nat) (A : Option Addr) (n c : Nat) (bs : List UInt8) (A2 : Option Addr) (n2 c2 : Nat) (cs : List UInt8) (hx : x < 18446744073709551616) (hy : y < 18446744073709551616) (h0 : Rd w A n c bs) (g0 : Rd w A2 n2 c2 cs) :
    Calls Try.prog 11 #[dig2V x y, .slice A n c, .slice A2 n2 c2] w (Holds w) := by
  have h := Lib.hid h0
  clear h0
  have hle := h.out.le
  have hmax := h.out.max
  obtain ⟨m, hm⟩ : ∃ m, m = min n 300 := ⟨_, rfl⟩
  have m3 : m ≤ 300 := by omega
  have mn : m ≤ n := by omega
  have RM : Hid (Rd w A m c (bs.take m)) := h.out.front mn
  obtain ⟨ms, hms⟩ : ∃ l, l = bs.take m := ⟨_, rfl⟩
  rw [← hms] at RM
  have ML : Hid (ms.length = m) := RM.out.len
  have mI : (m : Int) ≤ (c : Int) := by omega
  have HM := Lib.hid hm
  clear hms hm
  have g := Lib.hid g0
  clear g0
  have hle2 := g.out.le
  have hmax2 := g.out.max
  obtain ⟨N, hN⟩ : ∃ N, N = min m n2 := ⟨_, rfl⟩
  have N1 : N ≤ m := by omega
  have N2 : N ≤ n2 := by omega
  have EN : (if n2 < m then (n2 : Int) else (m : Int)) = (N : Int) := by split <;> omega
  have NI1 : (N : Int) ≤ (c : Int) := by omega
  have NI2 : (N : Int) ≤ (c2 : Int) := by omega
  have R1 : Hid (Rd w A N c (ms.take N)) := RM.out.front N1
  have R2 : Hid (Rd w A2 N c2 (cs.take N)) := g.out.front N2
  have S1 : Hid ((sealR x (ms.take N)).length = N + 8) := by show _ = _; unfold sealR; rw [if_pos (by rw [R1.out.len]; omega), boxB_len, R1.out.len]
  have S2 : Hid ((sealR y (cs.take N)).length = N + 8) := by show _ = _; unfold sealR; rw [if_pos (by rw [R2.out.len]; omega), boxB_len, R2.out.len]
  clear hN
  unfold dig2V
  go_enter Try.func11, Try.ntmps11
  go_wp2_with fail
  generalize hW : World.alloc w (.cells #[.int .u8 (byt x 0), .int .u8 (byt x 1), .int .u8 (byt x 2), .int .u8 (byt x 3), .int .u8 (byt x 4), .int .u8 (byt x 5), .int .u8 (byt x 6), .int .u8 (byt x 7), .int .u8 (byt y 0), .int .u8 (byt y 1), .int .u8 (byt y 2), .int .u8 (byt y 3), .int .u8 (byt y 4), .int .u8 (byt y 5), .int .u8 (byt y 6), .int .u8 (byt y 7)] 60) = W
  have D : Hid (W.heap[w.heap.size]? = some (.cells (dig2A x y) 60 (0, 0))) := by rw [← hW]; exact Go.heap_alloc_new w _
  have B : Hid (Below w.heap.size w W) := by rw [← hW]; exact ext_alloc _ _
  clear hW
  refine (few_c W A n c bs (Lib.hid (h.out.ext B.out))).mono ?_
  rw [← HM.out]
  rintro e w1 ⟨rfl, rfl⟩
  go_wp2_with fail
  refine wp_region_schedC (fun v => Below W.heap.size W v) [(true, 0), (true, 1), (true, 2), (true, 3), (true, 4), (true, 6), (true, 7), (true, 8), (true, 9), (true, 10), (false, 5), (false, 11), (true, 12), (true, 13)] (by kernel_rfl) rfl (by kernel_rfl) (by kernel_rfl) (fun _ _ d _ _ h => by cases d <;> exact h) (ext_drew W) ?_
  intro J0 hJ0
  iterate 10 (refine schedC_pure (v := ?_) rfl (by rfl) ?_ ?_; rotate_left; (focus (intro v hC; obtain ⟨⟨x0, x1, x2, x3, x4, x5, x6, x7⟩, ⟨y0, y1, y2, y3, y4, y5, y6, y7⟩⟩ := full16 (keepB hC D.out); go_simp; try with_reducible rfl)); try go_simp)
  refine schedC_eff rfl ?_
  intro J hJ
  go_wp2_with fail
  try rw [← show digV x = .agg #[.int .u8 (byt x 0), .int .u8 (byt x 1), .int .u8 (byt x 2), .int .u8 (byt x 3), .int .u8 (byt x 4), .int .u8 (byt x 5), .int .u8 (byt x 6), .int .u8 (byt x 7)] from rfl]
  refine ((seal_c _ x hx _ _ _ _ (Lib.hid (R1.out.ext (ext_trans B.out (ext_drew W)))) (by omega))).mono ?_
  rintro e w2 ⟨E, A3, n3, c3, rfl, ho, hb⟩
  have CC : Hid (Below W.heap.size W w2) := Lib.hid (ext_trans (ext_drew W) hb)
  obtain rfl : N + 8 = n3 := by rw [← ho.len, S1.out]
  have L3 := ho.rd.le
  have M3 := ho.rd.max
  clear ho
  clear hb
  go_wp2_with fail
  refine ⟨CC.out, ?_⟩
  refine schedC_eff rfl ?_
  intro J hJ
  go_wp2_with fail
  try rw [← show digV y = .agg #[.int .u8 (byt y 0), .int .u8 (byt y 1), .int .u8 (byt y 2), .int .u8 (byt y 3), .int .u8 (byt y 4), .int .u8 (byt y 5), .int .u8 (byt y 6), .int .u8 (byt y 7)] from rfl]
  refine ((seal_c _ y hy _ _ _ _ (Lib.hid (R2.out.ext (ext_trans B.out CC.out))) (by omega))).mono ?_
  rintro e w3 ⟨E2, A4, n4, c4, rfl, ho, hb⟩
  replace CC : Hid (Below W.heap.size W w3) := Lib.hid (ext_trans CC.out hb)
  obtain rfl : N + 8 = n4 := by rw [← ho.len, S2.out]
  have L4 := ho.rd.le
  have M4 := ho.rd.max
  clear ho
  clear hb
  go_wp2_with fail
  refine ⟨CC.out, ?_⟩
  iterate 2 (refine schedC_pure (v := ?_) rfl (by rfl) ?_ ?_; rotate_left; (focus (intro v hC; go_simp; try with_reducible rfl)); try go_simp)
  refine schedC_nil (hJ0 _ _ ?_)
  clear hJ0
  replace B := Lib.hid (ext_trans B.out CC.out)
  clear CC
  go_wp2_with fail
  refine (told_c _).mono ?_
  rintro e w4 ⟨rfl, hb⟩
  replace B := Lib.hid (ext_trans B.out hb)
  clear hb
  go_wp2_with fail
  go_ret
  exact ⟨by simp, B.out⟩
#print axioms walkVeilLengths
end Go.Proofs.Ytdejlahgeckobaa
