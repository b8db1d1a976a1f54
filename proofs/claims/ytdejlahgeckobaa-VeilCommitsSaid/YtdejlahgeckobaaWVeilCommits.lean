/-
  VeilCommits: the walk.
-/
import Derived.Test.YtdejlahgeckobaaVTold
import Derived.Test.YtdejlahgeckobaaHOpen
namespace Go.Proofs.Ytdejlahgeckobaa
open Go.RowKit

set_option maxRecDepth 100000 in
set_option maxHeartbeats 4000000 in
theorem walkVeilCommits (w : World) (s : Nat) (A : Option Addr) (n c : Nat) (bs : List UInt8) (x : Nat) (hs : s < 18446744073709551616) (h0 : Rd w A n c bs) (hx : x < 18446744073709551616) :
    Calls Try.prog 7 #[digV s, .slice A n c, digV x] w (Holds w) := by
  have h := Lib.hid h0
  clear h0
  have hle := h.out.le
  have hmax := h.out.max
  obtain ⟨m, hm⟩ : ∃ m, m = min n 300 := ⟨_, rfl⟩
  have m3 : m ≤ 300 := by omega
  have mn : m ≤ n := by omega
  have RM : Hid (Rd w A m c (bs.take m)) := h.out.front mn
  obtain ⟨ms, hms⟩ : ∃ l, l = bs.take m := ⟨_, rfl⟩
  rw [← hms] at RM
  have mI : (m : Int) ≤ (c : Int) := by omega
  obtain ⟨y, hy⟩ : ∃ y, y = commitN s ms := ⟨_, rfl⟩
  have Ly : y < 18446744073709551616 := by rw [hy]; exact commitN_lt hs
  have HY : Hid (commitN s ms = y) := hy.symm
  have HM := Lib.hid hm
  clear hms hy hm
  have E1 := eql_d Ly Ly
  rw [decide_eq_true rfl] at E1
  have G1 := guard_d .eql y y
  have E2 := eql_d hx Ly
  have G2 := guard_d .eql x y
  obtain ⟨q, hq⟩ : ∃ q, q = decide (x = y) := ⟨_, rfl⟩
  rw [← hq] at E2
  have HQ : Hid (decide (x = y) = q) := hq.symm
  have QQ : (q == q) = true := by simp
  clear hq
  unfold digV at E1 G1 E2 G2
  unfold digV
  go_enter Try.func7, Try.ntmps7
  go_wp2_with fail
  generalize hW : World.alloc (World.alloc w (.cells #[.int .u8 (byt s 0), .int .u8 (byt s 1), .int .u8 (byt s 2), .int .u8 (byt s 3), .int .u8 (byt s 4), .int .u8 (byt s 5), .int .u8 (byt s 6), .int .u8 (byt s 7)] 31)) (.cells #[.int .u8 (byt x 0), .int .u8 (byt x 1), .int .u8 (byt x 2), .int .u8 (byt x 3), .int .u8 (byt x 4), .int .u8 (byt x 5), .int .u8 (byt x 6), .int .u8 (byt x 7)] 31) = W
  have DS : Hid (W.heap[w.heap.size]? = some (.cells #[.int .u8 (byt s 0), .int .u8 (byt s 1), .int .u8 (byt s 2), .int .u8 (byt s 3), .int .u8 (byt s 4), .int .u8 (byt s 5), .int .u8 (byt s 6), .int .u8 (byt s 7)] 31 (0, 0))) := by rw [← hW]; exact keepA (Go.heap_alloc_new w _)
  have DX : Hid (W.heap[w.heap.size + 1]? = some (.cells #[.int .u8 (byt x 0), .int .u8 (byt x 1), .int .u8 (byt x 2), .int .u8 (byt x 3), .int .u8 (byt x 4), .int .u8 (byt x 5), .int .u8 (byt x 6), .int .u8 (byt x 7)] 31 (0, 0))) := by rw [← hW]; exact heap_alloc_newest (w := World.alloc _ _) (by simp)
  have B : Hid (Below w.heap.size w W) := by rw [← hW]; exact ext_trans (ext_alloc _ _) (ext_alloc _ _)
  clear hW
  refine (few_c W A n c bs (Lib.hid (h.out.ext B.out))).mono ?_
  rw [← HM.out]
  rintro e w1 ⟨rfl, rfl⟩
  obtain ⟨s0, s1, s2, s3, s4, s5, s6, s7, _, _, _, _, _, _, _, _⟩ := full8 DS.out; 
  go_wp2_with fail
  refine (rcommit_s W s hs A m c ms (Lib.hid (RM.out.ext B.out)) (by omega)).mono ?_
  rw [HY.out]
  unfold digV
  rintro e w1 ⟨rfl, hb⟩
  replace DS := Lib.hid (keepB hb DS.out)
  replace DX := Lib.hid (keepB hb DX.out)
  replace B := Lib.hid (ext_trans B.out hb)
  clear hb s0 s1 s2 s3 s4 s5 s6 s7
  go_wp2_with fail
  have DY : Hid ((World.alloc w1 (.cells #[.int .u8 (byt y 0), .int .u8 (byt y 1), .int .u8 (byt y 2), .int .u8 (byt y 3), .int .u8 (byt y 4), .int .u8 (byt y 5), .int .u8 (byt y 6), .int .u8 (byt y 7)] 30)).heap[w1.heap.size]? = some (.cells #[.int .u8 (byt y 0), .int .u8 (byt y 1), .int .u8 (byt y 2), .int .u8 (byt y 3), .int .u8 (byt y 4), .int .u8 (byt y 5), .int .u8 (byt y 6), .int .u8 (byt y 7)] 30 (0, 0))) := Go.heap_alloc_new w1 _
  replace DS := Lib.hid (keepA (x := .cells #[.int .u8 (byt y 0), .int .u8 (byt y 1), .int .u8 (byt y 2), .int .u8 (byt y 3), .int .u8 (byt y 4), .int .u8 (byt y 5), .int .u8 (byt y 6), .int .u8 (byt y 7)] 30) DS.out)
  replace DX := Lib.hid (keepA (x := .cells #[.int .u8 (byt y 0), .int .u8 (byt y 1), .int .u8 (byt y 2), .int .u8 (byt y 3), .int .u8 (byt y 4), .int .u8 (byt y 5), .int .u8 (byt y 6), .int .u8 (byt y 7)] 30) DX.out)
  replace B := Lib.hid (ext_trans B.out (ext_alloc w1 (.cells #[.int .u8 (byt y 0), .int .u8 (byt y 1), .int .u8 (byt y 2), .int .u8 (byt y 3), .int .u8 (byt y 4), .int .u8 (byt y 5), .int .u8 (byt y 6), .int .u8 (byt y 7)] 30)))
  generalize World.alloc w1 (.cells #[.int .u8 (byt y 0), .int .u8 (byt y 1), .int .u8 (byt y 2), .int .u8 (byt y 3), .int .u8 (byt y 4), .int .u8 (byt y 5), .int .u8 (byt y 6), .int .u8 (byt y 7)] 30) = V at *
  refine wp_region_schedC (fun v => Below V.heap.size V v) [(false, 0), (true, 1), (true, 2), (true, 3), (true, 5), (false, 4), (true, 6), (true, 7), (true, 8), (true, 9), (true, 10), (true, 11), (false, 12), (true, 13), (true, 14), (true, 15), (true, 16), (true, 17), (true, 19), (true, 20), (true, 21), (false, 18), (true, 22), (true, 23), (true, 24)] (by kernel_rfl) rfl (by kernel_rfl) (by kernel_rfl) (fun _ _ d _ _ h => by cases d <;> exact h) (ext_drew V) ?_
  intro J0 hJ0
  refine schedC_eff rfl ?_
  intro J hJ
  go_wp2_with fail
  refine (told_c _).mono ?_
  try unfold digV
  rintro e w2 ⟨rfl, hb⟩
  have CC : Hid (Below V.heap.size V w2) := Lib.hid (ext_trans (ext_drew V) hb)
  clear hb
  go_wp2_with fail
  refine ⟨CC.out, ?_⟩
  iterate 4 (refine schedC_pure (v := ?_) rfl (by rfl) ?_ ?_; rotate_left; (focus (intro v hC; obtain ⟨s0, s1, s2, s3, s4, s5, s6, s7, _, _, _, _, _, _, _, _⟩ := full8 (keepB hC DS.out); obtain ⟨x0, x1, x2, x3, x4, x5, x6, x7, _, _, _, _, _, _, _, _⟩ := full8 (keepB hC DX.out); obtain ⟨y0, y1, y2, y3, y4, y5, y6, y7, _, _, _, _, _, _, _, _⟩ := full8 (keepB hC DY.out); go_simp; try with_reducible rfl)); try go_simp)
  refine schedC_eff rfl ?_
  intro J hJ
  go_wp2_with fail
  refine (commit_c _ s hs _ _ _ _ (Lib.hid (RM.out.ext (ext_trans B.out CC.out))) (by omega)).mono ?_
  rw [HY.out]
  try unfold digV
  rintro e w3 ⟨rfl, hb⟩
  replace CC : Hid (Below V.heap.size V w3) := Lib.hid (ext_trans CC.out hb)
  clear hb
  go_wp2_with fail
  refine ⟨CC.out, ?_⟩
  iterate 6 (refine schedC_pure (v := ?_) rfl (by rfl) ?_ ?_; rotate_left; (focus (intro v hC; obtain ⟨s0, s1, s2, s3, s4, s5, s6, s7, _, _, _, _, _, _, _, _⟩ := full8 (keepB hC DS.out); obtain ⟨x0, x1, x2, x3, x4, x5, x6, x7, _, _, _, _, _, _, _, _⟩ := full8 (keepB hC DX.out); obtain ⟨y0, y1, y2, y3, y4, y5, y6, y7, _, _, _, _, _, _, _, _⟩ := full8 (keepB hC DY.out); go_simp; try with_reducible rfl)); try go_simp)
  refine schedC_eff rfl ?_
  intro J hJ
  go_wp2_with fail
  refine (opens_c _ y s Ly hs _ _ _ _ (Lib.hid (RM.out.ext (ext_trans B.out CC.out))) (by omega)).mono ?_
  rw [HY.out, decide_eq_true (show m ≤ 65536 by omega), decide_eq_true rfl, Bool.true_and]
  try unfold digV
  rintro e w4 ⟨rfl, hb⟩
  replace CC : Hid (Below V.heap.size V w4) := Lib.hid (ext_trans CC.out hb)
  clear hb
  go_wp2_with fail
  refine ⟨CC.out, ?_⟩
  iterate 5 (refine schedC_pure (v := ?_) rfl (by rfl) ?_ ?_; rotate_left; (focus (intro v hC; obtain ⟨s0, s1, s2, s3, s4, s5, s6, s7, _, _, _, _, _, _, _, _⟩ := full8 (keepB hC DS.out); obtain ⟨x0, x1, x2, x3, x4, x5, x6, x7, _, _, _, _, _, _, _, _⟩ := full8 (keepB hC DX.out); obtain ⟨y0, y1, y2, y3, y4, y5, y6, y7, _, _, _, _, _, _, _, _⟩ := full8 (keepB hC DY.out); go_simp; try with_reducible rfl)); try go_simp)
  iterate 2 (refine schedC_pure (v := ?_) rfl (by rfl) ?_ ?_; rotate_left; (focus (intro v hC; obtain ⟨s0, s1, s2, s3, s4, s5, s6, s7, _, _, _, _, _, _, _, _⟩ := full8 (keepB hC DS.out); obtain ⟨x0, x1, x2, x3, x4, x5, x6, x7, _, _, _, _, _, _, _, _⟩ := full8 (keepB hC DX.out); obtain ⟨y0, y1, y2, y3, y4, y5, y6, y7, _, _, _, _, _, _, _, _⟩ := full8 (keepB hC DY.out); go_simp; try with_reducible rfl)); try go_simp)
  iterate 1 (refine schedC_pure (v := ?_) rfl (by rfl) ?_ ?_; rotate_left; (focus (intro v hC; obtain ⟨s0, s1, s2, s3, s4, s5, s6, s7, _, _, _, _, _, _, _, _⟩ := full8 (keepB hC DS.out); obtain ⟨x0, x1, x2, x3, x4, x5, x6, x7, _, _, _, _, _, _, _, _⟩ := full8 (keepB hC DX.out); obtain ⟨y0, y1, y2, y3, y4, y5, y6, y7, _, _, _, _, _, _, _, _⟩ := full8 (keepB hC DY.out); go_simp; try with_reducible rfl)); try go_simp)
  refine schedC_eff rfl ?_
  intro J hJ
  go_wp2_with fail
  refine (opens_c _ x s hx hs _ _ _ _ (Lib.hid (RM.out.ext (ext_trans B.out CC.out))) (by omega)).mono ?_
  rw [HY.out, decide_eq_true (show m ≤ 65536 by omega), HQ.out, Bool.true_and]
  try unfold digV
  rintro e w5 ⟨rfl, hb⟩
  replace CC : Hid (Below V.heap.size V w5) := Lib.hid (ext_trans CC.out hb)
  clear hb
  go_wp2_with fail
  refine ⟨CC.out, ?_⟩
  iterate 3 (refine schedC_pure (v := ?_) rfl (by rfl) ?_ ?_; rotate_left; (focus (intro v hC; obtain ⟨s0, s1, s2, s3, s4, s5, s6, s7, _, _, _, _, _, _, _, _⟩ := full8 (keepB hC DS.out); obtain ⟨x0, x1, x2, x3, x4, x5, x6, x7, _, _, _, _, _, _, _, _⟩ := full8 (keepB hC DX.out); obtain ⟨y0, y1, y2, y3, y4, y5, y6, y7, _, _, _, _, _, _, _, _⟩ := full8 (keepB hC DY.out); go_simp; try with_reducible rfl)); try go_simp)
  refine schedC_nil (hJ0 _ _ ?_)
  clear hJ0
  go_wp2_with fail
  go_ret
  exact ⟨rfl, ext_trans B.out CC.out⟩
#print axioms walkVeilCommits
end Go.Proofs.Ytdejlahgeckobaa
