/-
  OnceSigns: the walk.
-/
import Derived.Test.YtodkgfmabpkgaaaOKnown
import Derived.Test.YtodkgfmabpkgaaaHOpen
namespace Go.Proofs.Ytodkgfmabpkgaaa
open Go.RowKit

set_option maxRecDepth 100000 in
set_option maxHeartbeats 4000000 in
theorem walkOnceSigns (w : World) (s m : Nat) (hs : s < 18446744073709551616) (_hm : m < 18446744073709551616) :
    Calls Try.prog 7 #[digV s, digV m] w (Holds w) := by
  obtain ⟨SB, hSB⟩ : ∃ x, x = signB s m := ⟨_, rfl⟩
  obtain ⟨PK, hPK⟩ : ∃ x, x = pubN s := ⟨_, rfl⟩
  have TS : Hid (toldR m SB = (PK, true)) := by show _ = _; rw [hSB, hPK]; unfold toldR; rw [if_pos (signB_len s m), told_sign hs]
  have VS : Hid (verR PK m SB = true) := by rw [hSB, hPK]; exact ver_sign hs
  have SL : SB.length = 144 := by rw [hSB]; exact signB_len s m
  have LP : PK < 18446744073709551616 := by rw [hPK]; exact pubN_lt hs
  have HSB := Lib.hid hSB
  have HPK := Lib.hid hPK
  have E1 := eql_d LP LP
  rw [decide_eq_true rfl] at E1
  have G1 := guard_d .eql PK PK
  clear hSB hPK
  unfold digV at E1 G1
  unfold digV
  go_enter Try.func7, Try.ntmps7
  go_upto_region 1 with fail
  generalize hW : World.alloc (World.alloc w (.cells #[.int .u8 (byt s 0), .int .u8 (byt s 1), .int .u8 (byt s 2), .int .u8 (byt s 3), .int .u8 (byt s 4), .int .u8 (byt s 5), .int .u8 (byt s 6), .int .u8 (byt s 7)] 30)) (.cells #[.int .u8 (byt m 0), .int .u8 (byt m 1), .int .u8 (byt m 2), .int .u8 (byt m 3), .int .u8 (byt m 4), .int .u8 (byt m 5), .int .u8 (byt m 6), .int .u8 (byt m 7)] 30) = W
  have DS : Hid (W.heap[w.heap.size]? = some (.cells #[.int .u8 (byt s 0), .int .u8 (byt s 1), .int .u8 (byt s 2), .int .u8 (byt s 3), .int .u8 (byt s 4), .int .u8 (byt s 5), .int .u8 (byt s 6), .int .u8 (byt s 7)] 30 (0, 0))) := by rw [← hW]; exact keepA (Go.heap_alloc_new w _)
  have DM : Hid (W.heap[w.heap.size + 1]? = some (.cells #[.int .u8 (byt m 0), .int .u8 (byt m 1), .int .u8 (byt m 2), .int .u8 (byt m 3), .int .u8 (byt m 4), .int .u8 (byt m 5), .int .u8 (byt m 6), .int .u8 (byt m 7)] 30 (0, 0))) := by rw [← hW]; exact heap_alloc_newest (w := World.alloc _ _) (by simp)
  have B : Hid (Below w.heap.size w W) := by rw [← hW]; exact ext_trans (ext_alloc _ _) (ext_alloc _ _)
  clear hW
  obtain ⟨s0, s1, s2, s3, s4, s5, s6, s7, _, _, _, _, _, _, _, _⟩ := full8 DS.out; obtain ⟨m0, m1, m2, m3, m4, m5, m6, m7, _, _, _, _, _, _, _, _⟩ := full8 DM.out; 
  go_wp2_with fail
  rw [← show digV s = .agg #[.int .u8 (byt s 0), .int .u8 (byt s 1), .int .u8 (byt s 2), .int .u8 (byt s 3), .int .u8 (byt s 4), .int .u8 (byt s 5), .int .u8 (byt s 6), .int .u8 (byt s 7)] from rfl, ← show digV m = .agg #[.int .u8 (byt m 0), .int .u8 (byt m 1), .int .u8 (byt m 2), .int .u8 (byt m 3), .int .u8 (byt m 4), .int .u8 (byt m 5), .int .u8 (byt m 6), .int .u8 (byt m 7)] from rfl]
  refine (sign_c _ s m hs).mono ?_
  rw [← HSB.out]
  unfold Rows8
  rintro e w1 ⟨A, n, c, rfl, hO, hb⟩
  obtain rfl : n = 144 := by have := hO.len; omega
  have RO := Lib.hid hO.rd
  replace DS := Lib.hid (keepB hb DS.out)
  replace DM := Lib.hid (keepB hb DM.out)
  replace B := Lib.hid (ext_trans B.out hb)
  clear hO hb s0 s1 s2 s3 s4 s5 s6 s7 m0 m1 m2 m3 m4 m5 m6 m7
  obtain ⟨m0, m1, m2, m3, m4, m5, m6, m7, _, _, _, _, _, _, _, _⟩ := full8 DM.out; 
  go_wp2_with fail
  rw [← show digV m = .agg #[.int .u8 (byt m 0), .int .u8 (byt m 1), .int .u8 (byt m 2), .int .u8 (byt m 3), .int .u8 (byt m 4), .int .u8 (byt m 5), .int .u8 (byt m 6), .int .u8 (byt m 7)] from rfl]
  refine (told_c _ m A 144 c SB RO).mono ?_
  unfold Tolds
  rw [TS.out]
  unfold digV
  rintro e w2 ⟨rfl, hb⟩
  replace DS := Lib.hid (keepB hb DS.out)
  replace DM := Lib.hid (keepB hb DM.out)
  replace RO := Lib.hid (RO.out.ext hb)
  replace B := Lib.hid (ext_trans B.out hb)
  clear hb m0 m1 m2 m3 m4 m5 m6 m7
  go_wp2_with fail
  have DP : Hid ((World.alloc w2 (.cells #[.int .u8 (byt PK 0), .int .u8 (byt PK 1), .int .u8 (byt PK 2), .int .u8 (byt PK 3), .int .u8 (byt PK 4), .int .u8 (byt PK 5), .int .u8 (byt PK 6), .int .u8 (byt PK 7)] 31)).heap[w2.heap.size]? = some (.cells #[.int .u8 (byt PK 0), .int .u8 (byt PK 1), .int .u8 (byt PK 2), .int .u8 (byt PK 3), .int .u8 (byt PK 4), .int .u8 (byt PK 5), .int .u8 (byt PK 6), .int .u8 (byt PK 7)] 31 (0, 0))) := Go.heap_alloc_new w2 _
  replace DS := Lib.hid (keepA (x := .cells #[.int .u8 (byt PK 0), .int .u8 (byt PK 1), .int .u8 (byt PK 2), .int .u8 (byt PK 3), .int .u8 (byt PK 4), .int .u8 (byt PK 5), .int .u8 (byt PK 6), .int .u8 (byt PK 7)] 31) DS.out)
  replace DM := Lib.hid (keepA (x := .cells #[.int .u8 (byt PK 0), .int .u8 (byt PK 1), .int .u8 (byt PK 2), .int .u8 (byt PK 3), .int .u8 (byt PK 4), .int .u8 (byt PK 5), .int .u8 (byt PK 6), .int .u8 (byt PK 7)] 31) DM.out)
  replace RO := Lib.hid (RO.out.ext (ext_alloc w2 (.cells #[.int .u8 (byt PK 0), .int .u8 (byt PK 1), .int .u8 (byt PK 2), .int .u8 (byt PK 3), .int .u8 (byt PK 4), .int .u8 (byt PK 5), .int .u8 (byt PK 6), .int .u8 (byt PK 7)] 31)))
  replace B := Lib.hid (ext_trans B.out (ext_alloc w2 (.cells #[.int .u8 (byt PK 0), .int .u8 (byt PK 1), .int .u8 (byt PK 2), .int .u8 (byt PK 3), .int .u8 (byt PK 4), .int .u8 (byt PK 5), .int .u8 (byt PK 6), .int .u8 (byt PK 7)] 31)))
  generalize World.alloc w2 (.cells #[.int .u8 (byt PK 0), .int .u8 (byt PK 1), .int .u8 (byt PK 2), .int .u8 (byt PK 3), .int .u8 (byt PK 4), .int .u8 (byt PK 5), .int .u8 (byt PK 6), .int .u8 (byt PK 7)] 31) = V at *
  refine wp_region_schedC (fun v => Below V.heap.size V v) [(false, 0), (true, 1), (true, 2), (true, 3), (true, 4), (true, 5), (true, 6), (true, 7), (true, 8), (true, 9), (true, 10), (true, 11), (false, 12), (true, 13), (true, 14), (true, 15), (true, 16), (true, 17), (true, 18), (false, 19), (true, 20), (true, 21)] (by kernel_rfl) rfl (by kernel_rfl) (by kernel_rfl) (fun _ _ d _ _ h => by cases d <;> exact h) (ext_drew V) ?_
  intro J0 hJ0
  refine schedC_eff rfl ?_
  intro J hJ
  go_wp2_with fail
  refine (known_c _).mono ?_
  try unfold digV
  rintro e w3 ⟨rfl, hb⟩
  have CC : Hid (Below V.heap.size V w3) := Lib.hid (ext_trans (ext_drew V) hb)
  clear hb
  go_wp2_with fail
  refine ⟨CC.out, ?_⟩
  iterate 11 (refine schedC_pure (v := ?_) rfl (by rfl) ?_ ?_; rotate_left; (focus (intro v hC; obtain ⟨s0, s1, s2, s3, s4, s5, s6, s7, _, _, _, _, _, _, _, _⟩ := full8 (keepB hC DS.out); obtain ⟨m0, m1, m2, m3, m4, m5, m6, m7, _, _, _, _, _, _, _, _⟩ := full8 (keepB hC DM.out); obtain ⟨p0, p1, p2, p3, p4, p5, p6, p7, _, _, _, _, _, _, _, _⟩ := full8 (keepB hC DP.out); go_simp; try with_reducible rfl)); try go_simp)
  refine schedC_eff rfl ?_
  intro J hJ
  go_wp2_with fail
  refine (public_c _ s hs).mono ?_
  rw [← HPK.out]
  try unfold digV
  rintro e w4 ⟨rfl, hb⟩
  replace CC : Hid (Below V.heap.size V w4) := Lib.hid (ext_trans CC.out hb)
  clear hb
  go_wp2_with fail
  refine ⟨CC.out, ?_⟩
  iterate 6 (refine schedC_pure (v := ?_) rfl (by rfl) ?_ ?_; rotate_left; (focus (intro v hC; obtain ⟨s0, s1, s2, s3, s4, s5, s6, s7, _, _, _, _, _, _, _, _⟩ := full8 (keepB hC DS.out); obtain ⟨m0, m1, m2, m3, m4, m5, m6, m7, _, _, _, _, _, _, _, _⟩ := full8 (keepB hC DM.out); obtain ⟨p0, p1, p2, p3, p4, p5, p6, p7, _, _, _, _, _, _, _, _⟩ := full8 (keepB hC DP.out); go_simp; try with_reducible rfl)); try go_simp)
  refine schedC_eff rfl ?_
  intro J hJ
  go_wp2_with fail
  refine (verify_c _ PK m LP A 144 c SB (Lib.hid (RO.out.ext CC.out))).mono ?_
  rw [VS.out]
  try unfold digV
  rintro e w5 ⟨rfl, hb⟩
  replace CC : Hid (Below V.heap.size V w5) := Lib.hid (ext_trans CC.out hb)
  clear hb
  go_wp2_with fail
  refine ⟨CC.out, ?_⟩
  iterate 2 (refine schedC_pure (v := ?_) rfl (by rfl) ?_ ?_; rotate_left; (focus (intro v hC; obtain ⟨s0, s1, s2, s3, s4, s5, s6, s7, _, _, _, _, _, _, _, _⟩ := full8 (keepB hC DS.out); obtain ⟨m0, m1, m2, m3, m4, m5, m6, m7, _, _, _, _, _, _, _, _⟩ := full8 (keepB hC DM.out); obtain ⟨p0, p1, p2, p3, p4, p5, p6, p7, _, _, _, _, _, _, _, _⟩ := full8 (keepB hC DP.out); go_simp; try with_reducible rfl)); try go_simp)
  refine schedC_nil (hJ0 _ _ ?_)
  clear hJ0
  go_wp2_with fail
  go_ret
  exact ⟨rfl, ext_trans B.out CC.out⟩
#print axioms walkOnceSigns
end Go.Proofs.Ytodkgfmabpkgaaa
