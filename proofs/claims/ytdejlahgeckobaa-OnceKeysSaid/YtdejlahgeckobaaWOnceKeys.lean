/-
  OnceKeys: the walk.
-/
import Derived.Test.YtdejlahgeckobaaORSign
import Derived.Test.YtdejlahgeckobaaHOpen
namespace Go.Proofs.Ytdejlahgeckobaa
open Go.RowKit

set_option maxRecDepth 100000 in
set_option maxHeartbeats 4000000 in
theorem walkOnceKeys (w : World) (s m : Nat) (hs : s < 18446744073709551616) (_hm : m < 18446744073709551616) :
    Calls Try.prog 5 #[digV s, digV m] w (Holds w) := by
  obtain ⟨SB, hSB⟩ : ∃ x, x = signB s m := ⟨_, rfl⟩
  obtain ⟨PK, hPK⟩ : ∃ x, x = pubN s := ⟨_, rfl⟩
  obtain ⟨V, hV⟩ : ∃ x, x = digV18 m := ⟨_, rfl⟩
  have SL : SB.length = 144 := by rw [hSB]; exact signB_len s m
  have LP : PK < 18446744073709551616 := by rw [hPK]; exact pubN_lt hs
  have E18 : ∀ w : World, (binOp .eql 42 V V).run Try.prog w = .ok (.bool true) w := by rw [hV]; exact eql_18 (A := digA18 m) (B := digA18 m) (digA18_both m)
  have G18 : ∀ (x y : Operand) (w : World), (eqGuard .eql 42 x y V V).run Try.prog w = .ok () w := by rw [hV]; exact fun x y w => run_eqGuard_agg w .eql _ x y (digA18 m) (digA18 m) (by kernel_rfl)
  have HSB := Lib.hid hSB
  have HPK := Lib.hid hPK
  have HVV := Lib.hid hV
  have E1 := eql_d LP LP
  rw [decide_eq_true rfl] at E1
  have G1 := guard_d .eql PK PK
  clear hSB hPK hV
  unfold digV at E1 G1
  unfold digV
  go_enter Try.func5, Try.ntmps5
  go_upto_region 1 with fail
  generalize hW : World.alloc (World.alloc w (.cells #[.int .u8 (byt s 0), .int .u8 (byt s 1), .int .u8 (byt s 2), .int .u8 (byt s 3), .int .u8 (byt s 4), .int .u8 (byt s 5), .int .u8 (byt s 6), .int .u8 (byt s 7)] 30)) (.cells #[.int .u8 (byt m 0), .int .u8 (byt m 1), .int .u8 (byt m 2), .int .u8 (byt m 3), .int .u8 (byt m 4), .int .u8 (byt m 5), .int .u8 (byt m 6), .int .u8 (byt m 7)] 30) = W
  have DS : Hid (W.heap[w.heap.size]? = some (.cells #[.int .u8 (byt s 0), .int .u8 (byt s 1), .int .u8 (byt s 2), .int .u8 (byt s 3), .int .u8 (byt s 4), .int .u8 (byt s 5), .int .u8 (byt s 6), .int .u8 (byt s 7)] 30 (0, 0))) := by rw [← hW]; exact keepA (Go.heap_alloc_new w _)
  have DM : Hid (W.heap[w.heap.size + 1]? = some (.cells #[.int .u8 (byt m 0), .int .u8 (byt m 1), .int .u8 (byt m 2), .int .u8 (byt m 3), .int .u8 (byt m 4), .int .u8 (byt m 5), .int .u8 (byt m 6), .int .u8 (byt m 7)] 30 (0, 0))) := by rw [← hW]; exact heap_alloc_newest (w := World.alloc _ _) (by simp)
  have B : Hid (Below w.heap.size w W) := by rw [← hW]; exact ext_trans (ext_alloc _ _) (ext_alloc _ _)
  clear hW
  refine wp_region_schedC (fun v => Below W.heap.size W v) [(false, 0), (true, 1), (true, 2), (true, 4), (false, 3), (false, 5), (true, 6), (true, 7), (true, 8), (true, 9), (true, 10), (true, 12), (true, 13), (false, 11), (false, 14), (false, 15), (true, 16), (true, 17), (true, 18), (true, 20), (false, 19), (false, 21), (true, 22), (true, 23), (true, 24)] (by kernel_rfl) rfl (by kernel_rfl) (by kernel_rfl) (fun _ _ d _ _ h => by cases d <;> exact h) (ext_drew W) ?_
  intro J0 hJ0
  refine schedC_eff rfl ?_
  intro J hJ
  go_wp2_with fail
  refine (known_c _).mono ?_
  try unfold digV
  rintro e w1 ⟨rfl, hb⟩
  have CC : Hid (Below W.heap.size W w1) := Lib.hid (ext_trans (ext_drew W) hb)
  clear hb
  go_wp2_with fail
  refine ⟨CC.out, ?_⟩
  iterate 3 (refine schedC_pure (v := ?_) rfl (by rfl) ?_ ?_; rotate_left; (focus (intro v hC; obtain ⟨s0, s1, s2, s3, s4, s5, s6, s7, _, _, _, _, _, _, _, _⟩ := full8 (keepB hC DS.out); obtain ⟨m0, m1, m2, m3, m4, m5, m6, m7, _, _, _, _, _, _, _, _⟩ := full8 (keepB hC DM.out); go_simp; try with_reducible rfl)); try go_simp)
  refine schedC_eff rfl ?_
  intro J hJ
  go_wp2_with fail
  refine (public_c _ s hs).mono ?_
  rw [← HPK.out]
  try unfold digV
  rintro e w2 ⟨rfl, hb⟩
  replace CC : Hid (Below W.heap.size W w2) := Lib.hid (ext_trans CC.out hb)
  clear hb
  go_wp2_with fail
  refine ⟨CC.out, ?_⟩
  refine schedC_eff rfl ?_
  intro J hJ
  go_wp2_with fail
  refine (rpublic_c _ s hs).mono ?_
  rw [← HPK.out]
  try unfold digV
  rintro e w3 ⟨rfl, hb⟩
  replace CC : Hid (Below W.heap.size W w3) := Lib.hid (ext_trans CC.out hb)
  clear hb
  go_wp2_with fail
  refine ⟨CC.out, ?_⟩
  iterate 7 (refine schedC_pure (v := ?_) rfl (by rfl) ?_ ?_; rotate_left; (focus (intro v hC; obtain ⟨s0, s1, s2, s3, s4, s5, s6, s7, _, _, _, _, _, _, _, _⟩ := full8 (keepB hC DS.out); obtain ⟨m0, m1, m2, m3, m4, m5, m6, m7, _, _, _, _, _, _, _, _⟩ := full8 (keepB hC DM.out); go_simp; try with_reducible rfl)); try go_simp)
  refine schedC_eff rfl ?_
  intro J hJ
  go_wp2_with fail
  refine (sign_c _ s m hs).mono ?_
  rw [← HSB.out]
  try unfold digV
  rintro e w4 ⟨A1, n1, c1, rfl, hO, hb⟩
  replace CC : Hid (Below W.heap.size W w4) := Lib.hid (ext_trans CC.out hb)
  obtain rfl : n1 = 144 := by have := hO.len; omega
  have R1 := Lib.hid hO.rd
  clear hO
  clear hb
  go_wp2_with fail
  refine ⟨CC.out, ?_⟩
  refine schedC_eff rfl ?_
  intro J hJ
  go_wp2_with fail
  refine (rsign_c _ s m hs).mono ?_
  rw [← HSB.out]
  try unfold digV
  rintro e w5 ⟨A2, n2, c2, rfl, hO, hb⟩
  replace CC : Hid (Below W.heap.size W w5) := Lib.hid (ext_trans CC.out hb)
  obtain rfl : n2 = 144 := by have := hO.len; omega
  have R2 := Lib.hid hO.rd
  replace R1 := Lib.hid (R1.out.ext hb)
  clear hO
  clear hb
  go_wp2_with fail
  refine ⟨CC.out, ?_⟩
  refine schedC_eff rfl ?_
  intro J hJ
  go_wp2_with fail
  refine (same_yes _ A1 144 c1 SB R1.out A2 c2 R2.out).mono ?_
  try unfold digV
  rintro e w6 ⟨rfl, hb⟩
  replace CC : Hid (Below W.heap.size W w6) := Lib.hid (ext_trans CC.out hb)
  clear hb
  go_wp2_with fail
  refine ⟨CC.out, ?_⟩
  iterate 4 (refine schedC_pure (v := ?_) rfl (by rfl) ?_ ?_; rotate_left; (focus (intro v hC; obtain ⟨s0, s1, s2, s3, s4, s5, s6, s7, _, _, _, _, _, _, _, _⟩ := full8 (keepB hC DS.out); obtain ⟨m0, m1, m2, m3, m4, m5, m6, m7, _, _, _, _, _, _, _, _⟩ := full8 (keepB hC DM.out); go_simp; try with_reducible rfl)); try go_simp)
  refine schedC_eff rfl ?_
  intro J hJ
  go_wp2_with fail
  refine (reach_c _ m).mono ?_
  rw [← HVV.out]
  rintro e w7 ⟨rfl, hb⟩
  replace CC : Hid (Below W.heap.size W w7) := Lib.hid (ext_trans CC.out hb)
  clear hb
  go_wp2_with fail
  refine ⟨CC.out, ?_⟩
  refine schedC_eff rfl ?_
  intro J hJ
  go_wp2_with fail
  refine (rdigits_c _ m).mono ?_
  rw [← HVV.out]
  rintro e w8 ⟨rfl, hb⟩
  replace CC : Hid (Below W.heap.size W w8) := Lib.hid (ext_trans CC.out hb)
  clear hb
  go_wp2_with fail
  refine ⟨CC.out, ?_⟩
  iterate 3 (refine schedC_pure (v := ?_) rfl (by rfl) ?_ ?_; rotate_left; (focus (intro v hC; go_simp; try with_reducible rfl)); try go_simp)
  refine schedC_nil (hJ0 _ _ ?_)
  clear hJ0
  go_wp2_with fail
  go_ret
  exact ⟨rfl, ext_trans B.out CC.out⟩
#print axioms walkOnceKeys
end Go.Proofs.Ytdejlahgeckobaa
