/-
  VeilLong: the walk.
-/
import Derived.Test.YtdejlahgeckobaaVTold
import Derived.Test.YtdejlahgeckobaaHOpen
namespace Go.Proofs.Ytdejlahgeckobaa
open Go.RowKit

theorem U8_rep (n : Nat) : U8 (List.replicate n 0) = List.replicate n (Value.int .u8 0) := by simp [U8]
theorem and7 (x : Int) : ∃ r : Nat, r < 8 ∧ bits BinOp.and IntKind.i64 x 7 = (r : Int) := by
  refine ⟨(x % 18446744073709551616).toNat % 8, Nat.mod_lt _ (by omega), ?_⟩
  have e : (x % 18446744073709551616).toNat &&& 7 = (x % 18446744073709551616).toNat % 8 := Nat.and_two_pow_sub_one_eq_mod _ 3
  have l : (x % 18446744073709551616).toNat % 8 < 8 := Nat.mod_lt _ (by omega)
  rw [← e] at l ⊢
  simp [bits]
  rw [show IntKind.i64.bits = 64 from rfl, show (7 % 2 ^ 64 : Nat) = 7 from rfl, show ((2 : Int) ^ 64) = 18446744073709551616 from rfl]
  exact IntWalk.i64_in _ (by omega)

set_option maxRecDepth 100000 in
set_option maxHeartbeats 4000000 in
theorem walkVeilLong (w : World) (k : Nat) (more : Int) (hk : k < 18446744073709551616) (_ : -9223372036854775808 ≤ more) (_ : more < 9223372036854775808) :
    Calls Try.prog 13 #[digV k, .int .i64 more] w (Holds w) := by
  obtain ⟨U, hU⟩ : ∃ U : Nat, IntKind.u64.wrap more = (U : Int) := ⟨(IntKind.u64.wrap more).toNat, by rw [IntKind.wrap_u64]; omega⟩
  obtain ⟨r, hr, er⟩ : ∃ r : Nat, r < 12 ∧ (U : Int) % 12 = (r : Int) := ⟨U % 12, Nat.mod_lt _ (by omega), by omega⟩
  obtain ⟨N, hN⟩ : ∃ N, N = 65530 + r := ⟨_, rfl⟩
  have eN : (65530 : Int) + (r : Int) = (N : Int) := by omega
  have N1 : 65530 ≤ N := by omega
  have N2 : N ≤ 65541 := by omega
  have w8 : IntKind.i64.wrap ((N : Int) + 8) = (N : Int) + 8 := IntWalk.i64_in _ (by omega)
  obtain ⟨r7, hr7, e7⟩ := and7 more
  have HZ7 : Hid (openR k (List.replicate r7 0) = ([], 4)) := by show _ = _; unfold openR; rw [if_pos (by rw [List.length_replicate]; omega)]
  clear hN
  by_cases hbig : 65536 < N
  · have hS : sealR k (List.replicate N 0) = [] := by unfold sealR; rw [if_neg (by rw [List.length_replicate]; omega)]
    have hC : commitN k (List.replicate N 0) = 0 := by unfold commitN; rw [if_neg (by rw [List.length_replicate]; omega)]
    have hp : openR k (List.replicate (N + 8) 0) = ([], 2) := by unfold openR; rw [if_neg (by rw [List.length_replicate]; omega), if_pos (by rw [List.length_replicate]; omega)]
    have gN : (65536 : Int) < (N : Int) := by omega
    have gN2 : ¬ (N : Int) ≤ 65536 := by omega
    obtain ⟨S, LS, hS2, hLS, hz⟩ : ∃ (S : List UInt8) (LS : Nat), sealR k (List.replicate N 0) = S ∧ S.length = LS ∧ LS = 0 := ⟨_, _, rfl, rfl, by rw [hS]; rfl⟩
    obtain ⟨p1, p2, hpp, hp2⟩ : ∃ p1 p2, openR k (List.replicate (N + 8) 0) = (p1, p2) ∧ p2 = 2 := ⟨_, _, hp, rfl⟩
    obtain ⟨y, hy⟩ : ∃ y, y = commitN k (List.replicate N 0) := ⟨_, rfl⟩
    have Ly : y < 18446744073709551616 := by rw [hy]; exact commitN_lt hk
    have EQ := eql_d Ly (show 0 < 18446744073709551616 by omega)
    rw [decide_eq_true (show y = 0 by rw [hy, hC]), digV0] at EQ
    have GD := guard_d .eql y 0
    rw [digV0] at GD
    unfold digV at EQ GD
    have HS := Lib.hid hS2
    have HP := Lib.hid hpp
    have HY : Hid (commitN k (List.replicate N 0) = y) := hy.symm
    have HLS := Lib.hid hLS
    have HZ := Lib.hid hz
    have HP2 := Lib.hid hp2
    clear hS hp hS2 hLS hz hpp hp2 hy
    obtain ⟨i0, hi, hz0, hz1, hz2⟩ := info_parts infoU8
    have HI := Lib.hid hi
    have HZ0 := Lib.hid hz0
    have HZ1 := Lib.hid hz1
    have HZ2 := Lib.hid hz2
    clear hi hz0 hz1 hz2
    unfold digV
    go_enter Try.func13, Try.ntmps13
    go_upto_region 1 with fail
    have DK : Hid ((World.alloc w (.cells #[.int .u8 (byt k 0), .int .u8 (byt k 1), .int .u8 (byt k 2), .int .u8 (byt k 3), .int .u8 (byt k 4), .int .u8 (byt k 5), .int .u8 (byt k 6), .int .u8 (byt k 7)] 31)).heap[w.heap.size]? = some (.cells #[.int .u8 (byt k 0), .int .u8 (byt k 1), .int .u8 (byt k 2), .int .u8 (byt k 3), .int .u8 (byt k 4), .int .u8 (byt k 5), .int .u8 (byt k 6), .int .u8 (byt k 7)] 31 (0, 0))) := Go.heap_alloc_new w _
    have B : Hid (Below w.heap.size w (World.alloc w (.cells #[.int .u8 (byt k 0), .int .u8 (byt k 1), .int .u8 (byt k 2), .int .u8 (byt k 3), .int .u8 (byt k 4), .int .u8 (byt k 5), .int .u8 (byt k 6), .int .u8 (byt k 7)] 31))) := ext_alloc _ _
    generalize World.alloc w (.cells #[.int .u8 (byt k 0), .int .u8 (byt k 1), .int .u8 (byt k 2), .int .u8 (byt k 3), .int .u8 (byt k 4), .int .u8 (byt k 5), .int .u8 (byt k 6), .int .u8 (byt k 7)] 31) = W at *
    go_wp2_with (refine wpList_make_any (o := ⟨some 19, _, _, _, _, _⟩) _ rfl (.tmp 18) (.tmp 18) 22 rfl W.heap.size 5 i0 (.int .u8 0) Try.underlying22 HI.out HZ0.out HZ1.out rfl 1 HZ2.out .i64 .i64 _ _ (N) (N) (by rfl) (by rfl) rfl rfl (Nat.le_refl _) (by omega) (by omega) (by first | exact Nat.le_refl _ | simp) ?_; intro wm hrow hgr; have O1 : Hid (Own wm 5 W.heap.size (some ⟨W.heap.size, 0, none⟩) N N (List.replicate N 0)) := ⟨List.length_replicate, by omega, by rw [U8_rep]; exact hrow⟩; have hb := below_grown (Below.refl W.heap.size W) (Nat.le_refl _) hgr (fun k hk => by cases hk); replace DK := Lib.hid (keepB hb DK.out); replace B := Lib.hid (ext_trans B.out hb); clear hrow hgr hb; obtain ⟨k0, k1, k2, k3, k4, k5, k6, k7, _, _, _, _, _, _, _, _⟩ := full8 DK.out; go_simp)
    try rw [← show digV k = .agg #[.int .u8 (byt k 0), .int .u8 (byt k 1), .int .u8 (byt k 2), .int .u8 (byt k 3), .int .u8 (byt k 4), .int .u8 (byt k 5), .int .u8 (byt k 6), .int .u8 (byt k 7)] from rfl]
    refine (seal_c wm k hk _ _ _ (List.replicate N 0) (Lib.hid O1.out.rd) (by omega)).mono ?_
    rw [HS.out]
    rintro e w2 ⟨E, A2, n2, c2, rfl, ho, hb⟩
    obtain rfl : LS = n2 := by rw [← ho.len, HLS.out]
    have le2 := ho.rd.le
    have mx2 := ho.max
    replace DK := Lib.hid (keepB hb DK.out)
    replace O1 := Lib.hid (O1.out.ext hb)
    replace B := Lib.hid (ext_trans B.out hb)
    clear ho hb k0 k1 k2 k3 k4 k5 k6 k7
    obtain ⟨k0, k1, k2, k3, k4, k5, k6, k7, _, _, _, _, _, _, _, _⟩ := full8 DK.out; 
    go_wp2_with fail
    try rw [← show digV k = .agg #[.int .u8 (byt k 0), .int .u8 (byt k 1), .int .u8 (byt k 2), .int .u8 (byt k 3), .int .u8 (byt k 4), .int .u8 (byt k 5), .int .u8 (byt k 6), .int .u8 (byt k 7)] from rfl]
    refine (commit_c w2 k hk _ _ _ (List.replicate N 0) (Lib.hid O1.out.rd) (by omega)).mono ?_
    rw [HY.out]
    unfold digV
    rintro e w3 ⟨rfl, hb⟩
    replace DK := Lib.hid (keepB hb DK.out)
    replace O1 := Lib.hid (O1.out.ext hb)
    replace B := Lib.hid (ext_trans B.out hb)
    clear hb k0 k1 k2 k3 k4 k5 k6 k7
    go_wp2_with fail
    have DY : Hid ((World.alloc w3 (.cells #[.int .u8 (byt y 0), .int .u8 (byt y 1), .int .u8 (byt y 2), .int .u8 (byt y 3), .int .u8 (byt y 4), .int .u8 (byt y 5), .int .u8 (byt y 6), .int .u8 (byt y 7)] 31)).heap[w3.heap.size]? = some (.cells #[.int .u8 (byt y 0), .int .u8 (byt y 1), .int .u8 (byt y 2), .int .u8 (byt y 3), .int .u8 (byt y 4), .int .u8 (byt y 5), .int .u8 (byt y 6), .int .u8 (byt y 7)] 31 (0, 0))) := Go.heap_alloc_new w3 _
    replace DK := Lib.hid (keepA (x := .cells #[.int .u8 (byt y 0), .int .u8 (byt y 1), .int .u8 (byt y 2), .int .u8 (byt y 3), .int .u8 (byt y 4), .int .u8 (byt y 5), .int .u8 (byt y 6), .int .u8 (byt y 7)] 31) DK.out)
    replace O1 := Lib.hid (O1.out.ext (ext_alloc w3 (.cells #[.int .u8 (byt y 0), .int .u8 (byt y 1), .int .u8 (byt y 2), .int .u8 (byt y 3), .int .u8 (byt y 4), .int .u8 (byt y 5), .int .u8 (byt y 6), .int .u8 (byt y 7)] 31)))
    replace B := Lib.hid (ext_trans B.out (ext_alloc w3 (.cells #[.int .u8 (byt y 0), .int .u8 (byt y 1), .int .u8 (byt y 2), .int .u8 (byt y 3), .int .u8 (byt y 4), .int .u8 (byt y 5), .int .u8 (byt y 6), .int .u8 (byt y 7)] 31)))
    generalize World.alloc w3 (.cells #[.int .u8 (byt y 0), .int .u8 (byt y 1), .int .u8 (byt y 2), .int .u8 (byt y 3), .int .u8 (byt y 4), .int .u8 (byt y 5), .int .u8 (byt y 6), .int .u8 (byt y 7)] 31) = V at *
    go_wp2_with fail
    refine wp_region_schedC (fun v => Below V.heap.size V v) [(true, 0), (true, 1), (true, 2), (false, 3), (false, 4), (true, 5), (true, 6), (true, 7), (true, 8), (true, 9)] (by kernel_rfl) rfl (by kernel_rfl) (by kernel_rfl) (fun _ _ d _ _ h => by cases d <;> exact h) (ext_drew V) ?_
    intro J0 hJ0
    iterate 2 (refine schedC_pure (v := ?_) rfl (by rfl) ?_ ?_; rotate_left; (focus (intro v hC; obtain ⟨k0, k1, k2, k3, k4, k5, k6, k7, _, _, _, _, _, _, _, _⟩ := full8 (keepB hC DK.out); go_simp; try with_reducible rfl)); try go_simp)
    refine schedC_pure (v := .int .i64 ((N : Int) + 8)) rfl (by rfl) ?_ ?_
    · intro v hC; go_simp
    try go_simp
    refine schedC_eff rfl ?_
    intro J hJ
    go_wp2_with (refine wpList_make_any (o := ⟨some 30, _, _, _, _, _⟩) _ rfl (.tmp 29) (.tmp 29) 22 rfl V.heap.size 5 i0 (.int .u8 0) Try.underlying22 HI.out HZ0.out HZ1.out rfl 1 HZ2.out .i64 .i64 ((N : Int) + 8) ((N : Int) + 8) (N + 8) (N + 8) (by rfl) (by rfl) (by simp) (by simp) (Nat.le_refl _) (by omega) (by omega) (by first | exact Nat.le_refl _ | simp) ?_; intro wm hrow hgr; have OZ : Hid (Own wm 5 V.heap.size (some ⟨V.heap.size, 0, none⟩) (N + 8) (N + 8) (List.replicate (N + 8) 0)) := ⟨List.length_replicate, by omega, by rw [U8_rep]; exact hrow⟩; have CC : Hid (Below V.heap.size V wm) := below_grown (ext_drew V) (Nat.le_refl _) hgr (fun k hk => by cases hk); clear hrow hgr; go_simp)
    refine ⟨CC.out, ?_⟩
    refine schedC_eff rfl ?_
    intro J hJ
    go_wp2_with fail
    try rw [← show digV k = .agg #[.int .u8 (byt k 0), .int .u8 (byt k 1), .int .u8 (byt k 2), .int .u8 (byt k 3), .int .u8 (byt k 4), .int .u8 (byt k 5), .int .u8 (byt k 6), .int .u8 (byt k 7)] from rfl]
    refine ((open_c _ k hk _ _ _ (List.replicate (N + 8) 0) (Lib.hid OZ.out.rd))).mono ?_
    rintro e w5 ⟨A5, n5, c5, err, rfl, ho, herr, hb⟩
    replace CC : Hid (Below V.heap.size V w5) := Lib.hid (ext_trans CC.out hb)
    rw [HP.out] at ho herr
    obtain rfl : err = p2 := herr
    clear ho
    clear hb
    go_wp2_with fail
    refine ⟨CC.out, ?_⟩
    iterate 5 (refine schedC_pure (v := ?_) rfl (by rfl) ?_ ?_; rotate_left; (focus (intro v hC; go_simp; try with_reducible rfl)); try go_simp)
    refine schedC_nil (hJ0 _ _ ?_)
    clear hJ0 OZ
    replace DK := Lib.hid (keepB CC.out DK.out)
    replace DY := Lib.hid (keepB CC.out DY.out)
    replace O1 := Lib.hid (O1.out.ext CC.out)
    replace B := Lib.hid (ext_trans B.out CC.out)
    clear CC
    go_wp2_with fail
    refine wp_region_schedC (fun v => Below w5.heap.size w5 v) [(true, 0), (true, 1), (true, 2), (false, 3), (false, 4), (true, 5), (true, 6), (true, 7), (true, 8), (true, 9)] (by kernel_rfl) rfl (by kernel_rfl) (by kernel_rfl) (fun _ _ d _ _ h => by cases d <;> exact h) (ext_drew w5) ?_
    intro J0 hJ0
    iterate 2 (refine schedC_pure (v := ?_) rfl (by rfl) ?_ ?_; rotate_left; (focus (intro v hC; obtain ⟨k0, k1, k2, k3, k4, k5, k6, k7, _, _, _, _, _, _, _, _⟩ := full8 (keepB hC DK.out); go_simp; try with_reducible rfl)); try go_simp)
    refine schedC_pure (v := .int .i64 (r7 : Int)) rfl (by rfl) ?_ ?_
    · intro v hC; go_simp
    try go_simp
    refine schedC_eff rfl ?_
    intro J hJ
    go_wp2_with (refine wpList_make_any (o := ⟨some 38, _, _, _, _, _⟩) _ rfl (.tmp 37) (.tmp 37) 22 rfl w5.heap.size 5 i0 (.int .u8 0) Try.underlying22 HI.out HZ0.out HZ1.out rfl 1 HZ2.out .i64 .i64 _ _ (r7) (r7) (by rfl) (by rfl) rfl rfl (Nat.le_refl _) (by omega) (by omega) (by first | exact Nat.le_refl _ | simp) ?_; intro wm hrow hgr; have OZ : Hid (Own wm 5 w5.heap.size (some ⟨w5.heap.size, 0, none⟩) (r7) (r7) (List.replicate (r7) 0)) := ⟨List.length_replicate, by omega, by rw [U8_rep]; exact hrow⟩; have CC : Hid (Below w5.heap.size w5 wm) := below_grown (ext_drew w5) (Nat.le_refl _) hgr (fun k hk => by cases hk); clear hrow hgr; go_simp)
    refine ⟨CC.out, ?_⟩
    refine schedC_eff rfl ?_
    intro J hJ
    go_wp2_with fail
    try rw [← show digV k = .agg #[.int .u8 (byt k 0), .int .u8 (byt k 1), .int .u8 (byt k 2), .int .u8 (byt k 3), .int .u8 (byt k 4), .int .u8 (byt k 5), .int .u8 (byt k 6), .int .u8 (byt k 7)] from rfl]
    refine ((open_c _ k hk _ _ _ (List.replicate (r7) 0) (Lib.hid OZ.out.rd))).mono ?_
    rintro e w6 ⟨A6, n6, c6, err2, rfl, ho, herr, hb⟩
    replace CC : Hid (Below w5.heap.size w5 w6) := Lib.hid (ext_trans CC.out hb)
    rw [HZ7.out] at ho herr
    obtain rfl : err2 = 4 := herr
    clear ho
    clear hb
    go_wp2_with fail
    refine ⟨CC.out, ?_⟩
    iterate 5 (refine schedC_pure (v := ?_) rfl (by rfl) ?_ ?_; rotate_left; (focus (intro v hC; go_simp; try with_reducible rfl)); try go_simp)
    refine schedC_nil (hJ0 _ _ ?_)
    clear hJ0 OZ
    replace DK := Lib.hid (keepB CC.out DK.out)
    replace DY := Lib.hid (keepB CC.out DY.out)
    replace O1 := Lib.hid (O1.out.ext CC.out)
    replace B := Lib.hid (ext_trans B.out CC.out)
    clear CC
    go_wp2_with fail
    refine (told_c _).mono ?_
    rintro e w7 ⟨rfl, hb⟩
    replace DK := Lib.hid (keepB hb DK.out)
    replace DY := Lib.hid (keepB hb DY.out)
    replace O1 := Lib.hid (O1.out.ext hb)
    replace B := Lib.hid (ext_trans B.out hb)
    clear hb
    have hp2 := HP2.out
    have hz := HZ.out
    obtain ⟨k0, k1, k2, k3, k4, k5, k6, k7, _, _, _, _, _, _, _, _⟩ := full8 DK.out; obtain ⟨y0, y1, y2, y3, y4, y5, y6, y7, _, _, _, _, _, _, _, _⟩ := full8 DY.out; 
    go_wp2_with fail
    try rw [← show digV y = .agg #[.int .u8 (byt y 0), .int .u8 (byt y 1), .int .u8 (byt y 2), .int .u8 (byt y 3), .int .u8 (byt y 4), .int .u8 (byt y 5), .int .u8 (byt y 6), .int .u8 (byt y 7)] from rfl]
    try rw [← show digV k = .agg #[.int .u8 (byt k 0), .int .u8 (byt k 1), .int .u8 (byt k 2), .int .u8 (byt k 3), .int .u8 (byt k 4), .int .u8 (byt k 5), .int .u8 (byt k 6), .int .u8 (byt k 7)] from rfl]
    refine (opens_c _ y k Ly hk _ _ _ (List.replicate N 0) (Lib.hid O1.out.rd) (by omega)).mono ?_
    rw [HY.out, decide_eq_false (show ¬ N ≤ 65536 by omega), Bool.false_and]
    rintro e w8 ⟨rfl, hb⟩
    replace B := Lib.hid (ext_trans B.out hb)
    clear hb
    go_wp2_with fail
    go_ret
    exact ⟨by simp, B.out⟩
  · have hS : (sealR k (List.replicate N 0)).length = N + 8 := by unfold sealR; rw [if_pos (by rw [List.length_replicate]; omega), boxB_len, List.length_replicate]
    have hp : (openR k (List.replicate (N + 8) 0)).2 = 0 ∨ (openR k (List.replicate (N + 8) 0)).2 = 29 := by
      unfold openR
      rw [if_neg (by rw [List.length_replicate]; omega), if_neg (by rw [List.length_replicate]; omega)]
      split
      · exact .inl rfl
      · exact .inr rfl
    have gN : ¬ (65536 : Int) < (N : Int) := by omega
    have gN2 : (N : Int) ≤ 65536 := by omega
    obtain ⟨S, LS, hS2, hLS, hz⟩ : ∃ (S : List UInt8) (LS : Nat), sealR k (List.replicate N 0) = S ∧ S.length = LS ∧ LS = N + 8 := ⟨_, _, rfl, rfl, hS⟩
    obtain ⟨p1, p2, hpp, hp2⟩ : ∃ p1 p2, openR k (List.replicate (N + 8) 0) = (p1, p2) ∧ (p2 == 2) = false := ⟨(openR k (List.replicate (N + 8) 0)).1, (openR k (List.replicate (N + 8) 0)).2, rfl, by rw [beq_eq_false_iff_ne]; rcases hp with h | h <;> (rw [h]; decide)⟩
    have hp3 : ¬ p2 = 2 := by simpa using hp2
    obtain ⟨y, hy⟩ : ∃ y, y = commitN k (List.replicate N 0) := ⟨_, rfl⟩
    have Ly : y < 18446744073709551616 := by rw [hy]; exact commitN_lt hk
    have eL : ((LS : Int) == (N : Int) + 8) = true := by rw [hz, beq_iff_eq]; simp
    have HS := Lib.hid hS2
    have HP := Lib.hid hpp
    have HY : Hid (commitN k (List.replicate N 0) = y) := hy.symm
    have HLS := Lib.hid hLS
    have HZ := Lib.hid hz
    have HP2 := Lib.hid hp2
    have HP3 := Lib.hid hp3
    clear hp3
    clear hS hp hS2 hLS hz hpp hp2 hy
    obtain ⟨i0, hi, hz0, hz1, hz2⟩ := info_parts infoU8
    have HI := Lib.hid hi
    have HZ0 := Lib.hid hz0
    have HZ1 := Lib.hid hz1
    have HZ2 := Lib.hid hz2
    clear hi hz0 hz1 hz2
    unfold digV
    go_enter Try.func13, Try.ntmps13
    go_upto_region 1 with fail
    have DK : Hid ((World.alloc w (.cells #[.int .u8 (byt k 0), .int .u8 (byt k 1), .int .u8 (byt k 2), .int .u8 (byt k 3), .int .u8 (byt k 4), .int .u8 (byt k 5), .int .u8 (byt k 6), .int .u8 (byt k 7)] 31)).heap[w.heap.size]? = some (.cells #[.int .u8 (byt k 0), .int .u8 (byt k 1), .int .u8 (byt k 2), .int .u8 (byt k 3), .int .u8 (byt k 4), .int .u8 (byt k 5), .int .u8 (byt k 6), .int .u8 (byt k 7)] 31 (0, 0))) := Go.heap_alloc_new w _
    have B : Hid (Below w.heap.size w (World.alloc w (.cells #[.int .u8 (byt k 0), .int .u8 (byt k 1), .int .u8 (byt k 2), .int .u8 (byt k 3), .int .u8 (byt k 4), .int .u8 (byt k 5), .int .u8 (byt k 6), .int .u8 (byt k 7)] 31))) := ext_alloc _ _
    generalize World.alloc w (.cells #[.int .u8 (byt k 0), .int .u8 (byt k 1), .int .u8 (byt k 2), .int .u8 (byt k 3), .int .u8 (byt k 4), .int .u8 (byt k 5), .int .u8 (byt k 6), .int .u8 (byt k 7)] 31) = W at *
    go_wp2_with (refine wpList_make_any (o := ⟨some 19, _, _, _, _, _⟩) _ rfl (.tmp 18) (.tmp 18) 22 rfl W.heap.size 5 i0 (.int .u8 0) Try.underlying22 HI.out HZ0.out HZ1.out rfl 1 HZ2.out .i64 .i64 _ _ (N) (N) (by rfl) (by rfl) rfl rfl (Nat.le_refl _) (by omega) (by omega) (by first | exact Nat.le_refl _ | simp) ?_; intro wm hrow hgr; have O1 : Hid (Own wm 5 W.heap.size (some ⟨W.heap.size, 0, none⟩) N N (List.replicate N 0)) := ⟨List.length_replicate, by omega, by rw [U8_rep]; exact hrow⟩; have hb := below_grown (Below.refl W.heap.size W) (Nat.le_refl _) hgr (fun k hk => by cases hk); replace DK := Lib.hid (keepB hb DK.out); replace B := Lib.hid (ext_trans B.out hb); clear hrow hgr hb; obtain ⟨k0, k1, k2, k3, k4, k5, k6, k7, _, _, _, _, _, _, _, _⟩ := full8 DK.out; go_simp)
    try rw [← show digV k = .agg #[.int .u8 (byt k 0), .int .u8 (byt k 1), .int .u8 (byt k 2), .int .u8 (byt k 3), .int .u8 (byt k 4), .int .u8 (byt k 5), .int .u8 (byt k 6), .int .u8 (byt k 7)] from rfl]
    refine (seal_c wm k hk _ _ _ (List.replicate N 0) (Lib.hid O1.out.rd) (by omega)).mono ?_
    rw [HS.out]
    rintro e w2 ⟨E, A2, n2, c2, rfl, ho, hb⟩
    obtain rfl : LS = n2 := by rw [← ho.len, HLS.out]
    have le2 := ho.rd.le
    have mx2 := ho.max
    replace DK := Lib.hid (keepB hb DK.out)
    replace O1 := Lib.hid (O1.out.ext hb)
    replace B := Lib.hid (ext_trans B.out hb)
    clear ho hb k0 k1 k2 k3 k4 k5 k6 k7
    obtain ⟨k0, k1, k2, k3, k4, k5, k6, k7, _, _, _, _, _, _, _, _⟩ := full8 DK.out; 
    go_wp2_with fail
    try rw [← show digV k = .agg #[.int .u8 (byt k 0), .int .u8 (byt k 1), .int .u8 (byt k 2), .int .u8 (byt k 3), .int .u8 (byt k 4), .int .u8 (byt k 5), .int .u8 (byt k 6), .int .u8 (byt k 7)] from rfl]
    refine (commit_c w2 k hk _ _ _ (List.replicate N 0) (Lib.hid O1.out.rd) (by omega)).mono ?_
    rw [HY.out]
    unfold digV
    rintro e w3 ⟨rfl, hb⟩
    replace DK := Lib.hid (keepB hb DK.out)
    replace O1 := Lib.hid (O1.out.ext hb)
    replace B := Lib.hid (ext_trans B.out hb)
    clear hb k0 k1 k2 k3 k4 k5 k6 k7
    go_wp2_with fail
    have DY : Hid ((World.alloc w3 (.cells #[.int .u8 (byt y 0), .int .u8 (byt y 1), .int .u8 (byt y 2), .int .u8 (byt y 3), .int .u8 (byt y 4), .int .u8 (byt y 5), .int .u8 (byt y 6), .int .u8 (byt y 7)] 31)).heap[w3.heap.size]? = some (.cells #[.int .u8 (byt y 0), .int .u8 (byt y 1), .int .u8 (byt y 2), .int .u8 (byt y 3), .int .u8 (byt y 4), .int .u8 (byt y 5), .int .u8 (byt y 6), .int .u8 (byt y 7)] 31 (0, 0))) := Go.heap_alloc_new w3 _
    replace DK := Lib.hid (keepA (x := .cells #[.int .u8 (byt y 0), .int .u8 (byt y 1), .int .u8 (byt y 2), .int .u8 (byt y 3), .int .u8 (byt y 4), .int .u8 (byt y 5), .int .u8 (byt y 6), .int .u8 (byt y 7)] 31) DK.out)
    replace O1 := Lib.hid (O1.out.ext (ext_alloc w3 (.cells #[.int .u8 (byt y 0), .int .u8 (byt y 1), .int .u8 (byt y 2), .int .u8 (byt y 3), .int .u8 (byt y 4), .int .u8 (byt y 5), .int .u8 (byt y 6), .int .u8 (byt y 7)] 31)))
    replace B := Lib.hid (ext_trans B.out (ext_alloc w3 (.cells #[.int .u8 (byt y 0), .int .u8 (byt y 1), .int .u8 (byt y 2), .int .u8 (byt y 3), .int .u8 (byt y 4), .int .u8 (byt y 5), .int .u8 (byt y 6), .int .u8 (byt y 7)] 31)))
    generalize World.alloc w3 (.cells #[.int .u8 (byt y 0), .int .u8 (byt y 1), .int .u8 (byt y 2), .int .u8 (byt y 3), .int .u8 (byt y 4), .int .u8 (byt y 5), .int .u8 (byt y 6), .int .u8 (byt y 7)] 31) = V at *
    go_wp2_with fail
    refine wp_region_schedC (fun v => Below V.heap.size V v) [(true, 0), (true, 1), (true, 2), (false, 3), (false, 4), (true, 5), (true, 6), (true, 7), (true, 8), (true, 9)] (by kernel_rfl) rfl (by kernel_rfl) (by kernel_rfl) (fun _ _ d _ _ h => by cases d <;> exact h) (ext_drew V) ?_
    intro J0 hJ0
    iterate 2 (refine schedC_pure (v := ?_) rfl (by rfl) ?_ ?_; rotate_left; (focus (intro v hC; obtain ⟨k0, k1, k2, k3, k4, k5, k6, k7, _, _, _, _, _, _, _, _⟩ := full8 (keepB hC DK.out); go_simp; try with_reducible rfl)); try go_simp)
    refine schedC_pure (v := .int .i64 ((N : Int) + 8)) rfl (by rfl) ?_ ?_
    · intro v hC; go_simp
    try go_simp
    refine schedC_eff rfl ?_
    intro J hJ
    go_wp2_with (refine wpList_make_any (o := ⟨some 30, _, _, _, _, _⟩) _ rfl (.tmp 29) (.tmp 29) 22 rfl V.heap.size 5 i0 (.int .u8 0) Try.underlying22 HI.out HZ0.out HZ1.out rfl 1 HZ2.out .i64 .i64 ((N : Int) + 8) ((N : Int) + 8) (N + 8) (N + 8) (by rfl) (by rfl) (by simp) (by simp) (Nat.le_refl _) (by omega) (by omega) (by first | exact Nat.le_refl _ | simp) ?_; intro wm hrow hgr; have OZ : Hid (Own wm 5 V.heap.size (some ⟨V.heap.size, 0, none⟩) (N + 8) (N + 8) (List.replicate (N + 8) 0)) := ⟨List.length_replicate, by omega, by rw [U8_rep]; exact hrow⟩; have CC : Hid (Below V.heap.size V wm) := below_grown (ext_drew V) (Nat.le_refl _) hgr (fun k hk => by cases hk); clear hrow hgr; go_simp)
    refine ⟨CC.out, ?_⟩
    refine schedC_eff rfl ?_
    intro J hJ
    go_wp2_with fail
    try rw [← show digV k = .agg #[.int .u8 (byt k 0), .int .u8 (byt k 1), .int .u8 (byt k 2), .int .u8 (byt k 3), .int .u8 (byt k 4), .int .u8 (byt k 5), .int .u8 (byt k 6), .int .u8 (byt k 7)] from rfl]
    refine ((open_c _ k hk _ _ _ (List.replicate (N + 8) 0) (Lib.hid OZ.out.rd))).mono ?_
    rintro e w5 ⟨A5, n5, c5, err, rfl, ho, herr, hb⟩
    replace CC : Hid (Below V.heap.size V w5) := Lib.hid (ext_trans CC.out hb)
    rw [HP.out] at ho herr
    obtain rfl : err = p2 := herr
    clear ho
    clear hb
    go_wp2_with fail
    refine ⟨CC.out, ?_⟩
    iterate 5 (refine schedC_pure (v := ?_) rfl (by rfl) ?_ ?_; rotate_left; (focus (intro v hC; go_simp; try with_reducible rfl)); try go_simp)
    refine schedC_nil (hJ0 _ _ ?_)
    clear hJ0 OZ
    replace DK := Lib.hid (keepB CC.out DK.out)
    replace DY := Lib.hid (keepB CC.out DY.out)
    replace O1 := Lib.hid (O1.out.ext CC.out)
    replace B := Lib.hid (ext_trans B.out CC.out)
    clear CC
    go_wp2_with fail
    refine wp_region_schedC (fun v => Below w5.heap.size w5 v) [(true, 0), (true, 1), (true, 2), (false, 3), (false, 4), (true, 5), (true, 6), (true, 7), (true, 8), (true, 9)] (by kernel_rfl) rfl (by kernel_rfl) (by kernel_rfl) (fun _ _ d _ _ h => by cases d <;> exact h) (ext_drew w5) ?_
    intro J0 hJ0
    iterate 2 (refine schedC_pure (v := ?_) rfl (by rfl) ?_ ?_; rotate_left; (focus (intro v hC; obtain ⟨k0, k1, k2, k3, k4, k5, k6, k7, _, _, _, _, _, _, _, _⟩ := full8 (keepB hC DK.out); go_simp; try with_reducible rfl)); try go_simp)
    refine schedC_pure (v := .int .i64 (r7 : Int)) rfl (by rfl) ?_ ?_
    · intro v hC; go_simp
    try go_simp
    refine schedC_eff rfl ?_
    intro J hJ
    go_wp2_with (refine wpList_make_any (o := ⟨some 38, _, _, _, _, _⟩) _ rfl (.tmp 37) (.tmp 37) 22 rfl w5.heap.size 5 i0 (.int .u8 0) Try.underlying22 HI.out HZ0.out HZ1.out rfl 1 HZ2.out .i64 .i64 _ _ (r7) (r7) (by rfl) (by rfl) rfl rfl (Nat.le_refl _) (by omega) (by omega) (by first | exact Nat.le_refl _ | simp) ?_; intro wm hrow hgr; have OZ : Hid (Own wm 5 w5.heap.size (some ⟨w5.heap.size, 0, none⟩) (r7) (r7) (List.replicate (r7) 0)) := ⟨List.length_replicate, by omega, by rw [U8_rep]; exact hrow⟩; have CC : Hid (Below w5.heap.size w5 wm) := below_grown (ext_drew w5) (Nat.le_refl _) hgr (fun k hk => by cases hk); clear hrow hgr; go_simp)
    refine ⟨CC.out, ?_⟩
    refine schedC_eff rfl ?_
    intro J hJ
    go_wp2_with fail
    try rw [← show digV k = .agg #[.int .u8 (byt k 0), .int .u8 (byt k 1), .int .u8 (byt k 2), .int .u8 (byt k 3), .int .u8 (byt k 4), .int .u8 (byt k 5), .int .u8 (byt k 6), .int .u8 (byt k 7)] from rfl]
    refine ((open_c _ k hk _ _ _ (List.replicate (r7) 0) (Lib.hid OZ.out.rd))).mono ?_
    rintro e w6 ⟨A6, n6, c6, err2, rfl, ho, herr, hb⟩
    replace CC : Hid (Below w5.heap.size w5 w6) := Lib.hid (ext_trans CC.out hb)
    rw [HZ7.out] at ho herr
    obtain rfl : err2 = 4 := herr
    clear ho
    clear hb
    go_wp2_with fail
    refine ⟨CC.out, ?_⟩
    iterate 5 (refine schedC_pure (v := ?_) rfl (by rfl) ?_ ?_; rotate_left; (focus (intro v hC; go_simp; try with_reducible rfl)); try go_simp)
    refine schedC_nil (hJ0 _ _ ?_)
    clear hJ0 OZ
    replace DK := Lib.hid (keepB CC.out DK.out)
    replace DY := Lib.hid (keepB CC.out DY.out)
    replace O1 := Lib.hid (O1.out.ext CC.out)
    replace B := Lib.hid (ext_trans B.out CC.out)
    clear CC
    go_wp2_with fail
    refine (told_c _).mono ?_
    rintro e w7 ⟨rfl, hb⟩
    replace DK := Lib.hid (keepB hb DK.out)
    replace DY := Lib.hid (keepB hb DY.out)
    replace O1 := Lib.hid (O1.out.ext hb)
    replace B := Lib.hid (ext_trans B.out hb)
    clear hb
    have hp2 := HP2.out
    have hp3 := HP3.out
    obtain ⟨k0, k1, k2, k3, k4, k5, k6, k7, _, _, _, _, _, _, _, _⟩ := full8 DK.out; obtain ⟨y0, y1, y2, y3, y4, y5, y6, y7, _, _, _, _, _, _, _, _⟩ := full8 DY.out; 
    go_wp2_with fail
    try rw [← show digV y = .agg #[.int .u8 (byt y 0), .int .u8 (byt y 1), .int .u8 (byt y 2), .int .u8 (byt y 3), .int .u8 (byt y 4), .int .u8 (byt y 5), .int .u8 (byt y 6), .int .u8 (byt y 7)] from rfl]
    try rw [← show digV k = .agg #[.int .u8 (byt k 0), .int .u8 (byt k 1), .int .u8 (byt k 2), .int .u8 (byt k 3), .int .u8 (byt k 4), .int .u8 (byt k 5), .int .u8 (byt k 6), .int .u8 (byt k 7)] from rfl]
    refine (opens_c _ y k Ly hk _ _ _ (List.replicate N 0) (Lib.hid O1.out.rd) (by omega)).mono ?_
    rw [HY.out, decide_eq_true (show N ≤ 65536 by omega), decide_eq_true rfl, Bool.true_and]
    rintro e w8 ⟨rfl, hb⟩
    replace B := Lib.hid (ext_trans B.out hb)
    clear hb
    go_wp2_with fail
    go_ret
    exact ⟨by simp, B.out⟩
#print axioms walkVeilLong
end Go.Proofs.Ytdejlahgeckobaa
