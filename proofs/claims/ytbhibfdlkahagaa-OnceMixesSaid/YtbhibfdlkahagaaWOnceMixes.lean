/-
  OnceMixes: the walk.
-/
import Derived.Test.YtbhibfdlkahagaaORVer
import Derived.Test.YtbhibfdlkahagaaORPub
import Derived.Test.YtbhibfdlkahagaaOSame
import Derived.Test.YtbhibfdlkahagaaHOpen
import Derived.Test.YtbhibfdlkahagaaOKnown
namespace Go.Proofs.Ytbhibfdlkahagaa
open Go.RowKit

theorem Rd.fromM {w : World} {b o n c : Nat} {bs : List UInt8} (h : Rd w (some ⟨b, o, none⟩) n c bs) {t : Nat} (ht : t ≤ n) : Rd w (some ⟨b, o + t, none⟩) (n - t) (c - t) (bs.drop t) := by
  refine ⟨by rw [List.length_drop, h.len], by have := h.le; omega, by have := h.max; omega, fun h0 => ?_, fun e => by cases e⟩
  obtain ⟨b', o', hA, hb, hc⟩ := h.cells (by omega)
  injection hA with hA
  injection hA with e1 e2
  subst e1 e2
  refine ⟨b, o + t, rfl, hb, fun j hj => ?_⟩
  rw [Nat.add_assoc, hc (t + j) (by omega)]
  simp [List.getD, List.getElem?_drop]

set_option maxRecDepth 100000 in
set_option maxHeartbeats 4000000 in
theorem walkOnceMixes (w : World) (s a b m : Nat) (q : Nat) (hs : s < 18446744073709551616) (_ha : a < 18446744073709551616) (_hb : b < 18446744073709551616) (_hm : m < 18446744073709551616) (hq : q < 4294967296) :
    Calls Try.prog 11 #[digV s, digV a, digV b, digV m, .int .u32 q] w (Holds w) := by
  obtain ⟨SA, hSA⟩ : ∃ x, x = signB s a := ⟨_, rfl⟩
  obtain ⟨SB, hSB⟩ : ∃ x, x = signB s b := ⟨_, rfl⟩
  obtain ⟨PK, hPK⟩ : ∃ x, x = pubN s := ⟨_, rfl⟩
  have LA : SA.length = 144 := by rw [hSA]; exact signB_len s a
  have LB : SB.length = 144 := by rw [hSB]; exact signB_len s b
  have LP : PK < 18446744073709551616 := by rw [hPK]; exact pubN_lt hs
  have HSA : Hid (signB s a = SA) := hSA.symm
  have HSB : Hid (signB s b = SB) := hSB.symm
  have HPK : Hid (pubN s = PK) := hPK.symm
  clear hSA hSB hPK
  unfold digV
  go_enter Try.func11, Try.ntmps11
  go_upto_region 1 with fail
  generalize hW : World.alloc (World.alloc (World.alloc (World.alloc w (.cells #[.int .u8 (byt s 0), .int .u8 (byt s 1), .int .u8 (byt s 2), .int .u8 (byt s 3), .int .u8 (byt s 4), .int .u8 (byt s 5), .int .u8 (byt s 6), .int .u8 (byt s 7)] 30)) (.cells #[.int .u8 (byt a 0), .int .u8 (byt a 1), .int .u8 (byt a 2), .int .u8 (byt a 3), .int .u8 (byt a 4), .int .u8 (byt a 5), .int .u8 (byt a 6), .int .u8 (byt a 7)] 30)) (.cells #[.int .u8 (byt b 0), .int .u8 (byt b 1), .int .u8 (byt b 2), .int .u8 (byt b 3), .int .u8 (byt b 4), .int .u8 (byt b 5), .int .u8 (byt b 6), .int .u8 (byt b 7)] 30)) (.cells #[.int .u8 (byt m 0), .int .u8 (byt m 1), .int .u8 (byt m 2), .int .u8 (byt m 3), .int .u8 (byt m 4), .int .u8 (byt m 5), .int .u8 (byt m 6), .int .u8 (byt m 7)] 30) = W
  have DS : Hid (W.heap[w.heap.size]? = some (.cells #[.int .u8 (byt s 0), .int .u8 (byt s 1), .int .u8 (byt s 2), .int .u8 (byt s 3), .int .u8 (byt s 4), .int .u8 (byt s 5), .int .u8 (byt s 6), .int .u8 (byt s 7)] 30 (0, 0))) := by rw [← hW]; exact keepA (keepA (keepA (Go.heap_alloc_new w _)))
  have DA : Hid (W.heap[w.heap.size + 1]? = some (.cells #[.int .u8 (byt a 0), .int .u8 (byt a 1), .int .u8 (byt a 2), .int .u8 (byt a 3), .int .u8 (byt a 4), .int .u8 (byt a 5), .int .u8 (byt a 6), .int .u8 (byt a 7)] 30 (0, 0))) := by rw [← hW]; exact keepA (keepA (heap_alloc_newest (w := World.alloc _ _) (by simp)))
  have DB : Hid (W.heap[w.heap.size + 2]? = some (.cells #[.int .u8 (byt b 0), .int .u8 (byt b 1), .int .u8 (byt b 2), .int .u8 (byt b 3), .int .u8 (byt b 4), .int .u8 (byt b 5), .int .u8 (byt b 6), .int .u8 (byt b 7)] 30 (0, 0))) := by rw [← hW]; exact keepA (heap_alloc_newest (w := World.alloc (World.alloc _ _) _) (by simp))
  have DM : Hid (W.heap[w.heap.size + 3]? = some (.cells #[.int .u8 (byt m 0), .int .u8 (byt m 1), .int .u8 (byt m 2), .int .u8 (byt m 3), .int .u8 (byt m 4), .int .u8 (byt m 5), .int .u8 (byt m 6), .int .u8 (byt m 7)] 30 (0, 0))) := by rw [← hW]; exact heap_alloc_newest (w := World.alloc (World.alloc (World.alloc _ _) _) _) (by simp)
  have B : Hid (Below w.heap.size w W) := by rw [← hW]; exact ext_trans (ext_trans (ext_trans (ext_alloc _ _) (ext_alloc _ _)) (ext_alloc _ _)) (ext_alloc _ _)
  clear hW
  go_wp2_with fail
  refine wp_region_schedC (fun v => Below W.heap.size W v) [(true, 0), (true, 1), (true, 3), (true, 4), (false, 2), (false, 5), (true, 6), (true, 7)] (by kernel_rfl) rfl (by kernel_rfl) (by kernel_rfl) (fun _ _ d _ _ h => by cases d <;> exact h) (ext_drew W) ?_
  intro J0 hJ0
  have CC : Hid (Below W.heap.size W W.drew) := Lib.hid (ext_drew W)
  iterate 4 (refine schedC_pure (v := ?_) rfl (by rfl) ?_ ?_; rotate_left; (focus (intro v hC; obtain ⟨s0, s1, s2, s3, s4, s5, s6, s7, _, _, _, _, _, _, _, _⟩ := full8 (keepB hC DS.out); obtain ⟨a0, a1, a2, a3, a4, a5, a6, a7, _, _, _, _, _, _, _, _⟩ := full8 (keepB hC DA.out); obtain ⟨b0, b1, b2, b3, b4, b5, b6, b7, _, _, _, _, _, _, _, _⟩ := full8 (keepB hC DB.out); go_simp; try with_reducible rfl)); try go_simp)
  refine schedC_eff rfl ?_
  intro J hJ
  go_wp2_with fail
  refine (sign_c _ s a hs).mono ?_
  rw [HSA.out]
  unfold Rows8
  rintro e w1 ⟨A1, n1, c1, rfl, hO1, hb⟩
  replace CC : Hid (Below W.heap.size W w1) := Lib.hid (ext_trans CC.out hb)
  have O1 := Lib.hid hO1.rd
  obtain ⟨g1, X1, rfl, _, _, _, _⟩ := hO1.block (by have := hO1.len; omega)
  obtain rfl : n1 = 144 := by have := hO1.len; omega
  clear hO1
  clear hb
  go_wp2_with fail
  refine ⟨CC.out, ?_⟩
  refine schedC_eff rfl ?_
  intro J hJ
  go_wp2_with fail
  refine (sign_c _ s b hs).mono ?_
  rw [HSB.out]
  unfold Rows8
  rintro e w2 ⟨A2, n2, c2, rfl, hO2, hb⟩
  replace CC : Hid (Below W.heap.size W w2) := Lib.hid (ext_trans CC.out hb)
  replace O1 := Lib.hid (O1.out.ext hb)
  have O2 := Lib.hid hO2.rd
  obtain ⟨g2, X2, rfl, _, _, _, _⟩ := hO2.block (by have := hO2.len; omega)
  obtain rfl : n2 = 144 := by have := hO2.len; omega
  clear hO2
  clear hb
  go_wp2_with fail
  refine ⟨CC.out, ?_⟩
  iterate 2 (refine schedC_pure (v := ?_) rfl (by rfl) ?_ ?_; rotate_left; (focus (intro v hC; go_simp; try with_reducible rfl)); try go_simp)
  refine schedC_nil (hJ0 _ _ ?_)
  clear hJ0
  replace DS := Lib.hid (keepB CC.out DS.out)
  replace DM := Lib.hid (keepB CC.out DM.out)
  replace B := Lib.hid (ext_trans B.out CC.out)
  clear CC DA DB
  have m1 := O1.out.max
  have m2 := O2.out.max
  have l1 := O1.out.le
  have l2 := O2.out.le
  have z2 : w.heap.size ≤ w2.heap.size := B.out.size
  go_wp2_with fail
  go_loopw [4, 13, 14] (fun qv ov iv wr => ∃ (k p : Nat) (A : Option Addr) (c : Nat) (M : List UInt8), k ≤ 18 ∧ p < 4294967296 ∧ iv = .int .i64 k ∧ qv = .int .u32 p ∧ ov = .slice A (8 * k) c ∧ Hid (Own wr 5 w2.heap.size A (8 * k) c M) ∧ Hid (Below w2.heap.size w2 wr)) (fun _ _ iv _ => 18 - (intOf iv).toNat)
  case atStart => exact ⟨0, q, none, 0, [], by omega, hq, rfl, rfl, rfl, Own.void _ _ _, Below.refl _ _⟩
  case round =>
    rename World => W3
    obtain ⟨k, p, A, c, M, hk, hp, rfl, rfl, rfl, O, BW⟩ := hrel
    by_cases hlt : k < 18
    · have hltI : (k : Int) < 18 := by omega
      have i0 : (0 : Int) ≤ 8 * (k : Int) := by omega
      have tm : (p : Int).tmod 2 = ((p % 2 : Nat) : Int) := by rw [Int.tmod_eq_emod_of_nonneg (by omega)]; omega
      have td : (p : Int).tdiv 2 = ((p / 2 : Nat) : Int) := by rw [Int.tdiv_eq_ediv_of_nonneg (by omega)]; omega
      have R1 := Lib.hid (((O1.out.ext BW.out).fromM (t := 8 * k) (by omega)).front (m := 8) (by omega))
      have R2 := Lib.hid (((O2.out.ext BW.out).fromM (t := 8 * k) (by omega)).front (m := 8) (by omega))
      rw [Nat.zero_add] at R1 R2
      by_cases hpp : p % 2 = 1
      · have gg : (((p % 2 : Nat) : Int) == 1) = true := by rw [hpp]; rfl
        go_wp2_with (refine wpList_push_at (o := ⟨some 53, _, _, _, _, _⟩) rfl (.tmp 45) (.tmp 52) 22 22 rfl 5 Try.underlying22 infoU8 w2.heap.size A (8 * k) c M (by rfl) O.out _ 8 _ (by first | rfl | go_simp) (R2.out.src Try.underlying22) (by omega) BW.out.size ?_; intro A3 c3 w4 ho hb _ _; have O4 := Lib.hid ho; have B4 := Lib.hid hb; clear ho hb; go_simp)
        exact ⟨⟨k + 1, p / 2, A3, c3, _, by omega, by omega, by go_num, rfl, rfl, O4.out, BW.out.trans B4.out⟩, by simp [intOf]; omega⟩
      · have gg : (((p % 2 : Nat) : Int) == 1) = false := by rw [show p % 2 = 0 by omega]; rfl
        go_wp2_with (refine wpList_push_at (o := ⟨some 53, _, _, _, _, _⟩) rfl (.tmp 45) (.tmp 52) 22 22 rfl 5 Try.underlying22 infoU8 w2.heap.size A (8 * k) c M (by rfl) O.out _ 8 _ (by first | rfl | go_simp) (R1.out.src Try.underlying22) (by omega) BW.out.size ?_; intro A3 c3 w4 ho hb _ _; have O4 := Lib.hid ho; have B4 := Lib.hid hb; clear ho hb; go_simp)
        exact ⟨⟨k + 1, p / 2, A3, c3, _, by omega, by omega, by go_num, rfl, rfl, O4.out, BW.out.trans B4.out⟩, by simp [intOf]; omega⟩
    · obtain rfl : k = 18 := by omega
      clear O1 O2
      obtain ⟨sg, hsg⟩ : ∃ l, l = M := ⟨_, rfl⟩
      have RD : Hid (Rd W3 A 144 c sg) := by rw [hsg]; exact O.out.rd
      obtain ⟨tk, tb, hT⟩ : ∃ a b, toldR m sg = (a, b) := ⟨_, _, rfl⟩
      have TT := Lib.hid hT
      have Lt : tk < 18446744073709551616 := by have := toldR_lt m sg; rw [TT.out] at this; exact this
      obtain ⟨qq, hqq⟩ : ∃ q, q = verR PK m sg := ⟨_, rfl⟩
      have V1 : Hid (verR PK m sg = qq) := hqq.symm
      have QQ : (qq == qq) = true := by simp
      have QB : (tb == tb) = true := by simp
      have E1 := eql_d Lt Lt
      rw [decide_eq_true rfl] at E1
      have G1 := guard_d .eql tk tk
      unfold digV at E1 G1
      replace DS := Lib.hid (keepB BW.out DS.out)
      replace DM := Lib.hid (keepB BW.out DM.out)
      replace B := Lib.hid (B.out.trans (BW.out.mono z2))
      clear hqq hT hsg O BW M
      obtain ⟨m0, m1, m2, m3, m4, m5, m6, m7, _, _, _, _, _, _, _, _⟩ := full8 DM.out; 
      go_wp2_with fail
      rw [← show digV m = .agg #[.int .u8 (byt m 0), .int .u8 (byt m 1), .int .u8 (byt m 2), .int .u8 (byt m 3), .int .u8 (byt m 4), .int .u8 (byt m 5), .int .u8 (byt m 6), .int .u8 (byt m 7)] from rfl]
      refine (told_c _ m A 144 c sg RD).mono ?_
      unfold Tolds
      rw [TT.out]
      unfold digV
      rintro e w5 ⟨rfl, hb⟩
      replace hb := ext_trans hb (ext_alloc w5 (.cells #[.int .u8 (byt tk 0), .int .u8 (byt tk 1), .int .u8 (byt tk 2), .int .u8 (byt tk 3), .int .u8 (byt tk 4), .int .u8 (byt tk 5), .int .u8 (byt tk 6), .int .u8 (byt tk 7)] 31))
      have DK : Hid ((World.alloc w5 (.cells #[.int .u8 (byt tk 0), .int .u8 (byt tk 1), .int .u8 (byt tk 2), .int .u8 (byt tk 3), .int .u8 (byt tk 4), .int .u8 (byt tk 5), .int .u8 (byt tk 6), .int .u8 (byt tk 7)] 31)).heap[w5.heap.size]? = some (.cells #[.int .u8 (byt tk 0), .int .u8 (byt tk 1), .int .u8 (byt tk 2), .int .u8 (byt tk 3), .int .u8 (byt tk 4), .int .u8 (byt tk 5), .int .u8 (byt tk 6), .int .u8 (byt tk 7)] 31 (0, 0))) := Go.heap_alloc_new w5 _
      replace DS := Lib.hid (keepB hb DS.out)
      replace DM := Lib.hid (keepB hb DM.out)
      replace RD := Lib.hid (RD.out.ext hb)
      replace B := Lib.hid (ext_trans B.out hb)
      clear hb m0 m1 m2 m3 m4 m5 m6 m7
      go_upto_region 14 with fail
      generalize World.alloc w5 (.cells #[.int .u8 (byt tk 0), .int .u8 (byt tk 1), .int .u8 (byt tk 2), .int .u8 (byt tk 3), .int .u8 (byt tk 4), .int .u8 (byt tk 5), .int .u8 (byt tk 6), .int .u8 (byt tk 7)] 31) = U1 at *
      obtain ⟨m0, m1, m2, m3, m4, m5, m6, m7, _, _, _, _, _, _, _, _⟩ := full8 DM.out; 
      go_wp2_with fail
      rw [← show digV m = .agg #[.int .u8 (byt m 0), .int .u8 (byt m 1), .int .u8 (byt m 2), .int .u8 (byt m 3), .int .u8 (byt m 4), .int .u8 (byt m 5), .int .u8 (byt m 6), .int .u8 (byt m 7)] from rfl]
      refine (rtold_c _ m A 144 c sg RD).mono ?_
      unfold Tolds
      rw [TT.out]
      unfold digV
      rintro e w6 ⟨rfl, hb⟩
      replace hb := ext_trans hb (ext_alloc w6 (.cells #[.int .u8 (byt tk 0), .int .u8 (byt tk 1), .int .u8 (byt tk 2), .int .u8 (byt tk 3), .int .u8 (byt tk 4), .int .u8 (byt tk 5), .int .u8 (byt tk 6), .int .u8 (byt tk 7)] 30))
      have DW : Hid ((World.alloc w6 (.cells #[.int .u8 (byt tk 0), .int .u8 (byt tk 1), .int .u8 (byt tk 2), .int .u8 (byt tk 3), .int .u8 (byt tk 4), .int .u8 (byt tk 5), .int .u8 (byt tk 6), .int .u8 (byt tk 7)] 30)).heap[w6.heap.size]? = some (.cells #[.int .u8 (byt tk 0), .int .u8 (byt tk 1), .int .u8 (byt tk 2), .int .u8 (byt tk 3), .int .u8 (byt tk 4), .int .u8 (byt tk 5), .int .u8 (byt tk 6), .int .u8 (byt tk 7)] 30 (0, 0))) := Go.heap_alloc_new w6 _
      replace DS := Lib.hid (keepB hb DS.out)
      replace DM := Lib.hid (keepB hb DM.out)
      replace DK := Lib.hid (keepB hb DK.out)
      replace RD := Lib.hid (RD.out.ext hb)
      replace B := Lib.hid (ext_trans B.out hb)
      clear hb m0 m1 m2 m3 m4 m5 m6 m7
      go_upto_region 15 with fail
      generalize World.alloc w6 (.cells #[.int .u8 (byt tk 0), .int .u8 (byt tk 1), .int .u8 (byt tk 2), .int .u8 (byt tk 3), .int .u8 (byt tk 4), .int .u8 (byt tk 5), .int .u8 (byt tk 6), .int .u8 (byt tk 7)] 30) = V at *
      go_wp2_with fail
      refine wp_region_schedC (fun v => Below V.heap.size V v) [(false, 0), (true, 1), (true, 2), (true, 3), (true, 4), (true, 5), (true, 6), (true, 7), (true, 8), (true, 9), (true, 10), (true, 11), (true, 12), (true, 14), (true, 15), (true, 17), (true, 19), (true, 20), (false, 13), (false, 16), (false, 18), (false, 21), (true, 22), (true, 23), (true, 24)] (by kernel_rfl) rfl (by kernel_rfl) (by kernel_rfl) (fun _ _ d _ _ h => by cases d <;> exact h) (ext_drew V) ?_
      intro J0 hJ0
      refine schedC_eff rfl ?_
      intro J hJ
      go_wp2_with fail
      refine (known_c _).mono ?_
      try unfold digV
      rintro e w7 ⟨rfl, hb⟩
      have CC : Hid (Below V.heap.size V w7) := Lib.hid (ext_trans (ext_drew V) hb)
      clear hb
      go_wp2_with fail
      refine ⟨CC.out, ?_⟩
      iterate 17 (refine schedC_pure (v := ?_) rfl (by rfl) ?_ ?_; rotate_left; (focus (intro v hC; obtain ⟨s0, s1, s2, s3, s4, s5, s6, s7, _, _, _, _, _, _, _, _⟩ := full8 (keepB hC DS.out); obtain ⟨m0, m1, m2, m3, m4, m5, m6, m7, _, _, _, _, _, _, _, _⟩ := full8 (keepB hC DM.out); obtain ⟨k0, k1, k2, k3, k4, k5, k6, k7, _, _, _, _, _, _, _, _⟩ := full8 (keepB hC DK.out); obtain ⟨z0, z1, z2, z3, z4, z5, z6, z7, _, _, _, _, _, _, _, _⟩ := full8 (keepB hC DW.out); go_simp; try with_reducible rfl)); try go_simp)
      refine schedC_eff rfl ?_
      intro J hJ
      go_wp2_with fail
      refine (public_c _ s hs).mono ?_
      rw [HPK.out]
      try unfold digV
      rintro e w8 ⟨rfl, hb⟩
      replace CC : Hid (Below V.heap.size V w8) := Lib.hid (ext_trans CC.out hb)
      clear hb
      go_wp2_with fail
      refine ⟨CC.out, ?_⟩
      refine schedC_eff rfl ?_
      intro J hJ
      go_wp2_with fail
      refine (verify_c _ PK m LP A 144 c sg (Lib.hid (RD.out.ext CC.out))).mono ?_
      rw [V1.out]
      try unfold digV
      rintro e w9 ⟨rfl, hb⟩
      replace CC : Hid (Below V.heap.size V w9) := Lib.hid (ext_trans CC.out hb)
      clear hb
      go_wp2_with fail
      refine ⟨CC.out, ?_⟩
      refine schedC_eff rfl ?_
      intro J hJ
      go_wp2_with fail
      refine (rpublic_c _ s hs).mono ?_
      rw [HPK.out]
      try unfold digV
      rintro e w10 ⟨rfl, hb⟩
      replace CC : Hid (Below V.heap.size V w10) := Lib.hid (ext_trans CC.out hb)
      clear hb
      go_wp2_with fail
      refine ⟨CC.out, ?_⟩
      refine schedC_eff rfl ?_
      intro J hJ
      go_wp2_with fail
      refine (rverify_c _ PK m LP A 144 c sg (Lib.hid (RD.out.ext CC.out))).mono ?_
      rw [V1.out]
      try unfold digV
      rintro e w11 ⟨rfl, hb⟩
      replace CC : Hid (Below V.heap.size V w11) := Lib.hid (ext_trans CC.out hb)
      clear hb
      go_wp2_with fail
      refine ⟨CC.out, ?_⟩
      iterate 3 (refine schedC_pure (v := ?_) rfl (by rfl) ?_ ?_; rotate_left; (focus (intro v hC; obtain ⟨s0, s1, s2, s3, s4, s5, s6, s7, _, _, _, _, _, _, _, _⟩ := full8 (keepB hC DS.out); obtain ⟨m0, m1, m2, m3, m4, m5, m6, m7, _, _, _, _, _, _, _, _⟩ := full8 (keepB hC DM.out); obtain ⟨k0, k1, k2, k3, k4, k5, k6, k7, _, _, _, _, _, _, _, _⟩ := full8 (keepB hC DK.out); obtain ⟨z0, z1, z2, z3, z4, z5, z6, z7, _, _, _, _, _, _, _, _⟩ := full8 (keepB hC DW.out); go_simp; try with_reducible rfl)); try go_simp)
      refine schedC_nil (hJ0 _ _ ?_)
      clear hJ0
      go_wp2_with fail
      go_ret
      exact ⟨rfl, ext_trans B.out CC.out⟩
#print axioms walkOnceMixes
end Go.Proofs.Ytbhibfdlkahagaa
