/-
  OnceApart: the walk.
-/
import Derived.Test.YtodkgfmabpkgaaaOSame
namespace Go.Proofs.Ytodkgfmabpkgaaa
open Go.RowKit

set_option maxRecDepth 100000 in
set_option maxHeartbeats 4000000 in
theorem walkOnceApart (w : World) (s m : Nat) (a : Int) (hs : s < 18446744073709551616) (_hm : m < 18446744073709551616) (_ha : -9223372036854775808 ≤ a) (_hb : a < 9223372036854775808) :
    Calls Try.prog 12 #[digV s, digV m, .int .i64 a] w (Holds w) := by
  obtain ⟨SB, hSB⟩ : ∃ x, x = signB s m := ⟨_, rfl⟩
  obtain ⟨PK, hPK⟩ : ∃ x, x = pubN s := ⟨_, rfl⟩
  have VS : Hid (verR PK m SB = true) := by rw [hSB, hPK]; exact ver_sign hs
  have SL : SB.length = 144 := by rw [hSB]; exact signB_len s m
  have LP : PK < 18446744073709551616 := by rw [hPK]; exact pubN_lt hs
  have HSB := Lib.hid hSB
  have HPK := Lib.hid hPK
  clear hSB hPK
  unfold digV
  go_enter Try.func12, Try.ntmps12
  go_upto_region 1 with fail
  generalize hW : World.alloc (World.alloc w (.cells #[.int .u8 (byt s 0), .int .u8 (byt s 1), .int .u8 (byt s 2), .int .u8 (byt s 3), .int .u8 (byt s 4), .int .u8 (byt s 5), .int .u8 (byt s 6), .int .u8 (byt s 7)] 30)) (.cells #[.int .u8 (byt m 0), .int .u8 (byt m 1), .int .u8 (byt m 2), .int .u8 (byt m 3), .int .u8 (byt m 4), .int .u8 (byt m 5), .int .u8 (byt m 6), .int .u8 (byt m 7)] 30) = W
  have DS : Hid (W.heap[w.heap.size]? = some (.cells #[.int .u8 (byt s 0), .int .u8 (byt s 1), .int .u8 (byt s 2), .int .u8 (byt s 3), .int .u8 (byt s 4), .int .u8 (byt s 5), .int .u8 (byt s 6), .int .u8 (byt s 7)] 30 (0, 0))) := by rw [← hW]; exact keepA (Go.heap_alloc_new w _)
  have DM : Hid (W.heap[w.heap.size + 1]? = some (.cells #[.int .u8 (byt m 0), .int .u8 (byt m 1), .int .u8 (byt m 2), .int .u8 (byt m 3), .int .u8 (byt m 4), .int .u8 (byt m 5), .int .u8 (byt m 6), .int .u8 (byt m 7)] 30 (0, 0))) := by rw [← hW]; exact heap_alloc_newest (w := World.alloc _ _) (by simp)
  have B : Hid (Below w.heap.size w W) := by rw [← hW]; exact ext_trans (ext_alloc _ _) (ext_alloc _ _)
  clear hW
  obtain ⟨s0, s1, s2, s3, s4, s5, s6, s7, _, _, _, _, _, _, _, _⟩ := full8 DS.out; obtain ⟨m0, m1, m2, m3, m4, m5, m6, m7, _, _, _, _, _, _, _, _⟩ := full8 DM.out; 
  go_wp2_with fail
  rw [← show digV s = .agg #[.int .u8 (byt s 0), .int .u8 (byt s 1), .int .u8 (byt s 2), .int .u8 (byt s 3), .int .u8 (byt s 4), .int .u8 (byt s 5), .int .u8 (byt s 6), .int .u8 (byt s 7)] from rfl, ← show digV m = .agg #[.int .u8 (byt m 0), .int .u8 (byt m 1), .int .u8 (byt m 2), .int .u8 (byt m 3), .int .u8 (byt m 4), .int .u8 (byt m 5), .int .u8 (byt m 6), .int .u8 (byt m 7)] from rfl]
  refine (sign_c _ s m hs).mono ?_
  rw [← HSB.out]
  unfold Rows8
  rintro e w1 ⟨A, n, c, rfl, hO, hb⟩
  obtain rfl : n = 144 := by have := hO.len; omega
  have WS : w.heap.size + 1 < W.heap.size := (Array.getElem?_eq_some_iff.1 DM.out).1
  obtain ⟨g, X, rfl, hgB, hg1, hgX, hgc⟩ := hO.block (by omega)
  have RO := Lib.hid hO.rd
  have GX := Lib.hid hgX
  replace DS := Lib.hid (keepB hb DS.out)
  replace DM := Lib.hid (keepB hb DM.out)
  replace B := Lib.hid (ext_trans B.out hb)
  clear hO hb hgX hgc s0 s1 s2 s3 s4 s5 s6 s7 m0 m1 m2 m3 m4 m5 m6 m7
  go_upto_region 5 with (refine wpList_push_at (o := ⟨some 19, _, _, _, _, _⟩) rfl (.tmp 17) (.tmp 18) 22 22 rfl 5 Try.underlying22 infoU8 w1.heap.size _ _ _ [] (by rfl) (Own.empty w1 _) _ 144 SB (by rfl) ((RO.out.ext (ext_alloc _ _)).src Try.underlying22) (by omega) (ext_alloc _ _).size ?_; intro A2 c2 w2 hO2 hb2 _ _; go_simp)
  rw [List.nil_append] at hO2
  have bel := (ext_alloc w1 (.cells #[] 5)).trans hb2
  have z2 : w1.heap.size ≤ w2.heap.size := bel.size
  obtain ⟨g2, X2, rfl, hg2B, hg22, _, _⟩ := hO2.block (by omega)
  have RW := Lib.hid hO2.rd
  replace DS := Lib.hid (keepB bel DS.out)
  replace DM := Lib.hid (keepB bel DM.out)
  replace GX := Lib.hid (keepB bel GX.out)
  replace RO := Lib.hid (RO.out.ext bel)
  replace B := Lib.hid (ext_trans B.out bel)
  clear hO2 bel hb2
  obtain ⟨s0, s1, s2, s3, s4, s5, s6, s7, _, _, _, _, _, _, _, _⟩ := full8 DS.out; 
  go_wp2_with fail
  rw [← show digV s = .agg #[.int .u8 (byt s 0), .int .u8 (byt s 1), .int .u8 (byt s 2), .int .u8 (byt s 3), .int .u8 (byt s 4), .int .u8 (byt s 5), .int .u8 (byt s 6), .int .u8 (byt s 7)] from rfl]
  refine (public_c _ s hs).mono ?_
  rw [← HPK.out]
  unfold digV
  rintro e w3 ⟨rfl, hb⟩
  have z3 : w2.heap.size ≤ w3.heap.size := hb.size
  have DP : Hid ((World.alloc w3 (.cells #[.int .u8 (byt PK 0), .int .u8 (byt PK 1), .int .u8 (byt PK 2), .int .u8 (byt PK 3), .int .u8 (byt PK 4), .int .u8 (byt PK 5), .int .u8 (byt PK 6), .int .u8 (byt PK 7)] 31)).heap[w3.heap.size]? = some (.cells #[.int .u8 (byt PK 0), .int .u8 (byt PK 1), .int .u8 (byt PK 2), .int .u8 (byt PK 3), .int .u8 (byt PK 4), .int .u8 (byt PK 5), .int .u8 (byt PK 6), .int .u8 (byt PK 7)] 31 (0, 0))) := Go.heap_alloc_new w3 _
  replace hb := ext_trans hb (ext_alloc w3 (.cells #[.int .u8 (byt PK 0), .int .u8 (byt PK 1), .int .u8 (byt PK 2), .int .u8 (byt PK 3), .int .u8 (byt PK 4), .int .u8 (byt PK 5), .int .u8 (byt PK 6), .int .u8 (byt PK 7)] 31))
  replace DS := Lib.hid (keepB hb DS.out)
  replace DM := Lib.hid (keepB hb DM.out)
  replace GX := Lib.hid (keepB hb GX.out)
  replace RO := Lib.hid (RO.out.ext hb)
  replace RW := Lib.hid (RW.out.ext hb)
  replace B := Lib.hid (ext_trans B.out hb)
  clear hb s0 s1 s2 s3 s4 s5 s6 s7
  go_upto_region 6 with fail
  generalize World.alloc w3 (.cells #[.int .u8 (byt PK 0), .int .u8 (byt PK 1), .int .u8 (byt PK 2), .int .u8 (byt PK 3), .int .u8 (byt PK 4), .int .u8 (byt PK 5), .int .u8 (byt PK 6), .int .u8 (byt PK 7)] 31) = V at *
  obtain ⟨p0, p1, p2, p3, p4, p5, p6, p7, _, _, _, _, _, _, _, _⟩ := full8 DP.out; obtain ⟨m0, m1, m2, m3, m4, m5, m6, m7, _, _, _, _, _, _, _, _⟩ := full8 DM.out; 
  go_wp2_with fail
  rw [← show digV PK = .agg #[.int .u8 (byt PK 0), .int .u8 (byt PK 1), .int .u8 (byt PK 2), .int .u8 (byt PK 3), .int .u8 (byt PK 4), .int .u8 (byt PK 5), .int .u8 (byt PK 6), .int .u8 (byt PK 7)] from rfl, ← show digV m = .agg #[.int .u8 (byt m 0), .int .u8 (byt m 1), .int .u8 (byt m 2), .int .u8 (byt m 3), .int .u8 (byt m 4), .int .u8 (byt m 5), .int .u8 (byt m 6), .int .u8 (byt m 7)] from rfl]
  refine (verify_c _ PK m LP _ 144 c SB RO).mono ?_
  rw [VS.out]
  rintro e w4 ⟨rfl, hb⟩
  replace DS := Lib.hid (keepB hb DS.out)
  replace DM := Lib.hid (keepB hb DM.out)
  replace DP := Lib.hid (keepB hb DP.out)
  replace GX := Lib.hid (keepB hb GX.out)
  replace RO := Lib.hid (RO.out.ext hb)
  replace RW := Lib.hid (RW.out.ext hb)
  replace B := Lib.hid (ext_trans B.out hb)
  clear hb
  clear p0 p1 p2 p3 p4 p5 p6 p7
  clear m0 m1 m2 m3 m4 m5 m6 m7
  obtain ⟨m0, m1, m2, m3, m4, m5, m6, m7, _, _, _, _, _, _, _, _⟩ := full8 DM.out; 
  go_wp2_with fail
  rw [← show digV m = .agg #[.int .u8 (byt m 0), .int .u8 (byt m 1), .int .u8 (byt m 2), .int .u8 (byt m 3), .int .u8 (byt m 4), .int .u8 (byt m 5), .int .u8 (byt m 6), .int .u8 (byt m 7)] from rfl]
  refine (told_c _ m _ 144 c SB RO).mono ?_
  unfold Tolds
  rintro e w5 ⟨rfl, hb⟩
  replace DS := Lib.hid (keepB hb DS.out)
  replace DM := Lib.hid (keepB hb DM.out)
  replace DP := Lib.hid (keepB hb DP.out)
  replace GX := Lib.hid (keepB hb GX.out)
  replace RO := Lib.hid (RO.out.ext hb)
  replace RW := Lib.hid (RW.out.ext hb)
  replace B := Lib.hid (ext_trans B.out hb)
  clear hb
  clear m0 m1 m2 m3 m4 m5 m6 m7
  go_wp2_with fail
  refine (same_yes _ _ 144 c SB RO.out _ c2 RW.out).mono ?_
  rintro e w6 ⟨rfl, hb⟩
  replace DS := Lib.hid (keepB hb DS.out)
  replace DM := Lib.hid (keepB hb DM.out)
  replace DP := Lib.hid (keepB hb DP.out)
  replace GX := Lib.hid (keepB hb GX.out)
  replace RO := Lib.hid (RO.out.ext hb)
  replace RW := Lib.hid (RW.out.ext hb)
  replace B := Lib.hid (ext_trans B.out hb)
  clear hb
  go_upto_region 10 with fail
  have ha : IntKind.u64.wrap a = a % 18446744073709551616 := by simp [IntKind.wrap, IntKind.bits, IntKind.signed]
  obtain ⟨y, hy⟩ : ∃ y : Nat, IntKind.u64.wrap a = (y : Int) := ⟨(IntKind.u64.wrap a).toNat, by omega⟩
  clear ha
  obtain ⟨i, hi⟩ : ∃ i, i = y % 144 := ⟨_, rfl⟩
  have il : i < 144 := by omega
  have tm : (y : Int).tmod 144 = (i : Int) := by rw [Int.tmod_eq_emod_of_nonneg (by omega)]; omega
  have wu : IntKind.u64.wrap (i : Int) = (i : Int) := IntWalk.u64_in _ (by omega)
  have wi : IntKind.i64.wrap (i : Int) = (i : Int) := IntWalk.i64_in _ (by omega)
  have i0 : (0 : Int) ≤ (i : Int) := by omega
  have i1 : (i : Int) < 144 := by omega
  obtain ⟨x, hx⟩ : ∃ x : Nat, x = (SB.getD i 0).toNat := ⟨_, rfl⟩
  have cg : w6.cell? ⟨g, i, none⟩ = some (.int .u8 x) := by
    obtain ⟨b, o, hA, _, hc⟩ := RO.out.cells (by omega)
    injection hA with hA
    injection hA with e1 e2
    subst e1 e2
    have := hc i il
    rw [Nat.zero_add] at this
    rw [this, hx]
  have fg : w6.frozen? ⟨g, i, none⟩ = false := by simp only [World.frozen?, GX.out]; simp
  obtain ⟨z, hz⟩ : ∃ z : Int, IntKind.u8.wrap ((x : Int) + 1) = z := ⟨_, rfl⟩
  have hb : ∀ b, b ≠ g → (w6.setCell ⟨g, i, none⟩ (.int .u8 z)).heap[b]? = w6.heap[b]? := fun b hne => Below.heap_setCell _ _ _ _ hne
  have D1 : Hid (Below w.heap.size w (w6.setCell ⟨g, i, none⟩ (.int .u8 z))) := below_set B.out (Nat.le_refl _) (by omega)
  have S1 := Lib.hid ((hb _ (by omega)).trans DS.out)
  have M1 := Lib.hid ((hb _ (by omega)).trans DM.out)
  have P1 := Lib.hid ((hb _ (by omega)).trans DP.out)
  have R1 : Hid (Rd (w6.setCell ⟨g, i, none⟩ (.int .u8 z)) (some ⟨g2, 0, none⟩) 144 c2 SB) := RW.out.at (hb _ (by omega)) (by simp [World.setCell])
  clear hb hx hi RO GX
  obtain ⟨s0, s1, s2, s3, s4, s5, s6, s7, _, _, _, _, _, _, _, _⟩ := full8 S1.out; obtain ⟨m0, m1, m2, m3, m4, m5, m6, m7, _, _, _, _, _, _, _, _⟩ := full8 M1.out; 
  go_wp2_with fail
  clear DS DM DP RW B
  generalize w6.setCell ⟨g, i, none⟩ (.int .u8 z) = w7 at *
  rw [← show digV s = .agg #[.int .u8 (byt s 0), .int .u8 (byt s 1), .int .u8 (byt s 2), .int .u8 (byt s 3), .int .u8 (byt s 4), .int .u8 (byt s 5), .int .u8 (byt s 6), .int .u8 (byt s 7)] from rfl, ← show digV m = .agg #[.int .u8 (byt m 0), .int .u8 (byt m 1), .int .u8 (byt m 2), .int .u8 (byt m 3), .int .u8 (byt m 4), .int .u8 (byt m 5), .int .u8 (byt m 6), .int .u8 (byt m 7)] from rfl]
  refine (sign_c _ s m hs).mono ?_
  rw [← HSB.out]
  unfold Rows8
  rintro e w8 ⟨A, n, c3, rfl, hO, hb⟩
  obtain rfl : n = 144 := by have := hO.len; omega
  have RT := Lib.hid hO.rd
  replace M1 := Lib.hid (keepB hb M1.out)
  replace P1 := Lib.hid (keepB hb P1.out)
  replace R1 := Lib.hid (R1.out.ext hb)
  replace D1 := Lib.hid (ext_trans D1.out hb)
  clear hO hb S1 s0 s1 s2 s3 s4 s5 s6 s7 m0 m1 m2 m3 m4 m5 m6 m7 cg fg
  go_wp2_with fail
  refine (known_c _).mono ?_
  rintro e w9 ⟨rfl, hb⟩
  replace M1 := Lib.hid (keepB hb M1.out)
  replace P1 := Lib.hid (keepB hb P1.out)
  replace R1 := Lib.hid (R1.out.ext hb)
  replace RT := Lib.hid (RT.out.ext hb)
  replace D1 := Lib.hid (ext_trans D1.out hb)
  clear hb
  go_wp2_with fail
  refine (same_yes _ A 144 c3 SB RT.out _ c2 R1.out).mono ?_
  rintro e w10 ⟨rfl, hb⟩
  replace M1 := Lib.hid (keepB hb M1.out)
  replace P1 := Lib.hid (keepB hb P1.out)
  replace RT := Lib.hid (RT.out.ext hb)
  replace D1 := Lib.hid (ext_trans D1.out hb)
  clear hb
  obtain ⟨p0, p1, p2, p3, p4, p5, p6, p7, _, _, _, _, _, _, _, _⟩ := full8 P1.out; obtain ⟨m0, m1, m2, m3, m4, m5, m6, m7, _, _, _, _, _, _, _, _⟩ := full8 M1.out; 
  go_wp2_with fail
  rw [← show digV PK = .agg #[.int .u8 (byt PK 0), .int .u8 (byt PK 1), .int .u8 (byt PK 2), .int .u8 (byt PK 3), .int .u8 (byt PK 4), .int .u8 (byt PK 5), .int .u8 (byt PK 6), .int .u8 (byt PK 7)] from rfl, ← show digV m = .agg #[.int .u8 (byt m 0), .int .u8 (byt m 1), .int .u8 (byt m 2), .int .u8 (byt m 3), .int .u8 (byt m 4), .int .u8 (byt m 5), .int .u8 (byt m 6), .int .u8 (byt m 7)] from rfl]
  refine (verify_c _ PK m LP A 144 c3 SB RT).mono ?_
  rw [VS.out]
  rintro e w11 ⟨rfl, hb⟩
  replace D1 := Lib.hid (ext_trans D1.out hb)
  go_wp2_with fail
  go_ret
  exact ⟨rfl, D1.out⟩
#print axioms walkOnceApart
end Go.Proofs.Ytodkgfmabpkgaaa
