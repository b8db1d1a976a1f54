/-
  HashPairs: the walk.
-/
import Derived.Test.YtbiflklmkppnkaaHKnown
import Derived.Test.YtbiflklmkppnkaaHDigs
import Derived.Deep.DeepCutAuto
namespace Go.Proofs.Ytbiflklmkppnkaa
open Go.RowKit

/-- two new blocks with these digests -/
def TwoAt (a b : Nat) (w : World) (x y : Value) (w' : World) : Prop :=
  ∃ p q, x = .pointer (some ⟨p, 0, none⟩) ∧ y = .pointer (some ⟨q, 0, none⟩) ∧ w'.heap[p]? = some (.cells #[.int .u8 (byt a 0), .int .u8 (byt a 1), .int .u8 (byt a 2), .int .u8 (byt a 3), .int .u8 (byt a 4), .int .u8 (byt a 5), .int .u8 (byt a 6), .int .u8 (byt a 7)] 25 (0, 0)) ∧ w'.heap[q]? = some (.cells #[.int .u8 (byt b 0), .int .u8 (byt b 1), .int .u8 (byt b 2), .int .u8 (byt b 3), .int .u8 (byt b 4), .int .u8 (byt b 5), .int .u8 (byt b 6), .int .u8 (byt b 7)] 25 (0, 0)) ∧ Below w.heap.size w w'

theorem two_at1 (a b : Nat) (w : World) : TwoAt a b w (.pointer (some ⟨w.heap.size, 0, none⟩)) (.pointer (some ⟨w.heap.size + 1, 0, none⟩)) (World.drew ((w.alloc (.cells #[.int .u8 (byt a 0), .int .u8 (byt a 1), .int .u8 (byt a 2), .int .u8 (byt a 3), .int .u8 (byt a 4), .int .u8 (byt a 5), .int .u8 (byt a 6), .int .u8 (byt a 7)] 25)).alloc (.cells #[.int .u8 (byt b 0), .int .u8 (byt b 1), .int .u8 (byt b 2), .int .u8 (byt b 3), .int .u8 (byt b 4), .int .u8 (byt b 5), .int .u8 (byt b 6), .int .u8 (byt b 7)] 25))) :=
  ⟨_, _, rfl, rfl, keepA (Go.heap_alloc_new w _), heap_alloc_newest (w := World.alloc _ _) (by simp), ext_trans (ext_trans (ext_alloc _ _) (ext_alloc _ _)) (ext_drew _)⟩
theorem two_at2 (a b : Nat) (w : World) : TwoAt a b w (.pointer (some ⟨w.heap.size + 1, 0, none⟩)) (.pointer (some ⟨w.heap.size, 0, none⟩)) (World.drew ((w.alloc (.cells #[.int .u8 (byt b 0), .int .u8 (byt b 1), .int .u8 (byt b 2), .int .u8 (byt b 3), .int .u8 (byt b 4), .int .u8 (byt b 5), .int .u8 (byt b 6), .int .u8 (byt b 7)] 25)).alloc (.cells #[.int .u8 (byt a 0), .int .u8 (byt a 1), .int .u8 (byt a 2), .int .u8 (byt a 3), .int .u8 (byt a 4), .int .u8 (byt a 5), .int .u8 (byt a 6), .int .u8 (byt a 7)] 25))) :=
  ⟨_, _, rfl, rfl, heap_alloc_newest (w := World.alloc _ _) (by simp), keepA (Go.heap_alloc_new w _), ext_trans (ext_trans (ext_alloc _ _) (ext_alloc _ _)) (ext_drew _)⟩

set_option maxRecDepth 100000 in
set_option maxHeartbeats 4000000 in
theorem walkHashPairs (w : World) (a b : Nat) (A : Option Addr) (n c : Nat) (xs : List Nat) (ha : a < 18446744073709551616) (hb : b < 18446744073709551616) (h' : RdD w A n c xs) :
    Calls Try.prog 4 #[digV a, digV b, .slice A n c] w (Holds w) := by
  have h := Lib.hid h'
  have HL := Lib.hid h'.len
  have hle := h'.le
  have hmax := h'.max
  clear h'
  by_cases h60 : n > 60
  · have hI : (60 : Int) < (n : Int) := by omega
    clear h60
    unfold digV
    go_enter Try.func4, Try.ntmps4
    go_wp2_with fail
    refine (known_c _).mono ?_
    rintro e w1 ⟨rfl, hb1⟩
    have B := Lib.hid (ext_trans (ext_trans (ext_alloc _ _) (ext_alloc _ _)) hb1)
    clear hb1
    go_wp2_with fail
    refine (known_c _).mono ?_
    rintro e w2 ⟨rfl, hb2⟩
    go_wp2_with fail
    go_ret
    exact ⟨rfl, ext_trans B.out hb2⟩
  have hI : ¬ (60 : Int) < (n : Int) := by omega
  have hn60 : n ≤ 60 := by omega
  clear h60
  obtain ⟨X, hX⟩ : ∃ X, X = oneN a := ⟨_, rfl⟩
  obtain ⟨Y, hY⟩ : ∃ Y, Y = twoN a b := ⟨_, rfl⟩
  obtain ⟨Z, hZ⟩ : ∃ Z, Z = manyN xs := ⟨_, rfl⟩
  have LX : X < 18446744073709551616 := by rw [hX]; exact oneN_lt ha
  have LY : Y < 18446744073709551616 := by rw [hY]; exact twoN_lt ha hb
  have LZ : Z < 18446744073709551616 := by rw [hZ]; exact manyN_lt h.out.small (by rw [HL.out]; omega)
  have HX : Hid (oneN a = X) := hX.symm
  have HY : Hid (twoN a b = Y) := hY.symm
  have HZ : Hid (manyN xs = Z) := hZ.symm
  clear hX hY hZ
  have E1 := eql_r LX LX
  rw [decide_eq_true rfl] at E1
  have G1 := guard_r .eql X X
  have E2 := eql_r LY LY
  rw [decide_eq_true rfl] at E2
  have G2 := guard_r .eql Y Y
  have E3 := eql_r LZ LZ
  rw [decide_eq_true rfl] at E3
  have G3 := guard_r .eql Z Z
  unfold digV at E1 G1 E2 G2 E3 G3 ⊢
  go_enter Try.func4, Try.ntmps4
  go_wp2_with fail
  refine (known_c _).mono ?_
  rintro e w1 ⟨rfl, hb1⟩
  have D0 := Lib.hid (keepB (b := w.heap.size) hb1 (keepA (heap_alloc_newest (w := w) rfl)))
  have D1 := Lib.hid (keepB (b := w.heap.size + 1) hb1 (heap_alloc_newest (w := World.alloc _ _) (by simp)))
  have B := Lib.hid (ext_trans (ext_trans (ext_alloc _ _) (ext_alloc _ _)) hb1)
  clear hb1
  go_wp2_with fail
  have O := Lib.hid (OwnD.void w1 25 w1.heap.size)
  have z1 : w.heap.size + 1 < w1.heap.size := (Array.getElem?_eq_some_iff.1 D1.out).1
  go_loopw [7, 22] (fun ov iv wr => ∃ (k : Nat) (A' : Option Addr) (c' : Nat), k ≤ n ∧ iv = .int .i64 k ∧ ov = .slice A' k c' ∧ Hid (OwnD wr 25 w1.heap.size A' k c' (xs.take k)) ∧ Hid (w1.heap.size ≤ wr.heap.size) ∧ Hid (wr.heap[w.heap.size]? = some (.cells #[.int .u8 (byt a 0), .int .u8 (byt a 1), .int .u8 (byt a 2), .int .u8 (byt a 3), .int .u8 (byt a 4), .int .u8 (byt a 5), .int .u8 (byt a 6), .int .u8 (byt a 7)] 23 (0, 0))) ∧ Hid (wr.heap[w.heap.size + 1]? = some (.cells #[.int .u8 (byt b 0), .int .u8 (byt b 1), .int .u8 (byt b 2), .int .u8 (byt b 3), .int .u8 (byt b 4), .int .u8 (byt b 5), .int .u8 (byt b 6), .int .u8 (byt b 7)] 23 (0, 0))) ∧ Hid (Below w.heap.size w wr)) (fun _ iv _ => n - (intOf iv).toNat)
  case atStart => exact ⟨0, none, 0, Nat.zero_le _, rfl, rfl, O.out, Nat.le_refl _, D0.out, D1.out, B.out⟩
  case round =>
    clear O D0 D1 B
    obtain ⟨k, A', c', hk, rfl, rfl, O, ZZ, D0, D1, B⟩ := hrel
    by_cases hlt : k < n
    · have hlen : k < xs.length := by rw [HL.out]; exact hlt
      obtain ⟨b', o', rfl, _, hc⟩ := (h.out.ext B.out).at hlt
      obtain ⟨y, hy⟩ : ∃ y, y = xs.getD k 0 := ⟨_, rfl⟩
      rw [← hy] at hc
      have ly : y < 18446744073709551616 := by rw [hy]; exact getD_lt h.out.small hlen
      have HT : Hid (xs.take (k + 1) = xs.take k ++ [y]) := by
        show xs.take (k + 1) = xs.take k ++ [y]
        rw [List.take_succ_eq_append_getElem hlen, hy]
        simp [hlen]
      obtain ⟨c0, c1, c2, c3, c4, c5, c6, c7⟩ := hc
      have hltI : (k : Int) < (n : Int) := by omega
      have hkI : (0 : Int) ≤ (k : Int) := by omega
      have O2 := Lib.hid (O.out.ext (ext_alloc wr (.cells #[.int .u8 (byt y 0), .int .u8 (byt y 1), .int .u8 (byt y 2), .int .u8 (byt y 3), .int .u8 (byt y 4), .int .u8 (byt y 5), .int .u8 (byt y 6), .int .u8 (byt y 7)] 23)))
      clear hy
      go_wp2_with (refine wpList_pushD (o := ⟨some 29, _, _, _, _, _⟩) rfl (.tmp 26) (.tmp 28) rfl w1.heap.size A' k c' (xs.take k) (by rfl) O2.out y ly (by show (Value.slice (some ⟨wr.heap.size + 1, 0, none⟩) 1 1) = _; simp) (by omega) (Nat.le_trans ZZ.out (ext_alloc _ _).size) ?_; intro A2 c2' w2 ho hb2; have O3 := Lib.hid ho; have B3 := Lib.hid hb2; clear ho hb2; go_simp)
      have hz : w1.heap.size ≤ w2.heap.size := Nat.le_trans ZZ.out (Nat.le_trans (ext_alloc wr _).size B3.out.size)
      have BB := Lib.hid (B.out.trans (((ext_alloc wr _).mono B.out.size).trans (B3.out.mono (by omega))))
      have zw := ZZ.out
      exact ⟨⟨k + 1, A2, c2', by omega, by go_num, rfl, by rw [HT.out]; exact O3.out, hz, (B3.out.block _ (by omega)).trans ((Below.heap_alloc wr _ _ (by omega)).trans D0.out), (B3.out.block _ (by omega)).trans ((Below.heap_alloc wr _ _ (by omega)).trans D1.out), BB.out⟩, by simp [intOf]; omega⟩
    · obtain rfl : k = n := by omega
      have RD : Hid (RdD wr A' k c' xs) := by
        have := O.out.rd
        rw [List.take_of_length_le (by rw [HL.out]; exact Nat.le_refl _)] at this
        exact this
      have RL := Lib.hid (h.out.ext B.out)
      obtain ⟨a0, a1, a2, a3, a4, a5, a6, a7, _, _, _, _, _, _, _, _⟩ := full8 D0.out
      obtain ⟨b0, b1, b2, b3, b4, b5, b6, b7, _, _, _, _, _, _, _, _⟩ := full8 D1.out
      have y0 : w.heap.size < wr.heap.size := (Array.getElem?_eq_some_iff.1 D0.out).1
      have y1 : w.heap.size + 1 < wr.heap.size := (Array.getElem?_eq_some_iff.1 D1.out).1
      go_upto_region 9 with fail
      go_cut [10, 11] (fun x y wx => TwoAt a b wr x y wx)
      case first =>
        go_region
        all_goals (go_wp2_with fail; go_meet; first | exact two_at1 a b wr | exact two_at2 a b wr)
      case rest =>
        obtain ⟨p, q, rfl, rfl, hp, hq, hbw⟩ := hcut
        have P0 := Lib.hid hp
        have P1 := Lib.hid hq
        replace D0 := Lib.hid (keepB hbw D0.out)
        replace D1 := Lib.hid (keepB hbw D1.out)
        replace RD := Lib.hid (RD.out.ext hbw)
        replace RL := Lib.hid (RL.out.ext hbw)
        replace B := Lib.hid (ext_trans B.out hbw)
        clear hp hq hbw a0 a1 a2 a3 a4 a5 a6 a7 b0 b1 b2 b3 b4 b5 b6 b7
        go_wp2_with fail
        refine wp_region_schedC (fun v => Below wc.heap.size wc v) [(true, 0), (true, 2), (false, 1), (false, 3), (true, 4), (true, 5), (true, 6), (true, 7), (true, 9), (true, 10), (false, 8), (false, 11), (true, 12), (true, 13), (true, 14), (true, 15), (true, 17), (false, 16), (false, 18), (true, 19), (true, 20), (true, 21)] (by kernel_rfl) rfl (by kernel_rfl) (by kernel_rfl) (fun _ _ d _ _ h => by cases d <;> exact h) (ext_drew wc) ?_
        intro J0 hJ0
        iterate 2 (refine schedC_pure (v := ?_) rfl (by rfl) ?_ ?_; rotate_left; (focus (intro v hC; obtain ⟨ d0, d1, d2, d3, d4, d5, d6, d7, _, _, _, _, _, _, _, _⟩ := full8 (keepB hC D0.out); obtain ⟨ r0, r1, r2, r3, r4, r5, r6, r7, _, _, _, _, _, _, _, _⟩ := full8 (keepB hC D1.out); obtain ⟨ p0, p1, p2, p3, p4, p5, p6, p7, _, _, _, _, _, _, _, _⟩ := full8 (keepB hC P0.out); obtain ⟨ q0, q1, q2, q3, q4, q5, q6, q7, _, _, _, _, _, _, _, _⟩ := full8 (keepB hC P1.out); go_simp; try with_reducible rfl)); try go_simp)
        refine schedC_eff rfl ?_
        intro J hJ
        go_wp2_with fail
        refine (one_c _ a ha).mono ?_
        rw [HX.out]
        try unfold digV
        rintro e w3 ⟨rfl, hb⟩
        have Q : Hid (Below wc.heap.size wc w3) := Lib.hid (ext_trans (ext_drew wc) hb)
        clear hb
        go_wp2_with fail
        refine ⟨Q.out, ?_⟩
        refine schedC_eff rfl ?_
        intro J hJ
        go_wp2_with fail
        refine (rone_c _ a ha).mono ?_
        rw [HX.out]
        try unfold digV
        rintro e w4 ⟨rfl, hb⟩
        replace Q : Hid (Below wc.heap.size wc w4) := Lib.hid (ext_trans Q.out hb)
        clear hb
        go_wp2_with fail
        refine ⟨Q.out, ?_⟩
        iterate 6 (refine schedC_pure (v := ?_) rfl (by rfl) ?_ ?_; rotate_left; (focus (intro v hC; obtain ⟨ d0, d1, d2, d3, d4, d5, d6, d7, _, _, _, _, _, _, _, _⟩ := full8 (keepB hC D0.out); obtain ⟨ r0, r1, r2, r3, r4, r5, r6, r7, _, _, _, _, _, _, _, _⟩ := full8 (keepB hC D1.out); obtain ⟨ p0, p1, p2, p3, p4, p5, p6, p7, _, _, _, _, _, _, _, _⟩ := full8 (keepB hC P0.out); obtain ⟨ q0, q1, q2, q3, q4, q5, q6, q7, _, _, _, _, _, _, _, _⟩ := full8 (keepB hC P1.out); go_simp; try with_reducible rfl)); try go_simp)
        refine schedC_eff rfl ?_
        intro J hJ
        go_wp2_with fail
        refine (two_c _ a b ha hb).mono ?_
        rw [HY.out]
        try unfold digV
        rintro e w5 ⟨rfl, hb⟩
        replace Q : Hid (Below wc.heap.size wc w5) := Lib.hid (ext_trans Q.out hb)
        clear hb
        go_wp2_with fail
        refine ⟨Q.out, ?_⟩
        refine schedC_eff rfl ?_
        intro J hJ
        go_wp2_with fail
        refine (rtwo_c _ a b ha hb).mono ?_
        rw [HY.out]
        try unfold digV
        rintro e w6 ⟨rfl, hb⟩
        replace Q : Hid (Below wc.heap.size wc w6) := Lib.hid (ext_trans Q.out hb)
        clear hb
        go_wp2_with fail
        refine ⟨Q.out, ?_⟩
        iterate 5 (refine schedC_pure (v := ?_) rfl (by rfl) ?_ ?_; rotate_left; (focus (intro v hC; obtain ⟨ d0, d1, d2, d3, d4, d5, d6, d7, _, _, _, _, _, _, _, _⟩ := full8 (keepB hC D0.out); obtain ⟨ r0, r1, r2, r3, r4, r5, r6, r7, _, _, _, _, _, _, _, _⟩ := full8 (keepB hC D1.out); obtain ⟨ p0, p1, p2, p3, p4, p5, p6, p7, _, _, _, _, _, _, _, _⟩ := full8 (keepB hC P0.out); obtain ⟨ q0, q1, q2, q3, q4, q5, q6, q7, _, _, _, _, _, _, _, _⟩ := full8 (keepB hC P1.out); go_simp; try with_reducible rfl)); try go_simp)
        refine schedC_eff rfl ?_
        intro J hJ
        go_wp2_with fail
        refine (many_c _ _ _ _ _ (RD.out.ext Q.out)).mono ?_
        rw [HZ.out]
        try unfold digV
        rintro e w7 ⟨rfl, hb⟩
        replace Q : Hid (Below wc.heap.size wc w7) := Lib.hid (ext_trans Q.out hb)
        clear hb
        go_wp2_with fail
        refine ⟨Q.out, ?_⟩
        refine schedC_eff rfl ?_
        intro J hJ
        go_wp2_with fail
        refine (rmany_c _ _ _ _ _ (RL.out.ext Q.out)).mono ?_
        rw [HZ.out]
        try unfold digV
        rintro e w8 ⟨rfl, hb⟩
        replace Q : Hid (Below wc.heap.size wc w8) := Lib.hid (ext_trans Q.out hb)
        clear hb
        go_wp2_with fail
        refine ⟨Q.out, ?_⟩
        iterate 3 (refine schedC_pure (v := ?_) rfl (by rfl) ?_ ?_; rotate_left; (focus (intro v hC; obtain ⟨ d0, d1, d2, d3, d4, d5, d6, d7, _, _, _, _, _, _, _, _⟩ := full8 (keepB hC D0.out); obtain ⟨ r0, r1, r2, r3, r4, r5, r6, r7, _, _, _, _, _, _, _, _⟩ := full8 (keepB hC D1.out); obtain ⟨ p0, p1, p2, p3, p4, p5, p6, p7, _, _, _, _, _, _, _, _⟩ := full8 (keepB hC P0.out); obtain ⟨ q0, q1, q2, q3, q4, q5, q6, q7, _, _, _, _, _, _, _, _⟩ := full8 (keepB hC P1.out); go_simp; try with_reducible rfl)); try go_simp)
        refine schedC_nil (hJ0 _ _ ?_)
        go_wp2_with fail
        go_ret
        exact ⟨rfl, ext_trans B.out Q.out⟩
#print axioms walkHashPairs
end Go.Proofs.Ytbiflklmkppnkaa
