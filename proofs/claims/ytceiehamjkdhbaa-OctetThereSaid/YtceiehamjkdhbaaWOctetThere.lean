/-
  OctetThere: the walk.
-/
import Derived.Test.YtceiehamjkdhbaaAArg
import Derived.Test.YtceiehamjkdhbaaAThr
import Derived.Test.YtceiehamjkdhbaaKnown
import Derived.Test.YtceiehamjkdhbaaSchedC
import Derived.Deep.DeepCutAuto
namespace Go.Proofs.Ytceiehamjkdhbaa
open Go.RowKit

theorem drew_grownT (w : World) (r : Option Nat) : w.grownBy w.drew r := ⟨rfl, rfl, rfl, Nat.le_refl _, fun _ _ _ => rfl⟩

set_option maxRecDepth 100000 in
set_option maxHeartbeats 4000000 in
theorem there_c (w : World) (A0 : Option Addr) (n0 c0 : Nat) (fL : Nat → Nat) (A1 : Option Addr) (n1 c1 : Nat) (fK : Nat → Int) (A2 : Option Addr) (n2 c2 : Nat) (fS : Nat → ByteArray)
    (h0 : Hid (RdX w A0 n0 c0 (fun j => .int .u64 (fL j)))) (h1 : Hid (RdX w A1 n1 c1 (fun j => .int .i64 (fK j)))) (h2 : Hid (RdX w A2 n2 c2 (fun j => .string (fS j))))
    (r0 : Hid (∀ j, j < n0 → fL j < 18446744073709551616)) (r1 : Hid (∀ j, j < n1 → -9223372036854775808 ≤ fK j ∧ fK j < 9223372036854775808)) (_r2 : Hid (∀ j, j < n2 → (fS j).size ≤ 9223372036854775807)) :
    Calls Try.prog 6 #[.slice A0 n0 c0, .slice A1 n1 c1, .slice A2 n2 c2] w (Holds w) := by
  have l0 := h0.out.le
  have l1 := h1.out.le
  have l2 := h2.out.le
  have x0 := h0.out.max
  have x1 := h1.out.max
  have x2 := h2.out.max
  obtain ⟨m0, hm0⟩ : ∃ m, m = min n0 20 := ⟨_, rfl⟩
  obtain ⟨m1, hm1⟩ : ∃ m, m = min n1 20 := ⟨_, rfl⟩
  obtain ⟨m2, hm2⟩ : ∃ m, m = min n2 20 := ⟨_, rfl⟩
  have i0 : (m0 : Int) ≤ (c0 : Int) := by omega
  have i1 : (m1 : Int) ≤ (c1 : Int) := by omega
  have i2 : (m2 : Int) ≤ (c2 : Int) := by omega
  have e0 : (if (20 : Int) < (n0 : Int) then (20 : Int) else (n0 : Int)) = (m0 : Int) := by split <;> omega
  have e1 : (if (20 : Int) < (n1 : Int) then (20 : Int) else (n1 : Int)) = (m1 : Int) := by split <;> omega
  have e2 : (if (20 : Int) < (n2 : Int) then (20 : Int) else (n2 : Int)) = (m2 : Int) := by split <;> omega
  have hm0' : m0 ≤ n0 := by omega
  have hm1' : m1 ≤ n1 := by omega
  have hm2' : m2 ≤ n2 := by omega
  have q0 : m0 ≤ 20 := by omega
  have q1 : m1 ≤ 20 := by omega
  have q2 : m2 ≤ 20 := by omega
  clear hm0 hm1 hm2
  go_enter Try.func6, Try.ntmps6
  go_upto_region 1 with fail
  refine wp_region_schedC (fun v => Below w.heap.size w v) [(true, 0), (true, 1), (true, 2), (true, 3), (true, 4), (true, 5), (true, 6), (true, 7), (true, 8), (true, 9), (true, 10), (true, 11), (true, 12), (true, 13), (true, 14), (true, 15), (true, 16), (true, 17)] (by kernel_rfl) rfl (by kernel_rfl) (by kernel_rfl) (fun _ _ d _ _ h => by cases d <;> exact h) (ext_drew w) ?_
  intro J0 hJ0
  iterate 3 (refine schedC_pure (v := ?_) rfl (by rfl) ?_ ?_; rotate_left; (focus (intro v hC; go_simp; try with_reducible rfl)); try go_simp)
  refine schedC_pure (v := .int .i64 (m0 : Int)) rfl (by rfl) ?_ ?_
  · intro v hC; go_simp
  try go_simp
  refine schedC_pure (v := .slice A0 m0 c0) rfl (by rfl) ?_ ?_
  · intro v hC; go_simp
  try go_simp
  iterate 3 (refine schedC_pure (v := ?_) rfl (by rfl) ?_ ?_; rotate_left; (focus (intro v hC; go_simp; try with_reducible rfl)); try go_simp)
  refine schedC_pure (v := .int .i64 (m1 : Int)) rfl (by rfl) ?_ ?_
  · intro v hC; go_simp
  try go_simp
  refine schedC_pure (v := .slice A1 m1 c1) rfl (by rfl) ?_ ?_
  · intro v hC; go_simp
  try go_simp
  iterate 3 (refine schedC_pure (v := ?_) rfl (by rfl) ?_ ?_; rotate_left; (focus (intro v hC; go_simp; try with_reducible rfl)); try go_simp)
  refine schedC_pure (v := .int .i64 (m2 : Int)) rfl (by rfl) ?_ ?_
  · intro v hC; go_simp
  try go_simp
  refine schedC_pure (v := .slice A2 m2 c2) rfl (by rfl) ?_ ?_
  · intro v hC; go_simp
  try go_simp
  iterate 3 (refine schedC_pure (v := ?_) rfl (by rfl) ?_ ?_; rotate_left; (focus (intro v hC; go_simp; try with_reducible rfl)); try go_simp)
  refine schedC_nil (hJ0 _ _ ?_)
  clear hJ0 e0 e1 e2 i0 i1 i2
  have g0 := Lib.hid ((h0.out.front hm0').ext (ext_drew w))
  have g1 := Lib.hid ((h1.out.front hm1').ext (ext_drew w))
  have g2 := Lib.hid ((h2.out.front hm2').ext (ext_drew w))
  replace r0 : Hid (∀ j, j < m0 → fL j < 18446744073709551616) := Lib.hid (fun j hj => r0.out j (by omega))
  replace r1 : Hid (∀ j, j < m1 → -9223372036854775808 ≤ fK j ∧ fK j < 9223372036854775808) := Lib.hid (fun j hj => r1.out j (by omega))
  have B : Hid (Below w.heap.size w w.drew) := Lib.hid (ext_drew w)
  have HS : Hid (w.drew.heap.size = w.heap.size) := rfl
  clear h0 h1 h2
  generalize w.drew = V at *
  obtain ⟨tS, htS⟩ : ∃ f : Nat → ByteArray, f = fun j => (fS j).extract 0 (min (fS j).size 50) := ⟨_, rfl⟩
  have TS : Hid (∀ j, (tS j).size ≤ 50) := by rw [htS]; intro j; show ((fS j).extract 0 (min (fS j).size 50)).size ≤ 50; rw [ByteArray.size_extract]; omega
  have TE : Hid (∀ j, (fS j).extract 0 (min (fS j).size 50) = tS j) := by rw [htS]; intro j; rfl
  clear htS
  obtain ⟨gL, hgL⟩ : ∃ g : Nat → List UInt8, g = fun j => num (fL j) := ⟨_, rfl⟩
  obtain ⟨gK, hgK⟩ : ∃ g : Nat → List UInt8, g = fun j => num (fold (fK j)) := ⟨_, rfl⟩
  obtain ⟨gS, hgS⟩ : ∃ g : Nat → List UInt8, g = fun j => num (tS j).size ++ ((tS j).data.toList ++ (num (tS j).size ++ (tS j).data.toList)) := ⟨_, rfl⟩
  have GL : Hid (∀ j, gL j = num (fL j)) := by rw [hgL]; intro j; rfl
  have GK : Hid (∀ j, gK j = num (fold (fK j))) := by rw [hgK]; intro j; rfl
  have GS : Hid (∀ j, gS j = num (tS j).size ++ ((tS j).data.toList ++ (num (tS j).size ++ (tS j).data.toList))) := by rw [hgS]; intro j; rfl
  clear hgL hgK hgS
  have QL : Hid (∀ i, i ≤ m0 → (preL gL i).length ≤ 200) := fun i hi => by
    have := pre_len (g := gL) (q := 10) i (fun j hj => by rw [GL.out]; exact num_ten (r0.out j (by omega)))
    omega
  have QK : Hid (∀ i, i ≤ m1 → (preL gK i).length ≤ 200) := fun i hi => by
    have := pre_len (g := gK) (q := 10) i (fun j hj => by rw [GK.out]; exact num_ten (fold_lt (r1.out j (by omega)).1 (r1.out j (by omega)).2))
    omega
  have QS : Hid (∀ i, i ≤ m2 → (preL gS i).length ≤ 2400) := fun i hi => by
    have := pre_len (g := gS) (q := 120) i (fun j hj => by
      rw [GS.out]
      have h1 := TS.out j
      have h2 : (tS j).data.toList.length = (tS j).size := by rw [Array.length_toList]; rfl
      have h3 := num_ten (m := (tS j).size) (by omega)
      simp only [List.length_append]
      omega)
    omega
  go_wp2_with fail
  go_loopw [7, 8] (fun ov iv wr => ∃ (i : Nat) (A : Option Addr) (n c : Nat), i ≤ m0 ∧ iv = .int .i64 i ∧ ov = .slice A n c ∧ Hid (Rd wr A n c (preL gL i)) ∧ Hid (Below V.heap.size V wr)) (fun _ iv _ => m0 - (intOf iv).toNat)
  case atStart => exact ⟨0, none, 0, 0, Nat.zero_le _, rfl, rfl, Rd.nil _, Below.refl _ _⟩
  case round =>
    rename World => W
    obtain ⟨i, A, n, c, hi, rfl, rfl, R, BV⟩ := hrel
    have hlen := R.out.len
    by_cases hlt : i < m0
    · have hltI : (i : Int) < (m0 : Int) := by omega
      have hiI : (0 : Int) ≤ (i : Int) := by omega
      obtain ⟨b0, o0, rfl, hb0, hc0⟩ := g0.out.cells (by omega)
      have cc : W.cell? ⟨b0, o0 + i, none⟩ = some (.int .u64 (fL i)) := (BV.out.cell (p := ⟨b0, o0 + i, none⟩) hb0).trans (hc0 i hlt)
      have zb0 : b0 < W.heap.size := Nat.lt_of_lt_of_le hb0 BV.out.size
      clear hc0
      have hq := QL.out i hi
      have r := r0.out i hlt
      obtain ⟨y, hy⟩ : ∃ y, y = fL i := ⟨_, rfl⟩
      rw [← hy] at cc r
      have HT : Hid (preL gL (i + 1) = preL gL i ++ num y) := by show preL gL i ++ gL i = _; rw [GL.out, hy]
      clear hy
      go_wp2_with fail
      refine (putNum_c _ A n c _ R.out (by omega) y r).mono ?_
      rintro e w3 ⟨A3, n3, c3, rfl, ho, hb⟩
      have O3 := Lib.hid ho.rd
      replace BV := Lib.hid (ext_trans BV.out hb)
      clear ho hb
      go_wp2_with fail
      exact ⟨⟨i + 1, A3, n3, c3, by omega, by go_num, rfl, by rw [HT.out]; exact O3.out, BV.out⟩, by simp [intOf]; omega⟩
    · obtain rfl : m0 = i := by omega
      clear hlt
      go_wp2_with fail
      go_loopw [7, 9] (fun ov jv wr => ∃ (i : Nat) (A : Option Addr) (n c : Nat), i ≤ m1 ∧ jv = .int .i64 i ∧ ov = .slice A n c ∧ Hid (Rd wr A n c (preL gL m0 ++ preL gK i)) ∧ Hid (Below V.heap.size V wr)) (fun _ jv _ => m1 - (intOf jv).toNat)
      case atStart => exact ⟨0, A, n, c, Nat.zero_le _, rfl, rfl, by simpa [preL, Hid] using R.out, BV.out⟩
      case round =>
        clear R BV hlen hi
        rename World => W2
        obtain ⟨i, A, n, c, hi, rfl, rfl, R, BV⟩ := hrel
        have hlen := R.out.len
        rw [List.length_append] at hlen
        have p0 := QL.out m0 (Nat.le_refl _)
        have hq := QK.out i hi
        by_cases hlt : i < m1
        · have hltI : (i : Int) < (m1 : Int) := by omega
          have hiI : (0 : Int) ≤ (i : Int) := by omega
          obtain ⟨b0, o0, rfl, hb0, hc0⟩ := g1.out.cells (by omega)
          have cc : W2.cell? ⟨b0, o0 + i, none⟩ = some (.int .i64 (fK i)) := (BV.out.cell (p := ⟨b0, o0 + i, none⟩) hb0).trans (hc0 i hlt)
          have zb0 : b0 < W2.heap.size := Nat.lt_of_lt_of_le hb0 BV.out.size
          clear hc0
          have r := r1.out i hlt
          obtain ⟨y, hy⟩ : ∃ y, y = fK i := ⟨_, rfl⟩
          rw [← hy] at cc r
          have HT : Hid (preL gL m0 ++ preL gK (i + 1) = preL gL m0 ++ preL gK i ++ num (fold y)) := by show preL gL m0 ++ (preL gK i ++ gK i) = _; rw [GK.out, hy, List.append_assoc]
          clear hy
          go_wp2_with fail
          refine (putInt_c _ A n c _ R.out (by omega) y r.1 r.2).mono ?_
          rintro e w3 ⟨A3, n3, c3, rfl, ho, hb⟩
          have O3 := Lib.hid ho.rd
          replace BV := Lib.hid (ext_trans BV.out hb)
          clear ho hb
          go_wp2_with fail
          exact ⟨⟨i + 1, A3, n3, c3, by omega, by go_num, rfl, by rw [HT.out]; exact O3.out, BV.out⟩, by simp [intOf]; omega⟩
        · obtain rfl : m1 = i := by omega
          clear hlt
          go_wp2_with fail
          go_loopw [7, 10] (fun ov jv wr => ∃ (i : Nat) (A : Option Addr) (n c : Nat), i ≤ m2 ∧ jv = .int .i64 i ∧ ov = .slice A n c ∧ Hid (Rd wr A n c (preL gL m0 ++ preL gK m1 ++ preL gS i)) ∧ Hid (Below V.heap.size V wr)) (fun _ jv _ => m2 - (intOf jv).toNat)
          case atStart => exact ⟨0, A, n, c, Nat.zero_le _, rfl, rfl, by simpa [preL, Hid] using R.out, BV.out⟩
          case round =>
            clear R BV hlen hi
            rename World => W3
            obtain ⟨i, A, n, c, hi, rfl, rfl, R, BV⟩ := hrel
            have hlen := R.out.len
            rw [List.length_append, List.length_append] at hlen
            have hq3 := QS.out i hi
            by_cases hlt : i < m2
            · have hltI : (i : Int) < (m2 : Int) := by omega
              have hiI : (0 : Int) ≤ (i : Int) := by omega
              obtain ⟨b0, o0, rfl, hb0, hc0⟩ := g2.out.cells (by omega)
              have cc : W3.cell? ⟨b0, o0 + i, none⟩ = some (.string (fS i)) := (BV.out.cell (p := ⟨b0, o0 + i, none⟩) hb0).trans (hc0 i hlt)
              have zb0 : b0 < W3.heap.size := Nat.lt_of_lt_of_le hb0 BV.out.size
              clear hc0
              obtain ⟨k, hk⟩ : ∃ k, k = min (fS i).size 50 := ⟨_, rfl⟩
              have kI : (k : Int) ≤ ((fS i).size : Int) := by omega
              have k5 : (if (50 : Int) < ((fS i).size : Int) then (50 : Int) else ((fS i).size : Int)) = (k : Int) := by split <;> omega
              have TK : (fS i).extract 0 k = tS i := by rw [hk]; exact TE.out i
              have t50 := TS.out i
              have HG := Lib.hid (GS.out i)
              obtain ⟨z, hz⟩ : ∃ z, z = fS i := ⟨_, rfl⟩
              obtain ⟨t, ht⟩ : ∃ t, t = tS i := ⟨_, rfl⟩
              rw [← hz] at cc kI k5 TK
              rw [← ht] at TK t50 HG
              clear hz ht hk
              have hts : t.size ≤ maxLen := by simp only [maxLen]; omega
              have HT : Hid (preL gL m0 ++ preL gK m1 ++ preL gS (i + 1) = preL gL m0 ++ preL gK m1 ++ preL gS i ++ num t.data.toList.length ++ t.data.toList ++ num t.size ++ t.data.toList) := by
                show preL gL m0 ++ preL gK m1 ++ (preL gS i ++ gS i) = _
                rw [HG.out, show t.data.toList.length = t.size by rw [Array.length_toList]; rfl]
                simp only [List.append_assoc]
              have LT : t.data.toList.length = t.size := by rw [Array.length_toList]; rfl
              clear HG
              go_upto_region 14 with fail
              refine wp_region_schedC (fun v => Below W3.heap.size W3 v) [(true, 0), (true, 1), (true, 2), (true, 3), (true, 4), (true, 5), (true, 6), (true, 7), (true, 8), (true, 9), (true, 10), (true, 11)] (by kernel_rfl) rfl (by kernel_rfl) (by kernel_rfl) (fun _ _ d _ _ h => by cases d <;> exact h) (ext_drew W3) ?_
              intro J0 hJ0
              iterate 9 (refine schedC_pure (v := ?_) rfl (by rfl) ?_ ?_; rotate_left; (focus (intro v hC; have cd := (hC.cell (p := ⟨b0, o0 + i, none⟩) zb0).trans cc; go_simp; try with_reducible rfl)); try go_simp)
              refine schedC_pure (v := .int .i64 (k : Int)) rfl (by rfl) ?_ ?_
              · intro v hC; go_simp
              try go_simp
              refine schedC_pure (v := .string t) rfl (by rfl) ?_ ?_
              · intro v hC; go_simp
              try go_simp
              iterate 1 (refine schedC_pure (v := ?_) rfl (by rfl) ?_ ?_; rotate_left; (focus (intro v hC; go_simp; try with_reducible rfl)); try go_simp)
              refine schedC_nil (hJ0 _ _ ?_)
              clear hJ0 cc zb0 kI k5 TK
              replace R := Lib.hid (R.out.ext (ext_drew W3))
              replace BV := Lib.hid (ext_trans BV.out (ext_drew W3))
              generalize W3.drew = W4 at *
              obtain ⟨c5, w5, hrun, hRd, _, hb⟩ := str_conv W4 t hts
              have RT := Lib.hid hRd
              replace R := Lib.hid (R.out.ext hb)
              replace BV := Lib.hid (ext_trans BV.out hb)
              clear hb hRd
              go_wp2_with fail
              clear hrun
              refine (putBytes_c _ A n c _ R.out (by omega) _ _ _ _ RT.out (by omega)).mono ?_
              rintro e w6 ⟨A6, n6, c6, rfl, ho, hb⟩
              have O6 := Lib.hid ho.rd
              have n6l : n6 ≤ 1000000000000 := by
                have h1 := ho.len
                have h2 := num_ten (m := t.data.toList.length) (by omega)
                simp only [List.length_append] at h1
                omega
              replace BV := Lib.hid (ext_trans BV.out hb)
              clear ho hb RT R
              go_wp2_with fail
              refine (putText_c _ A6 n6 c6 _ O6.out n6l t (by omega)).mono ?_
              rintro e w7 ⟨A7, n7, c7, rfl, ho, hb⟩
              have O7 := Lib.hid ho.rd
              replace BV := Lib.hid (ext_trans BV.out hb)
              clear ho hb O6
              go_wp2_with fail
              exact ⟨⟨i + 1, A7, n7, c7, by omega, by go_num, rfl, by rw [HT.out]; exact O7.out, BV.out⟩, by simp [intOf]; omega⟩
            · obtain rfl : m2 = i := by omega
              clear hlt
              have LB : n ≤ 100000000000000 := by
                have h3 := QL.out m0 (Nat.le_refl _)
                have h4 := QK.out m1 (Nat.le_refl _)
                omega
              go_wp2_with fail
              refine (newReader_c _ A n c _ R.out LB).mono ?_
              rintro e w8 ⟨b, A8, n8, c8, rfl, h8, zb', hb⟩
              have zb : V.heap.size ≤ b := Nat.le_trans BV.out.size zb'
              have R8 : Hid (Rdr w8 b A8 n8 c8 (sufL gL m0 0 ++ (sufL gK m1 0 ++ sufL gS m2 0)) 0) := by
                have := h8
                rw [suf_all, suf_all, suf_all, List.append_assoc] at this
                exact this
              replace BV := Lib.hid (ext_trans BV.out hb)
              clear hb h8 zb' R
              go_wp2_with fail
              go_loopw [13] (fun iv wr => ∃ (i : Nat) (A : Option Addr) (n c : Nat), i ≤ m0 ∧ iv = .int .i64 i ∧ Hid (Rdr wr b A n c (sufL gL (m0 - i) i ++ (sufL gK m1 0 ++ sufL gS m2 0)) 0) ∧ Hid (Below V.heap.size V wr)) (fun iv _ => m0 - (intOf iv).toNat)
              case atStart => exact ⟨0, A8, n8, c8, Nat.zero_le _, rfl, R8.out, BV.out⟩
              case round =>
                clear R8 BV
                rename World => X1
                obtain ⟨i, A, n, c, hi, rfl, RR, BV⟩ := hrel
                by_cases hlt : i < m0
                · have hltI : (i : Int) < (m0 : Int) := by omega
                  have hiI : (0 : Int) ≤ (i : Int) := by omega
                  obtain ⟨b0, o0, rfl, hb0, hc0⟩ := g0.out.cells (by omega)
                  have cc : X1.cell? ⟨b0, o0 + i, none⟩ = some (.int .u64 (fL i)) := (BV.out.cell (p := ⟨b0, o0 + i, none⟩) hb0).trans (hc0 i hlt)
                  have zb0 : b0 < X1.heap.size := Nat.lt_of_lt_of_le hb0 BV.out.size
                  clear hc0
                  have nb : ¬ some b0 = some b := by intro e; injection e with e; omega
                  have r := r0.out i hlt
                  have hst := suf_step gL hlt
                  rw [GL.out] at hst
                  obtain ⟨y, hy⟩ : ∃ y, y = fL i := ⟨_, rfl⟩
                  rw [← hy] at cc r hst
                  have HR : Hid (rnum (sufL gL (m0 - i) i ++ (sufL gK m1 0 ++ sufL gS m2 0)) 0 y = (y, sufL gL (m0 - (i + 1)) (i + 1) ++ (sufL gK m1 0 ++ sufL gS m2 0), 0)) := by
                    show _ = _
                    rw [hst, List.append_assoc, rnum_num r _ (Nat.le_refl _)]
                  clear hy hst
                  go_upto_region 22 with fail
                  refine wp_region_schedC (fun v => World.grownBy X1 v (some b)) [(true, 0), (true, 1), (true, 2), (true, 3), (true, 4), (true, 6), (true, 7), (true, 8), (true, 9), (false, 5), (true, 10)] (by kernel_rfl) rfl (by kernel_rfl) (by kernel_rfl) (fun _ _ d _ _ h => by cases d <;> exact h) (drew_grownT X1 _) ?_
                  intro J0 hJ0
                  iterate 9 (refine schedC_pure (v := ?_) rfl (by rfl) ?_ ?_; rotate_left; (focus (intro v hC; have cq := (World.cell?_of_block (a := ⟨b0, o0 + i, none⟩) (hC.block b0 zb0 nb)).trans cc; go_simp; try with_reducible rfl)); try go_simp)
                  refine schedC_eff rfl ?_
                  intro J hJ
                  go_wp2_with fail
                  refine (num_r _ b A n c _ 0 (RR.out.ext (ext_drew X1)) y).mono ?_
                  rw [HR.out]
                  unfold Reads1
                  rintro e w9 ⟨rfl, A5, n5, c5, h5, hg⟩
                  have R5 := Lib.hid h5
                  have G5 : Hid (World.grownBy X1 w9 (some b)) := Lib.hid (grownBy_trans (drew_grownT X1 _) hg)
                  clear h5 hg
                  go_wp2_with fail
                  refine ⟨G5.out, ?_⟩
                  iterate 1 (refine schedC_pure (v := ?_) rfl (by rfl) ?_ ?_; rotate_left; (focus (intro v hC; go_simp; try with_reducible rfl)); try go_simp)
                  refine schedC_nil (hJ0 _ _ ?_)
                  clear hJ0 RR
                  replace BV := Lib.hid (below_grown BV.out BV.out.size G5.out (fun k hk => by injection hk with hk; omega))
                  go_wp2_with fail
                  exact ⟨⟨i + 1, A5, n5, c5, by omega, by go_num, R5.out, BV.out⟩, by simp [intOf]; omega⟩
                · obtain rfl : m0 = i := by omega
                  clear hlt
                  rw [Nat.sub_self] at RR
                  go_wp2_with fail
                  go_loopw [14] (fun iv wr => ∃ (i : Nat) (A : Option Addr) (n c : Nat), i ≤ m1 ∧ iv = .int .i64 i ∧ Hid (Rdr wr b A n c (sufL gK (m1 - i) i ++ sufL gS m2 0) 0) ∧ Hid (Below V.heap.size V wr)) (fun iv _ => m1 - (intOf iv).toNat)
                  case atStart => exact ⟨0, A, n, c, Nat.zero_le _, rfl, RR.out, BV.out⟩
                  case round =>
                    clear RR BV hi
                    rename World => X2
                    obtain ⟨i, A, n, c, hi, rfl, RR, BV⟩ := hrel
                    by_cases hlt : i < m1
                    · have hltI : (i : Int) < (m1 : Int) := by omega
                      have hiI : (0 : Int) ≤ (i : Int) := by omega
                      obtain ⟨b0, o0, rfl, hb0, hc0⟩ := g1.out.cells (by omega)
                      have cc : X2.cell? ⟨b0, o0 + i, none⟩ = some (.int .i64 (fK i)) := (BV.out.cell (p := ⟨b0, o0 + i, none⟩) hb0).trans (hc0 i hlt)
                      have zb0 : b0 < X2.heap.size := Nat.lt_of_lt_of_le hb0 BV.out.size
                      clear hc0
                      have nb : ¬ some b0 = some b := by intro e; injection e with e; omega
                      have r := r1.out i hlt
                      have hst := suf_step gK hlt
                      rw [GK.out] at hst
                      obtain ⟨y, hy⟩ : ∃ y, y = fK i := ⟨_, rfl⟩
                      rw [← hy] at cc r hst
                      have HR : Hid (rnum (sufL gK (m1 - i) i ++ sufL gS m2 0) 0 18446744073709551615 = (fold y, sufL gK (m1 - (i + 1)) (i + 1) ++ sufL gS m2 0, 0)) := by
                        show _ = _
                        rw [hst, List.append_assoc, rnum_num (fold_lt r.1 r.2) _ (by have := fold_lt r.1 r.2; omega)]
                      have C5 : Hid (Calls Try.prog 24 #[.pointer (some ⟨b, 0, none⟩)] X2.drew (Reads1 X2.drew b (.int .i64 y) (sufL gK (m1 - (i + 1)) (i + 1) ++ sufL gS m2 0) 0)) := by
                        have := int_r X2.drew b A n c _ 0 (RR.out.ext (ext_drew X2))
                        rw [HR.out] at this
                        dsimp only at this
                        rw [unfold_fold] at this
                        exact this
                      clear hy hst
                      go_upto_region 27 with fail
                      refine wp_region_schedC (fun v => World.grownBy X2 v (some b)) [(true, 0), (true, 2), (true, 3), (true, 4), (true, 5), (false, 1), (true, 6)] (by kernel_rfl) rfl (by kernel_rfl) (by kernel_rfl) (fun _ _ d _ _ h => by cases d <;> exact h) (drew_grownT X2 _) ?_
                      intro J0 hJ0
                      iterate 5 (refine schedC_pure (v := ?_) rfl (by rfl) ?_ ?_; rotate_left; (focus (intro v hC; have cq := (World.cell?_of_block (a := ⟨b0, o0 + i, none⟩) (hC.block b0 zb0 nb)).trans cc; go_simp; try with_reducible rfl)); try go_simp)
                      refine schedC_eff rfl ?_
                      intro J hJ
                      go_wp2_with fail
                      refine (C5.out).mono ?_
                      unfold Reads1
                      rintro e w9 ⟨rfl, A5, n5, c5, h5, hg⟩
                      have R5 := Lib.hid h5
                      have G5 : Hid (World.grownBy X2 w9 (some b)) := Lib.hid (grownBy_trans (drew_grownT X2 _) hg)
                      clear h5 hg
                      go_wp2_with fail
                      refine ⟨G5.out, ?_⟩
                      iterate 1 (refine schedC_pure (v := ?_) rfl (by rfl) ?_ ?_; rotate_left; (focus (intro v hC; go_simp; try with_reducible rfl)); try go_simp)
                      refine schedC_nil (hJ0 _ _ ?_)
                      clear hJ0 RR C5
                      replace BV := Lib.hid (below_grown BV.out BV.out.size G5.out (fun k hk => by injection hk with hk; omega))
                      go_wp2_with fail
                      exact ⟨⟨i + 1, A5, n5, c5, by omega, by go_num, R5.out, BV.out⟩, by simp [intOf]; omega⟩
                    · obtain rfl : m1 = i := by omega
                      clear hlt
                      rw [Nat.sub_self] at RR
                      go_wp2_with fail
                      go_loopw [15] (fun iv wr => ∃ (i : Nat) (A : Option Addr) (n c : Nat), i ≤ m2 ∧ iv = .int .i64 i ∧ Hid (Rdr wr b A n c (sufL gS (m2 - i) i) 0) ∧ Hid (Below V.heap.size V wr)) (fun iv _ => m2 - (intOf iv).toNat)
                      case atStart => exact ⟨0, A, n, c, Nat.zero_le _, rfl, RR.out, BV.out⟩
                      case round =>
                        clear RR BV hi
                        rename World => X3
                        obtain ⟨i, A, n, c, hi, rfl, RR, BV⟩ := hrel
                        by_cases hlt : i < m2
                        · have hltI : (i : Int) < (m2 : Int) := by omega
                          have hiI : (0 : Int) ≤ (i : Int) := by omega
                          obtain ⟨b0, o0, rfl, hb0, hc0⟩ := g2.out.cells (by omega)
                          have cc : X3.cell? ⟨b0, o0 + i, none⟩ = some (.string (fS i)) := (BV.out.cell (p := ⟨b0, o0 + i, none⟩) hb0).trans (hc0 i hlt)
                          have zb0 : b0 < X3.heap.size := Nat.lt_of_lt_of_le hb0 BV.out.size
                          clear hc0
                          obtain ⟨k, hk⟩ : ∃ k, k = min (fS i).size 50 := ⟨_, rfl⟩
                          have kI : (k : Int) ≤ ((fS i).size : Int) := by omega
                          have k5 : (if (50 : Int) < ((fS i).size : Int) then (50 : Int) else ((fS i).size : Int)) = (k : Int) := by split <;> omega
                          have TK : (fS i).extract 0 k = tS i := by rw [hk]; exact TE.out i
                          have t50 := TS.out i
                          have HG := Lib.hid (GS.out i)
                          obtain ⟨z, hz⟩ : ∃ z, z = fS i := ⟨_, rfl⟩
                          obtain ⟨t, ht⟩ : ∃ t, t = tS i := ⟨_, rfl⟩
                          rw [← hz] at cc kI k5 TK
                          rw [← ht] at TK t50 HG
                          clear hz ht hk
                          obtain ⟨cs, hcs⟩ : ∃ l, l = t.data.toList := ⟨_, rfl⟩
                          have et : Hid ((⟨cs.toArray⟩ : ByteArray) = t) := by show _ = _; rw [hcs]
                          have LT : cs.length = t.size := by rw [hcs, Array.length_toList]; try rfl
                          rw [← hcs] at HG
                          clear hcs
                          have hn5 : n ≤ 1000000000000 := by
                            have h3 := congrArg List.length (pre_suf gS (m2 - i) i)
                            rw [show i + (m2 - i) = m2 by omega, List.length_append] at h3
                            have h4 := QS.out m2 (Nat.le_refl _)
                            have h5 := RR.out.rd.len
                            omega
                          have hst := suf_step gS hlt
                          rw [HG.out, ← LT] at hst
                          obtain ⟨rest, hrest⟩ : ∃ l, l = sufL gS (m2 - (i + 1)) (i + 1) := ⟨_, rfl⟩
                          rw [← hrest] at hst
                          have HR1 : Hid (rbytes (sufL gS (m2 - i) i) 0 50 = (cs, num cs.length ++ (cs ++ rest), 0)) := by
                            show _ = _
                            rw [hst, List.append_assoc, List.append_assoc, rbytes_num (by omega), List.append_assoc]
                          have HR2 : Hid (rbytes (num cs.length ++ (cs ++ rest)) 0 50 = (cs, rest, 0)) := by
                            show _ = _
                            rw [rbytes_num (by omega)]
                          have HRS := Lib.hid hrest
                          have ln : (num cs.length ++ (cs ++ rest)).length ≤ n := by
                            have h5 := RR.out.rd.len
                            rw [hst] at h5
                            simp only [List.length_append] at h5 ⊢
                            omega
                          clear HG hst hrest
                          go_upto_region 32 with fail
                          refine wp_region_schedC (fun v => Below X3.heap.size X3 v) [(true, 0), (true, 1), (true, 2), (true, 3), (true, 4), (true, 5), (true, 6), (true, 7), (true, 8), (true, 9), (true, 10), (true, 11)] (by kernel_rfl) rfl (by kernel_rfl) (by kernel_rfl) (fun _ _ d _ _ h => by cases d <;> exact h) (ext_drew X3) ?_
                          intro J0 hJ0
                          iterate 9 (refine schedC_pure (v := ?_) rfl (by rfl) ?_ ?_; rotate_left; (focus (intro v hC; have cd := (hC.cell (p := ⟨b0, o0 + i, none⟩) zb0).trans cc; go_simp; try with_reducible rfl)); try go_simp)
                          refine schedC_pure (v := .int .i64 (k : Int)) rfl (by rfl) ?_ ?_
                          · intro v hC; go_simp
                          try go_simp
                          refine schedC_pure (v := .string t) rfl (by rfl) ?_ ?_
                          · intro v hC; go_simp
                          try go_simp
                          iterate 1 (refine schedC_pure (v := ?_) rfl (by rfl) ?_ ?_; rotate_left; (focus (intro v hC; go_simp; try with_reducible rfl)); try go_simp)
                          refine schedC_nil (hJ0 _ _ ?_)
                          clear hJ0 cc zb0 kI k5 TK
                          replace RR := Lib.hid (RR.out.ext (ext_drew X3))
                          replace BV := Lib.hid (ext_trans BV.out (ext_drew X3))
                          generalize X3.drew = X4 at *
                          go_wp2_with fail
                          refine (bytes_r _ b A n c _ 0 RR.out hn5 50 (by omega) (by omega)).mono ?_
                          rw [HR1.out]
                          rintro e w9 ⟨⟨A9, n9, c9, rfl, h9⟩, A5, n5, c5, h5, hg⟩
                          have TX := h9.text Try.underlying22 Try.underlying5 Try.underlying9
                          dsimp only at TX h5
                          rw [et.out] at TX
                          have R5 := Lib.hid h5
                          have n5l : n5 ≤ 1000000000000 := by have := h5.rd.len; omega
                          replace BV := Lib.hid (below_grown BV.out BV.out.size hg (fun k hk => by injection hk with hk; omega))
                          clear h9 h5 hg RR
                          go_wp2_with fail
                          refine (text_r _ b A5 n5 c5 _ 0 R5.out n5l 50 (by omega) (by omega)).mono ?_
                          rw [HR2.out]
                          unfold Reads1
                          dsimp only
                          rw [et.out]
                          rintro e w10 ⟨rfl, A6, n6, c6, h6, hg⟩
                          have R6 := Lib.hid h6
                          replace BV := Lib.hid (below_grown BV.out BV.out.size hg (fun k hk => by injection hk with hk; omega))
                          clear h6 hg R5
                          go_wp2_with fail
                          exact ⟨⟨i + 1, A6, n6, c6, by omega, by go_num, by rw [← HRS.out]; exact R6.out, BV.out⟩, by simp [intOf]; omega⟩
                        · obtain rfl : m2 = i := by omega
                          clear hlt
                          rw [Nat.sub_self] at RR
                          have RZ : Hid (Rdr X3 b A n c [] 0) := RR
                          obtain rfl : n = 0 := by have := RZ.out.rd.len; simpa using this.symm
                          have RE : Hid (rend 0 0 = 0) := by show _ = _; unfold rend; simp
                          clear RR
                          go_wp2_with fail
                          refine (known_c _).mono ?_
                          rintro e w9 ⟨rfl, hb⟩
                          replace RZ := Lib.hid (RZ.out.ext hb)
                          replace BV := Lib.hid (ext_trans BV.out hb)
                          clear hb
                          go_wp2_with fail
                          refine (end_r _ b A 0 c [] 0 RZ.out).mono ?_
                          rw [RE.out]
                          rintro e w10 ⟨rfl, rfl⟩
                          go_wp2_with fail
                          refine (left_r _ b A 0 c [] 0 RZ.out).mono ?_
                          rintro e w10 ⟨rfl, rfl⟩
                          go_wp2_with fail
                          go_ret
                          exact ⟨rfl, by have := BV.out; have h := B.out; exact h.trans (this.mono h.size)⟩

theorem walkOctetThere (w : World) (A0 : Option Addr) (n0 c0 : Nat) (fL : Nat → Nat) (A1 : Option Addr) (n1 c1 : Nat) (fK : Nat → Int) (A2 : Option Addr) (n2 c2 : Nat) (fS : Nat → ByteArray)
    (h0 : RdX w A0 n0 c0 (fun j => .int .u64 (fL j))) (r0 : ∀ j, j < n0 → fL j < 18446744073709551616) (h1 : RdX w A1 n1 c1 (fun j => .int .i64 (fK j))) (r1 : ∀ j, j < n1 → -9223372036854775808 ≤ fK j ∧ fK j < 9223372036854775808)
    (h2 : RdX w A2 n2 c2 (fun j => .string (fS j))) (r2 : ∀ j, j < n2 → (fS j).size ≤ 9223372036854775807) :
    Calls Try.prog 6 #[.slice A0 n0 c0, .slice A1 n1 c1, .slice A2 n2 c2] w (Holds w) := there_c w A0 n0 c0 fL A1 n1 c1 fK A2 n2 c2 fS h0 h1 h2 r0 r1 r2
#print axioms walkOctetThere
end Go.Proofs.Ytceiehamjkdhbaa
