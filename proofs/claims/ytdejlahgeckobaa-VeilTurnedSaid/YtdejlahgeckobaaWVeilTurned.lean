/-
  VeilTurned: the walk.
-/
import Derived.Test.YtdejlahgeckobaaVTold
import Derived.Test.YtdejlahgeckobaaHOpen2
namespace Go.Proofs.Ytdejlahgeckobaa
open Go.RowKit

theorem mod_case2 (U n : Nat) (h : 0 < n) : ∃ j : Nat, j < n ∧ (U : Int) % (n : Int) = (j : Int) := ⟨U % n, Nat.mod_lt _ h, by omega⟩
theorem full2 {w : World} {b : Nat} {T : TypeId} {x0 x1 : Value} (h : w.heap[b]? = some (.cells #[x0, x1] T (0, 0))) : w.cell? ⟨b, 0, none⟩ = some x0 ∧ w.cell? ⟨b, 1, none⟩ = some x1 :=
  ⟨by rw [cell_of_row w _ 0 _ _ _ h]; rfl, by rw [cell_of_row w _ 1 _ _ _ h]; rfl⟩

set_option maxRecDepth 100000 in
set_option maxHeartbeats 4000000 in
theorem walkVeilTurned (w : World) (k : Nat) (A : Option Addr) (n c : Nat) (bs : List UInt8) (a b : Int) (hk : k < 18446744073709551616) (h0 : Rd w A n c bs) (_ : -9223372036854775808 ≤ a ∧ a < 9223372036854775808) (_ : -9223372036854775808 ≤ b ∧ b < 9223372036854775808) :
    Calls Try.prog 12 #[digV k, .slice A n c, .agg #[.int .i64 a, .int .i64 b]] w (Holds w) := by
  have h := Lib.hid h0
  clear h0
  have hle := h.out.le
  have hmax := h.out.max
  obtain ⟨m, hm⟩ : ∃ m, m = min n 300 := ⟨_, rfl⟩
  have m3 : m ≤ 300 := by omega
  have mn : m ≤ n := by omega
  have RM : Hid (Rd w A m c (bs.take m)) := h.out.front mn
  obtain ⟨ms, hms⟩ : ∃ l, l = bs.take m := ⟨_, rfl⟩
  rw [← hms] at RM
  have ML : Hid (ms.length = m) := RM.out.len
  have mI : (m : Int) ≤ (c : Int) := by omega
  have HM := Lib.hid hm
  clear hms hm
  obtain ⟨y, hy⟩ : ∃ y : UInt8, IntKind.u8.wrap b = (y.toNat : Int) := ⟨UInt8.ofNat (b % 256).toNat, by
    rw [IntKind.wrap_u8, UInt8.toNat_ofNat']
    omega⟩
  by_cases hy0 : y = 0
  · have HB : Hid (sealR k ms = boxB k ms) := by show _ = _; unfold sealR; rw [if_pos (by rw [ML.out]; omega)]
    obtain ⟨X, hX⟩ : ∃ X, X = boxB k ms := ⟨_, rfl⟩
    rw [← hX] at HB
    obtain ⟨L, hL⟩ : ∃ L, L = m + 8 := ⟨_, rfl⟩
    have XL : Hid (X.length = L) := by rw [hX]; show _ = _; rw [boxB_len, ML.out, hL]
    have L8 : 8 ≤ L := by omega
    have L3 : L ≤ 308 := by omega
    have gL : ¬ (L : Int) < 8 := by omega
    obtain ⟨U, hU⟩ : ∃ U : Nat, IntKind.u64.wrap a = (U : Int) := ⟨(IntKind.u64.wrap a).toNat, by rw [IntKind.wrap_u64]; omega⟩
    obtain ⟨j, hj, ej⟩ := mod_case2 U L (by omega)
    have z2 : ((L : Int) == 0) = false := by rw [beq_eq_false_iff_ne]; omega
    have jI : (j : Int) < (L : Int) := by omega
    have jI0 : (0 : Int) ≤ (j : Int) := by omega
    obtain ⟨x, hx⟩ : ∃ x, x = X.getD j 0 := ⟨_, rfl⟩
    obtain ⟨z, hz⟩ : ∃ z, z = x + y := ⟨_, rfl⟩
    have ez : ((x.toNat : Int) + (y.toNat : Int)) % 256 = (z.toNat : Int) := by rw [hz, UInt8.toNat_add]; omega
    have HX := Lib.hid hx
    have hX2 : X.set j z = X := by
      have : z = X.getD j 0 := by rw [hz, hx, hy0]; simp
      rw [this]
      apply List.ext_getElem
      · simp
      · intro i h1 h2
        rw [List.getElem_set]
        split
        · rename_i e; subst e; simp [List.getD, h2]
        · rfl
    have hp : openR k (X.set j z) = (ms, 0) := by rw [hX2, hX]; exact openR_box hk (by rw [ML.out]; omega)
    have HP := Lib.hid hp
    have YZ : Hid (y.toNat = 0) := by rw [hy0]; exact rfl
    have HL := Lib.hid hL
    clear hX2 hp hy0 hX hx hz hL
    unfold digV
    go_enter Try.func12, Try.ntmps12
    go_wp2_with fail
    generalize hW : World.alloc (World.alloc w (.cells #[.int .u8 (byt k 0), .int .u8 (byt k 1), .int .u8 (byt k 2), .int .u8 (byt k 3), .int .u8 (byt k 4), .int .u8 (byt k 5), .int .u8 (byt k 6), .int .u8 (byt k 7)] 31)) (.cells #[.int .i64 a, .int .i64 b] 62) = W
    have DK : Hid (W.heap[w.heap.size]? = some (.cells #[.int .u8 (byt k 0), .int .u8 (byt k 1), .int .u8 (byt k 2), .int .u8 (byt k 3), .int .u8 (byt k 4), .int .u8 (byt k 5), .int .u8 (byt k 6), .int .u8 (byt k 7)] 31 (0, 0))) := by rw [← hW]; exact keepA (Go.heap_alloc_new w _)
    have DH : Hid (W.heap[w.heap.size + 1]? = some (.cells #[.int .i64 a, .int .i64 b] 62 (0, 0))) := by rw [← hW]; exact heap_alloc_newest (w := World.alloc _ _) (by simp)
    have B : Hid (Below w.heap.size w W) := by rw [← hW]; exact ext_trans (ext_alloc _ _) (ext_alloc _ _)
    clear hW
    refine wp_region_schedC (fun v => Below W.heap.size W v) [(true, 0), (true, 1), (true, 2), (true, 3), (true, 4), (true, 5), (true, 6)] (by kernel_rfl) rfl (by kernel_rfl) (by kernel_rfl) (fun _ _ d _ _ h => by cases d <;> exact h) (ext_drew W) ?_
    intro J0 hJ0
    iterate 7 (refine schedC_pure (v := ?_) rfl (by rfl) ?_ ?_; rotate_left; (focus (intro v hC; obtain ⟨h0, h1⟩ := full2 (keepB hC DH.out); go_simp; try with_reducible rfl)); try go_simp)
    refine schedC_nil (hJ0 _ _ ?_)
    clear hJ0
    replace DK : Hid (W.drew.heap[w.heap.size]? = some (.cells #[.int .u8 (byt k 0), .int .u8 (byt k 1), .int .u8 (byt k 2), .int .u8 (byt k 3), .int .u8 (byt k 4), .int .u8 (byt k 5), .int .u8 (byt k 6), .int .u8 (byt k 7)] 31 (0, 0))) := DK.out
    replace B : Hid (Below w.heap.size w W.drew) := ext_trans B.out (ext_drew W)
    clear DH
    generalize W.drew = V at *
    have zk : w.heap.size < V.heap.size := (Array.getElem?_eq_some_iff.1 DK.out).1
    go_wp2_with fail
    refine wp_region_schedC (fun v => Below V.heap.size V v) [(true, 0), (true, 1), (false, 2), (false, 3), (true, 4)] (by kernel_rfl) rfl (by kernel_rfl) (by kernel_rfl) (fun _ _ d _ _ h => by cases d <;> exact h) (ext_drew V) ?_
    intro J0 hJ0
    iterate 2 (refine schedC_pure (v := ?_) rfl (by rfl) ?_ ?_; rotate_left; (focus (intro v hC; obtain ⟨k0, k1, k2, k3, k4, k5, k6, k7, _, _, _, _, _, _, _, _⟩ := full8 (keepB hC DK.out); go_simp; try with_reducible rfl)); try go_simp)
    refine schedC_eff rfl ?_
    intro J hJ
    go_wp2_with fail
    refine (few_c _ A n c bs (Lib.hid (h.out.ext (ext_trans B.out (ext_drew V))))).mono ?_
    rw [← HM.out]
    rintro e w2 ⟨rfl, rfl⟩
    go_wp2_with fail
    refine ⟨ext_drew V, ?_⟩
    refine schedC_eff rfl ?_
    intro J hJ
    go_wp2_with fail
    try rw [← show digV k = .agg #[.int .u8 (byt k 0), .int .u8 (byt k 1), .int .u8 (byt k 2), .int .u8 (byt k 3), .int .u8 (byt k 4), .int .u8 (byt k 5), .int .u8 (byt k 6), .int .u8 (byt k 7)] from rfl]
    refine ((seal_c _ k hk A m c ms (Lib.hid (RM.out.ext (ext_trans B.out (ext_drew V)))) (by omega))).mono ?_
    rw [HB.out]
    rintro e w3 ⟨E, A3, n3, c3, rfl, ho, hb⟩
    have CC : Hid (Below V.heap.size V w3) := Lib.hid (ext_trans (ext_drew V) hb)
    obtain rfl : L = n3 := by rw [← ho.len, XL.out]
    have O3 : Hid (Own w3 E V.heap.size A3 L c3 X) := ho
    clear ho
    clear hb
    go_wp2_with fail
    refine ⟨CC.out, ?_⟩
    iterate 1 (refine schedC_pure (v := ?_) rfl (by rfl) ?_ ?_; rotate_left; (focus (intro v hC; go_simp; try with_reducible rfl)); try go_simp)
    refine schedC_nil (hJ0 _ _ ?_)
    clear hJ0
    replace DK := Lib.hid (keepB CC.out DK.out)
    replace B := Lib.hid (ext_trans B.out CC.out)
    clear CC
    go_wp2_with fail
    refine (told_c _).mono ?_
    rintro e w4 ⟨rfl, hb⟩
    replace DK := Lib.hid (keepB hb DK.out)
    replace B := Lib.hid (ext_trans B.out hb)
    have O4 := Lib.hid (O3.out.ext hb)
    obtain ⟨g, rfl, hg1, hg2⟩ := O4.out.blockless (by omega)
    have hc := O4.out.row.cellAt j (by omega)
    rw [U8_getD (by rw [O4.out.len]; exact hj), ← HX.out] at hc
    have fr := O4.out.row.frozenAt j
    have le3 := O4.out.rd.le
    have mx3 := O4.out.max
    clear hb O3
    go_upto_region 7 with fail
    have O5 : Hid (Own (w4.setCell ⟨g, j, none⟩ (.int .u8 z.toNat)) E V.heap.size (some ⟨g, 0, none⟩) L c3 (X.set j z)) := (O4.out.set j z).1
    replace DK : Hid ((w4.setCell ⟨g, j, none⟩ (.int .u8 z.toNat)).heap[w.heap.size]? = some (.cells #[.int .u8 (byt k 0), .int .u8 (byt k 1), .int .u8 (byt k 2), .int .u8 (byt k 3), .int .u8 (byt k 4), .int .u8 (byt k 5), .int .u8 (byt k 6), .int .u8 (byt k 7)] 31 (0, 0))) := keepG (O4.out.set j z).2 (by omega) DK.out
    replace B : Hid (Below w.heap.size w (w4.setCell ⟨g, j, none⟩ (.int .u8 z.toNat))) := below_grown B.out B.out.size (O4.out.set j z).2 (fun k hk => by injection hk with hk; omega)
    clear hc fr O4
    generalize w4.setCell ⟨g, j, none⟩ (.int .u8 z.toNat) = w5 at *
    obtain ⟨k0, k1, k2, k3, k4, k5, k6, k7, _, _, _, _, _, _, _, _⟩ := full8 DK.out; 
    go_wp2_with fail
    try rw [← show digV k = .agg #[.int .u8 (byt k 0), .int .u8 (byt k 1), .int .u8 (byt k 2), .int .u8 (byt k 3), .int .u8 (byt k 4), .int .u8 (byt k 5), .int .u8 (byt k 6), .int .u8 (byt k 7)] from rfl]
    refine (open_c w5 k hk _ _ _ (X.set j z) (Lib.hid O5.out.rd)).mono ?_
    rintro e w6 ⟨A6, n6, c6, err, rfl, ho, herr, hb⟩
    rw [HP.out] at ho herr
    obtain rfl : err = 0 := herr
    have O6 := Lib.hid ho
    replace DK := Lib.hid (keepB hb DK.out)
    replace O5 := Lib.hid (O5.out.ext hb)
    replace B := Lib.hid (ext_trans B.out hb)
    clear ho hb k0 k1 k2 k3 k4 k5 k6 k7
    obtain ⟨k0, k1, k2, k3, k4, k5, k6, k7, _, _, _, _, _, _, _, _⟩ := full8 DK.out; 
    go_wp2_with fail
    try rw [← show digV k = .agg #[.int .u8 (byt k 0), .int .u8 (byt k 1), .int .u8 (byt k 2), .int .u8 (byt k 3), .int .u8 (byt k 4), .int .u8 (byt k 5), .int .u8 (byt k 6), .int .u8 (byt k 7)] from rfl]
    refine (ropen_c w6 k hk _ _ _ (X.set j z) (Lib.hid O5.out.rd)).mono ?_
    rintro e w7 ⟨A7, n7, c7, err2, rfl, ho, herr, hb⟩
    rw [HP.out] at ho herr
    obtain rfl : err2 = 0 := herr
    have t1 := (O6.out.ext hb).rd.text (P := Try.prog) (t := 22) (t' := 9) Try.underlying22 Try.underlying5 Try.underlying9
    have t2 := ho.rd.text (P := Try.prog) (t := 22) (t' := 9) Try.underlying22 Try.underlying5 Try.underlying9
    replace B := Lib.hid (ext_trans B.out hb)
    have yz := YZ.out
    clear ho hb
    go_wp2_with fail
    go_ret
    exact ⟨by simp, B.out⟩
  · have HB : Hid (sealR k ms = boxB k ms) := by show _ = _; unfold sealR; rw [if_pos (by rw [ML.out]; omega)]
    obtain ⟨X, hX⟩ : ∃ X, X = boxB k ms := ⟨_, rfl⟩
    rw [← hX] at HB
    obtain ⟨L, hL⟩ : ∃ L, L = m + 8 := ⟨_, rfl⟩
    have XL : Hid (X.length = L) := by rw [hX]; show _ = _; rw [boxB_len, ML.out, hL]
    have L8 : 8 ≤ L := by omega
    have L3 : L ≤ 308 := by omega
    have gL : ¬ (L : Int) < 8 := by omega
    obtain ⟨U, hU⟩ : ∃ U : Nat, IntKind.u64.wrap a = (U : Int) := ⟨(IntKind.u64.wrap a).toNat, by rw [IntKind.wrap_u64]; omega⟩
    obtain ⟨j, hj, ej⟩ := mod_case2 U L (by omega)
    have z2 : ((L : Int) == 0) = false := by rw [beq_eq_false_iff_ne]; omega
    have jI : (j : Int) < (L : Int) := by omega
    have jI0 : (0 : Int) ≤ (j : Int) := by omega
    obtain ⟨x, hx⟩ : ∃ x, x = X.getD j 0 := ⟨_, rfl⟩
    obtain ⟨z, hz⟩ : ∃ z, z = x + y := ⟨_, rfl⟩
    have ez : ((x.toNat : Int) + (y.toNat : Int)) % 256 = (z.toNat : Int) := by rw [hz, UInt8.toNat_add]; omega
    have HX := Lib.hid hx
    obtain ⟨p1, p2, hp⟩ : ∃ p1 p2, openR k (X.set j z) = (p1, p2) := ⟨_, _, rfl⟩
    have HP := Lib.hid hp
    have YZ : Hid (¬ y.toNat = 0) := fun e => hy0 (UInt8.toNat_inj.1 e)
    have HL := Lib.hid hL
    clear hp hy0 hX hx hz hL
    unfold digV
    go_enter Try.func12, Try.ntmps12
    go_wp2_with fail
    generalize hW : World.alloc (World.alloc w (.cells #[.int .u8 (byt k 0), .int .u8 (byt k 1), .int .u8 (byt k 2), .int .u8 (byt k 3), .int .u8 (byt k 4), .int .u8 (byt k 5), .int .u8 (byt k 6), .int .u8 (byt k 7)] 31)) (.cells #[.int .i64 a, .int .i64 b] 62) = W
    have DK : Hid (W.heap[w.heap.size]? = some (.cells #[.int .u8 (byt k 0), .int .u8 (byt k 1), .int .u8 (byt k 2), .int .u8 (byt k 3), .int .u8 (byt k 4), .int .u8 (byt k 5), .int .u8 (byt k 6), .int .u8 (byt k 7)] 31 (0, 0))) := by rw [← hW]; exact keepA (Go.heap_alloc_new w _)
    have DH : Hid (W.heap[w.heap.size + 1]? = some (.cells #[.int .i64 a, .int .i64 b] 62 (0, 0))) := by rw [← hW]; exact heap_alloc_newest (w := World.alloc _ _) (by simp)
    have B : Hid (Below w.heap.size w W) := by rw [← hW]; exact ext_trans (ext_alloc _ _) (ext_alloc _ _)
    clear hW
    refine wp_region_schedC (fun v => Below W.heap.size W v) [(true, 0), (true, 1), (true, 2), (true, 3), (true, 4), (true, 5), (true, 6)] (by kernel_rfl) rfl (by kernel_rfl) (by kernel_rfl) (fun _ _ d _ _ h => by cases d <;> exact h) (ext_drew W) ?_
    intro J0 hJ0
    iterate 7 (refine schedC_pure (v := ?_) rfl (by rfl) ?_ ?_; rotate_left; (focus (intro v hC; obtain ⟨h0, h1⟩ := full2 (keepB hC DH.out); go_simp; try with_reducible rfl)); try go_simp)
    refine schedC_nil (hJ0 _ _ ?_)
    clear hJ0
    replace DK : Hid (W.drew.heap[w.heap.size]? = some (.cells #[.int .u8 (byt k 0), .int .u8 (byt k 1), .int .u8 (byt k 2), .int .u8 (byt k 3), .int .u8 (byt k 4), .int .u8 (byt k 5), .int .u8 (byt k 6), .int .u8 (byt k 7)] 31 (0, 0))) := DK.out
    replace B : Hid (Below w.heap.size w W.drew) := ext_trans B.out (ext_drew W)
    clear DH
    generalize W.drew = V at *
    have zk : w.heap.size < V.heap.size := (Array.getElem?_eq_some_iff.1 DK.out).1
    go_wp2_with fail
    refine wp_region_schedC (fun v => Below V.heap.size V v) [(true, 0), (true, 1), (false, 2), (false, 3), (true, 4)] (by kernel_rfl) rfl (by kernel_rfl) (by kernel_rfl) (fun _ _ d _ _ h => by cases d <;> exact h) (ext_drew V) ?_
    intro J0 hJ0
    iterate 2 (refine schedC_pure (v := ?_) rfl (by rfl) ?_ ?_; rotate_left; (focus (intro v hC; obtain ⟨k0, k1, k2, k3, k4, k5, k6, k7, _, _, _, _, _, _, _, _⟩ := full8 (keepB hC DK.out); go_simp; try with_reducible rfl)); try go_simp)
    refine schedC_eff rfl ?_
    intro J hJ
    go_wp2_with fail
    refine (few_c _ A n c bs (Lib.hid (h.out.ext (ext_trans B.out (ext_drew V))))).mono ?_
    rw [← HM.out]
    rintro e w2 ⟨rfl, rfl⟩
    go_wp2_with fail
    refine ⟨ext_drew V, ?_⟩
    refine schedC_eff rfl ?_
    intro J hJ
    go_wp2_with fail
    try rw [← show digV k = .agg #[.int .u8 (byt k 0), .int .u8 (byt k 1), .int .u8 (byt k 2), .int .u8 (byt k 3), .int .u8 (byt k 4), .int .u8 (byt k 5), .int .u8 (byt k 6), .int .u8 (byt k 7)] from rfl]
    refine ((seal_c _ k hk A m c ms (Lib.hid (RM.out.ext (ext_trans B.out (ext_drew V)))) (by omega))).mono ?_
    rw [HB.out]
    rintro e w3 ⟨E, A3, n3, c3, rfl, ho, hb⟩
    have CC : Hid (Below V.heap.size V w3) := Lib.hid (ext_trans (ext_drew V) hb)
    obtain rfl : L = n3 := by rw [← ho.len, XL.out]
    have O3 : Hid (Own w3 E V.heap.size A3 L c3 X) := ho
    clear ho
    clear hb
    go_wp2_with fail
    refine ⟨CC.out, ?_⟩
    iterate 1 (refine schedC_pure (v := ?_) rfl (by rfl) ?_ ?_; rotate_left; (focus (intro v hC; go_simp; try with_reducible rfl)); try go_simp)
    refine schedC_nil (hJ0 _ _ ?_)
    clear hJ0
    replace DK := Lib.hid (keepB CC.out DK.out)
    replace B := Lib.hid (ext_trans B.out CC.out)
    clear CC
    go_wp2_with fail
    refine (told_c _).mono ?_
    rintro e w4 ⟨rfl, hb⟩
    replace DK := Lib.hid (keepB hb DK.out)
    replace B := Lib.hid (ext_trans B.out hb)
    have O4 := Lib.hid (O3.out.ext hb)
    obtain ⟨g, rfl, hg1, hg2⟩ := O4.out.blockless (by omega)
    have hc := O4.out.row.cellAt j (by omega)
    rw [U8_getD (by rw [O4.out.len]; exact hj), ← HX.out] at hc
    have fr := O4.out.row.frozenAt j
    have le3 := O4.out.rd.le
    have mx3 := O4.out.max
    clear hb O3
    go_upto_region 7 with fail
    have O5 : Hid (Own (w4.setCell ⟨g, j, none⟩ (.int .u8 z.toNat)) E V.heap.size (some ⟨g, 0, none⟩) L c3 (X.set j z)) := (O4.out.set j z).1
    replace DK : Hid ((w4.setCell ⟨g, j, none⟩ (.int .u8 z.toNat)).heap[w.heap.size]? = some (.cells #[.int .u8 (byt k 0), .int .u8 (byt k 1), .int .u8 (byt k 2), .int .u8 (byt k 3), .int .u8 (byt k 4), .int .u8 (byt k 5), .int .u8 (byt k 6), .int .u8 (byt k 7)] 31 (0, 0))) := keepG (O4.out.set j z).2 (by omega) DK.out
    replace B : Hid (Below w.heap.size w (w4.setCell ⟨g, j, none⟩ (.int .u8 z.toNat))) := below_grown B.out B.out.size (O4.out.set j z).2 (fun k hk => by injection hk with hk; omega)
    clear hc fr O4
    generalize w4.setCell ⟨g, j, none⟩ (.int .u8 z.toNat) = w5 at *
    obtain ⟨k0, k1, k2, k3, k4, k5, k6, k7, _, _, _, _, _, _, _, _⟩ := full8 DK.out; 
    go_wp2_with fail
    try rw [← show digV k = .agg #[.int .u8 (byt k 0), .int .u8 (byt k 1), .int .u8 (byt k 2), .int .u8 (byt k 3), .int .u8 (byt k 4), .int .u8 (byt k 5), .int .u8 (byt k 6), .int .u8 (byt k 7)] from rfl]
    refine (open_c w5 k hk _ _ _ (X.set j z) (Lib.hid O5.out.rd)).mono ?_
    rintro e w6 ⟨A6, n6, c6, err, rfl, ho, herr, hb⟩
    rw [HP.out] at ho herr
    obtain rfl : err = p2 := herr
    have O6 := Lib.hid ho
    replace DK := Lib.hid (keepB hb DK.out)
    replace O5 := Lib.hid (O5.out.ext hb)
    replace B := Lib.hid (ext_trans B.out hb)
    clear ho hb k0 k1 k2 k3 k4 k5 k6 k7
    obtain ⟨k0, k1, k2, k3, k4, k5, k6, k7, _, _, _, _, _, _, _, _⟩ := full8 DK.out; 
    go_wp2_with fail
    try rw [← show digV k = .agg #[.int .u8 (byt k 0), .int .u8 (byt k 1), .int .u8 (byt k 2), .int .u8 (byt k 3), .int .u8 (byt k 4), .int .u8 (byt k 5), .int .u8 (byt k 6), .int .u8 (byt k 7)] from rfl]
    refine (ropen_c w6 k hk _ _ _ (X.set j z) (Lib.hid O5.out.rd)).mono ?_
    rintro e w7 ⟨A7, n7, c7, err2, rfl, ho, herr, hb⟩
    rw [HP.out] at ho herr
    obtain rfl : err2 = err := herr
    have t1 := (O6.out.ext hb).rd.text (P := Try.prog) (t := 22) (t' := 9) Try.underlying22 Try.underlying5 Try.underlying9
    have t2 := ho.rd.text (P := Try.prog) (t := 22) (t' := 9) Try.underlying22 Try.underlying5 Try.underlying9
    replace B := Lib.hid (ext_trans B.out hb)
    have yz := YZ.out
    clear ho hb
    go_wp2_with fail
    go_ret
    exact ⟨by simp, B.out⟩
#print axioms walkVeilTurned
end Go.Proofs.Ytdejlahgeckobaa
