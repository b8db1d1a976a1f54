/-
  tree: the document's Root, Path, With, Same: contracts.
-/
import Derived.Test.YtbejjmmopdcjoaaDoorTRef
import Derived.Test.YtbejjmmopdcjoaaDoorTCheck
namespace Go.Proofs.YtbejjmmopdcjoaaDoor
open Go.RowKit Go.Deep

theorem exec_run {P : Program} {w : World} {ev : Operand → Value} {o : Oper} {op : BinOp} {t t2 : TypeId} {x y : Operand} (ho : o.op = .binOp op t x y t2) {v1 v2 v : Value} (hx : ev x = v1) (hy : ev y = v2) (hg : (eqGuard op t x y v1 v2).run P w = .ok () w) (hb : (binOp op t v1 v2).run P w = .ok v w) : (execOp ev o).run P w = .ok (Next.value v) w := by
  unfold execOp
  simp only [ho, hx, hy, Sem.run_bind, hg, hb, Result.andThen_ok]
  rfl
theorem rs_size {rs : ByteArray} {h : Nat} (e : rs.data.toList = rootB h) : rs.size ≤ 100000 := by
  have e2 : rs.size = rs.data.toList.length := by rw [Array.length_toList]; rfl
  have := rootB_len h
  rw [e2, e]
  omega
def PathsR (w : World) (e0 : Int) (xs : List Nat) (e : Ending) (w' : World) : Prop := ∃ A c, e = .returned (.tuple #[.slice A xs.length c, .int .i64 e0]) ∧ OwnD w' 25 w.heap.size A xs.length c xs ∧ Below w.heap.size w w'

set_option maxRecDepth 100000 in
set_option maxHeartbeats 2000000 in
theorem rroot_no (w : World) (A : Option Addr) (n c : Nat) (hn : n < 9223372036854775808) (h0 : ¬ (1 ≤ n ∧ n ≤ 4096)) : Calls Tryd.prog 13 #[.slice A n c] w (Hands (.tuple #[digV 0, .int .i64 2]) w) := by
  have HH := Lib.hid (heightI_no h0)
  have R := Lib.hid (heap_alloc_newest (w := w) (c := w.heap.size) (x := .cells #[.int .u8 0, .int .u8 0, .int .u8 0, .int .u8 0, .int .u8 0, .int .u8 0, .int .u8 0, .int .u8 0] 25) rfl)
  go_enter Tryd.func13, Tryd.ntmps13
  go_wp2_with fail
  refine (rheight_c _ n hn).mono ?_
  rw [HH.out]
  rintro e w1 ⟨rfl, rfl⟩
  obtain ⟨c0, c1, c2, c3, c4, c5, c6, c7, f0, f1, f2, f3, f4, f5, f6, f7⟩ := full8 R.out
  go_wp2_with fail
  refine bodyPost_ret (v := .tuple #[.agg #[.int .u8 0, .int .u8 0, .int .u8 0, .int .u8 0, .int .u8 0, .int .u8 0, .int .u8 0, .int .u8 0], .int .i64 2]) (by simp only [results, Tryd.results13]; simp [go_sem, c0, c1, c2, c3, c4, c5, c6, c7]) rfl ⟨by rw [dig_zero], ext_alloc _ _⟩
#print axioms rroot_no

set_option maxRecDepth 100000 in
set_option maxHeartbeats 2000000 in
theorem rroot_ok (w : World) (A : Option Addr) (n c : Nat) (l : List Nat) (h : Hid (RdD w A n c l)) (n1 : 1 ≤ n) (n2 : n ≤ 4096) : Calls Tryd.prog 13 #[.slice A n c] w (Hands (.tuple #[digV (treeN l (hgt n)), .int .i64 0]) w) := by
  have HH := Lib.hid (heightI_ok n1 n2)
  have H12 := hgt_le n2
  have HSm : Hid (Small l) := h.out.small
  obtain ⟨H, hH⟩ : ∃ H, H = hgt n := ⟨_, rfl⟩
  rw [← hH] at HH H12 ⊢
  clear hH
  obtain ⟨x, hx⟩ : ∃ x, x = nd l H 0 := ⟨_, rfl⟩
  have lx : x < 18446744073709551616 := by rw [hx]; exact nd_lt HSm.out _ _
  obtain ⟨y, hy⟩ : ∃ y, y = treeN l H := ⟨_, rfl⟩
  have HY : Hid (rootN x H = y) := by show _ = _; rw [hy, hx]; rfl
  rw [← hy]
  have ND := Lib.hid (fun v hv => rnode_c A n c l H v 0 hv (by have := Nat.pow_le_pow_right (show 0 < 2 by omega) H12; omega))
  rw [← hx] at ND
  have gH : ¬ (H : Int) < 0 := by omega
  clear hx hy
  go_enter Tryd.func13, Tryd.ntmps13
  go_wp2_with fail
  refine (rheight_c _ n (by omega)).mono ?_
  rw [HH.out]
  rintro e w1 ⟨rfl, rfl⟩
  go_wp2_with fail
  refine (ND.out _ (Lib.hid (h.out.ext (ext_alloc _ _)))).mono ?_
  unfold digV
  rintro e w1 ⟨rfl, hb⟩
  have R := Lib.hid (keepB (b := w.heap.size) hb (heap_alloc_newest (w := w) rfl))
  have B := Lib.hid (ext_trans (ext_alloc w (.cells #[.int .u8 0, .int .u8 0, .int .u8 0, .int .u8 0, .int .u8 0, .int .u8 0, .int .u8 0, .int .u8 0] 25)) hb)
  clear hb
  go_wp2_with fail
  refine (rname_c _ H H12).mono ?_
  rintro e w2 ⟨rs, rfl, hrs, hb⟩
  replace R := Lib.hid (keepB hb R.out)
  replace B := Lib.hid (ext_trans B.out hb)
  have HRS := Lib.hid hrs
  clear hb hrs
  go_wp2_with fail
  rw [← show digV x = .agg #[.int .u8 (byt x 0), .int .u8 (byt x 1), .int .u8 (byt x 2), .int .u8 (byt x 3), .int .u8 (byt x 4), .int .u8 (byt x 5), .int .u8 (byt x 6), .int .u8 (byt x 7)] from rfl]
  refine (rword_c _ x lx rs (rs_size HRS.out)).mono ?_
  rw [HRS.out, show wordN x (rootB H) = y from HY.out]
  unfold digV
  rintro e w3 ⟨rfl, hb⟩
  replace R := Lib.hid (keepB hb R.out)
  replace B := Lib.hid (ext_trans B.out hb)
  have z1 : w.heap.size < w3.heap.size := (Array.getElem?_eq_some_iff.1 R.out).1
  clear hb
  obtain ⟨c0, c1, c2, c3, c4, c5, c6, c7, f0, f1, f2, f3, f4, f5, f6, f7⟩ := full8 R.out
  go_wp2_with fail
  obtain ⟨g0, g1, g2, g3, g4, g5, g6, g7⟩ := put8 R.out (.int .u8 (byt y 0)) (.int .u8 (byt y 1)) (.int .u8 (byt y 2)) (.int .u8 (byt y 3)) (.int .u8 (byt y 4)) (.int .u8 (byt y 5)) (.int .u8 (byt y 6)) (.int .u8 (byt y 7))
  refine bodyPost_ret (v := .tuple #[digV y, .int .i64 0]) (by unfold digV; simp only [results, Tryd.results13]; simp [go_sem, g0, g1, g2, g3, g4, g5, g6, g7]) rfl ⟨by unfold digV; rfl, bel8 B.out (Nat.le_refl _) (by omega) _ _ _ _ _ _ _ _⟩
#print axioms rroot_ok

set_option maxRecDepth 100000 in
set_option maxHeartbeats 2000000 in
theorem rpath_no (w : World) (A : Option Addr) (n c : Nat) (i : Int) (hn : n < 9223372036854775808) (h0 : ¬ (1 ≤ n ∧ n ≤ 4096)) : Calls Tryd.prog 19 #[.slice A n c, .int .i64 i] w (PathsR w 2 []) := by
  have HH := Lib.hid (heightI_no h0)
  go_enter Tryd.func19, Tryd.ntmps19
  go_wp2_with fail
  refine (rheight_c _ n hn).mono ?_
  rw [HH.out]
  rintro e w1 ⟨rfl, rfl⟩
  go_wp2_with fail
  refine bodyPost_ret (v := .tuple #[.slice none 0 0, .int .i64 2]) (by simp only [results, Tryd.results19]; simp [go_sem]) rfl ⟨none, 0, rfl, OwnD.void _ _ _, Below.refl _ _⟩

set_option maxRecDepth 100000 in
set_option maxHeartbeats 2000000 in
theorem rpath_out (w : World) (A : Option Addr) (n c : Nat) (i : Int) (n1 : 1 ≤ n) (n2 : n ≤ 4096) (hi : ¬ (0 ≤ i ∧ i < (n : Int))) : Calls Tryd.prog 19 #[.slice A n c, .int .i64 i] w (PathsR w 9 []) := by
  have HH := Lib.hid (heightI_ok n1 n2)
  obtain ⟨H, hH⟩ : ∃ H, H = hgt n := ⟨_, rfl⟩
  rw [← hH] at HH
  have gH : ¬ (H : Int) < 0 := by omega
  clear hH
  by_cases hi0 : i < 0
  · go_enter Tryd.func19, Tryd.ntmps19
    go_wp2_with fail
    refine (rheight_c _ n (by omega)).mono ?_
    rw [HH.out]
    rintro e w1 ⟨rfl, rfl⟩
    go_wp2_with fail
    refine bodyPost_ret (v := .tuple #[.slice none 0 0, .int .i64 9]) (by simp only [results, Tryd.results19]; simp [go_sem]) rfl ⟨none, 0, rfl, OwnD.void _ _ _, Below.refl _ _⟩
  · have hi1 : (n : Int) ≤ i := by omega
    clear hi
    go_enter Tryd.func19, Tryd.ntmps19
    go_wp2_with fail
    refine (rheight_c _ n (by omega)).mono ?_
    rw [HH.out]
    rintro e w1 ⟨rfl, rfl⟩
    go_wp2_with fail
    refine bodyPost_ret (v := .tuple #[.slice none 0 0, .int .i64 9]) (by simp only [results, Tryd.results19]; simp [go_sem]) rfl ⟨none, 0, rfl, OwnD.void _ _ _, Below.refl _ _⟩

set_option maxRecDepth 100000 in
set_option maxHeartbeats 2000000 in
theorem rpath_ok (w : World) (A : Option Addr) (n c : Nat) (l : List Nat) (i : Nat) (h : Hid (RdD w A n c l)) (n1 : 1 ≤ n) (n2 : n ≤ 4096) (hi : i < n) : Calls Tryd.prog 19 #[.slice A n c, .int .i64 i] w (PathsR w 0 (pathN l i (hgt n))) := by
  have HH := Lib.hid (heightI_ok n1 n2)
  have H12 := hgt_le n2
  have HSm : Hid (Small l) := h.out.small
  obtain ⟨H, hH⟩ : ∃ H, H = hgt n := ⟨_, rfl⟩
  rw [← hH] at HH H12 ⊢
  have gH : ¬ (H : Int) < 0 := by omega
  have g0 : ¬ (i : Int) < 0 := by omega
  have g1 : ¬ (n : Int) ≤ (i : Int) := by omega
  clear hH
  go_enter Tryd.func19, Tryd.ntmps19
  go_wp2_with fail
  refine (rheight_c _ n (by omega)).mono ?_
  rw [HH.out]
  rintro e w1 ⟨rfl, rfl⟩
  go_wp2_with fail
  simp only [show decide (n ≤ i) = false from decide_eq_false (by omega), show decide ((i : Int) < 0) = false from decide_eq_false (by omega), show decide ((H : Int) < 0) = false from decide_eq_false (by omega), Bool.or_false]
  go_loopw [7, 8, 9] (fun ov kv lvv wr => ∃ (lv a : Nat) (A1 : Option Addr) (c1 : Nat), lv ≤ H ∧ lvv = .int .i64 lv ∧ kv = .int .i64 a ∧ ov = .slice A1 lv c1 ∧ Hid (a = i / 2 ^ lv) ∧ Hid (OwnD wr 25 w1.heap.size A1 lv c1 (pathN l i lv)) ∧ Hid (Below w1.heap.size w1 wr)) (fun _ _ lvv _ => H - (intOf lvv).toNat)
  case atStart => exact ⟨0, i, none, 0, Nat.zero_le _, rfl, rfl, rfl, by show _ = _; rw [Nat.pow_zero, Nat.div_one], OwnD.void _ _ _, Below.refl _ _⟩
  case round =>
    obtain ⟨lv, a, A1, c1, hlv, rfl, rfl, rfl, HA, O, B⟩ := hrel
    by_cases hlt : lv < H
    · have ia : a ≤ 4096 := by rw [HA.out]; exact Nat.le_trans (Nat.div_le_self _ _) (by omega)
      obtain ⟨p, hp⟩ : ∃ p, p = oth a := ⟨_, rfl⟩
      have ip : p ≤ 4097 := by rw [hp]; unfold oth; split <;> omega
      obtain ⟨a2, ha2⟩ : ∃ a2, a2 = a / 2 := ⟨_, rfl⟩
      have HA2 : Hid (a2 = i / 2 ^ (lv + 1)) := by show _ = _; rw [ha2, HA.out, Nat.div_div_eq_div_mul, ← Nat.pow_succ]
      obtain ⟨y, hy⟩ : ∃ y, y = nd l lv p := ⟨_, rfl⟩
      have ly : y < 18446744073709551616 := by rw [hy]; exact nd_lt HSm.out _ _
      have HPM : Hid (pathN l i (lv + 1) = pathN l i lv ++ [y]) := by show _ = _; rw [pathN_more, hy, hp, HA.out]
      have ND := Lib.hid (fun v hv => rnode_c A n c l lv v p hv (by
        have e1 := Nat.pow_le_pow_right (show 0 < 2 by omega) (show lv ≤ 12 by omega)
        have e2 := Nat.mul_le_mul (show p + 1 ≤ 4098 by omega) e1
        omega))
      rw [← hy] at ND
      have lI : (lv : Int) < (H : Int) := by omega
      have q1 : (a : Int) / 2 = (a2 : Int) := by omega
      have q2 : (a : Int).tdiv 2 = (a2 : Int) := by rw [Int.tdiv_eq_ediv_of_nonneg (by omega)]; exact q1
      clear hy ha2
      by_cases hodd : a % 2 = 1
      · have o1 : (a : Int).tmod 2 = 1 := by rw [Int.tmod_eq_emod_of_nonneg (by omega)]; omega
        have o2 : (a : Int) % 2 = 1 := by omega
        have p0 : p = a - 1 := by rw [hp]; unfold oth; rw [if_pos hodd]
        have p1 : (a : Int) - 1 = (p : Int) := by omega
        have p2 : IntKind.i64.wrap ((a : Int) - 1) = (p : Int) := by rw [IntKind.wrap_i64]; omega
        clear hp p0
        go_wp2_with fail
        refine (ND.out _ (Lib.hid (h.out.ext B.out))).mono ?_
        unfold digV
        rintro e w2 ⟨rfl, hb⟩
        replace O := Lib.hid ((O.out).ext hb)
        replace B := Lib.hid (ext_trans B.out hb)
        clear hb
        have Bs := B.out.size
        go_wp2_with (refine wpList_pushE (o := ⟨some 43, _, _, _, _, _⟩) rfl (.tmp 37) (.tmp 42) 32 25 rfl Tryd.underlying32 infoR w1.heap.size A1 lv c1 (pathN l i lv) (by rfl) O.out y ly (by rfl) (by omega) Bs ?_; intro A2 c2 v3 hO hb; have O3 := Lib.hid hO; have Q3 := Lib.hid hb; clear hO hb; go_simp)
        exact ⟨⟨lv + 1, a2, A2, c2, by omega, by go_num, by go_num, rfl, HA2.out, by rw [HPM.out]; exact O3.out, B.out.trans Q3.out⟩, by simp [intOf]; omega⟩
      · have o1 : (a : Int).tmod 2 = 0 := by rw [Int.tmod_eq_emod_of_nonneg (by omega)]; omega
        have o2 : (a : Int) % 2 = 0 := by omega
        have p0 : p = a + 1 := by rw [hp]; unfold oth; rw [if_neg hodd]
        have p1 : (a : Int) + 1 = (p : Int) := by omega
        have p2 : IntKind.i64.wrap ((a : Int) + 1) = (p : Int) := by rw [IntKind.wrap_i64]; omega
        clear hp p0
        go_wp2_with fail
        refine (ND.out _ (Lib.hid (h.out.ext B.out))).mono ?_
        unfold digV
        rintro e w2 ⟨rfl, hb⟩
        replace O := Lib.hid ((O.out).ext hb)
        replace B := Lib.hid (ext_trans B.out hb)
        clear hb
        have Bs := B.out.size
        go_wp2_with (refine wpList_pushE (o := ⟨some 43, _, _, _, _, _⟩) rfl (.tmp 37) (.tmp 42) 32 25 rfl Tryd.underlying32 infoR w1.heap.size A1 lv c1 (pathN l i lv) (by rfl) O.out y ly (by rfl) (by omega) Bs ?_; intro A2 c2 v3 hO hb; have O3 := Lib.hid hO; have Q3 := Lib.hid hb; clear hO hb; go_simp)
        exact ⟨⟨lv + 1, a2, A2, c2, by omega, by go_num, by go_num, rfl, HA2.out, by rw [HPM.out]; exact O3.out, B.out.trans Q3.out⟩, by simp [intOf]; omega⟩
    · obtain rfl : lv = H := by omega
      have hI : ¬ (lv : Int) < (lv : Int) := by omega
      go_wp2_with fail
      refine bodyPost_ret (v := .tuple #[.slice A1 lv c1, .int .i64 0]) (by simp only [results, Tryd.results19]; simp [go_sem]) rfl ⟨A1, c1, by rw [pathN_len], by rw [pathN_len]; exact O.out, B.out⟩
#print axioms rpath_ok

set_option maxRecDepth 100000 in
set_option maxHeartbeats 2000000 in
theorem rsame_c (w : World) (A1 : Option Addr) (n1 c1 : Nat) (xs : List Nat) (A2 : Option Addr) (n2 c2 : Nat) (ys : List Nat) (h1 : Hid (RdD w A1 n1 c1 xs)) (h2 : Hid (RdD w A2 n2 c2 ys)) : Calls Tryd.prog 20 #[.slice A1 n1 c1, .slice A2 n2 c2] w (Hands (.bool (decide (xs = ys))) w) := by
  have L1 := Lib.hid h1.out.len
  have L2 := Lib.hid h2.out.len
  have m1 := h1.out.max
  have m2 := h2.out.max
  have l1 := h1.out.le
  have l2 := h2.out.le
  by_cases hn : n1 = n2
  · subst hn
    obtain ⟨t, ht⟩ : ∃ t : Bool, t = decide (xs = ys) := ⟨_, rfl⟩
    have HT := Lib.hid ht
    rw [← ht]
    clear ht
    go_enter Tryd.func20, Tryd.ntmps20
    go_wp2_with fail
    go_loopw [5] (fun iv wr => ∃ k : Nat, k ≤ n1 ∧ iv = .int .i64 k ∧ Hid (∀ j, j < k → xs.getD j 0 = ys.getD j 0) ∧ Hid (Below w.heap.size w wr)) (fun iv _ => n1 - (intOf iv).toNat)
    case atStart => exact ⟨0, Nat.zero_le _, rfl, fun j hj => by omega, Below.refl _ _⟩
    case round =>
      obtain ⟨k, hk, rfl, HK, B⟩ := hrel
      by_cases hlt : k < n1
      · have hl1 : k < xs.length := by rw [L1.out]; exact hlt
        obtain ⟨b, o, rfl, hb, hc⟩ := (h1.out.ext B.out).at hlt
        obtain ⟨b', o', rfl, hb', hd⟩ := (h2.out.ext B.out).at hlt
        obtain ⟨x, hx⟩ : ∃ x, x = xs.getD k 0 := ⟨_, rfl⟩
        obtain ⟨y, hy⟩ : ∃ y, y = ys.getD k 0 := ⟨_, rfl⟩
        rw [← hx] at hc
        rw [← hy] at hd
        have lx : x < 18446744073709551616 := by rw [hx]; exact small_getD h1.out.small _
        have ly : y < 18446744073709551616 := by rw [hy]; exact small_getD h2.out.small _
        have HC := Lib.hid hc
        have HD := Lib.hid hd
        have HX := Lib.hid hx
        have HY := Lib.hid hy
        have kI : (k : Int) < (n1 : Int) := by omega
        have kI0 : (0 : Int) ≤ (k : Int) := by omega
        have E1 := neq_r lx ly
        have G1 := guard_r .neq x y
        clear hc hd hx hy
        unfold digV at E1 G1
        by_cases hxy : x = y
        · rw [decide_eq_true hxy, Bool.not_true] at E1
          have HXY := Lib.hid hxy
          clear hxy
          go_upto_region 6 with fail
          refine wp_region_schedC (fun u => Below wr.heap.size wr u) [(true, 0), (true, 1), (true, 2), (true, 3), (true, 4), (true, 5), (true, 6), (true, 7), (true, 8)] (by kernel_rfl) rfl (by kernel_rfl) (by kernel_rfl) (fun _ _ d _ _ h => by cases d <;> exact h) (ext_drew wr) ?_
          intro J0 hJ0
          iterate 8 (refine schedC_pure (v := ?_) rfl (by rfl) ?_ ?_; rotate_left; (focus (intro u hC; obtain ⟨c0, c1, c2, c3, c4, c5, c6, c7⟩ := cells8b hC hb HC.out; obtain ⟨d0, d1, d2, d3, d4, d5, d6, d7⟩ := cells8b hC hb' HD.out; go_simp; try with_reducible rfl)); try go_simp)
          refine schedC_pure (v := .bool false) rfl (by rfl) (fun u hC => exec_run rfl rfl rfl (G1 _ _ u) (E1 u)) ?_
          try go_simp
          refine schedC_nil (hJ0 _ _ ?_)
          clear hJ0
          go_wp2_with fail
          exact ⟨⟨k + 1, by omega, by go_num, fun j hj => by
            rcases Nat.lt_or_ge j k with q | q
            · exact HK.out j q
            · obtain rfl : j = k := by omega
              rw [← HX.out, ← HY.out, HXY.out], ext_trans B.out (ext_drew wr)⟩, by simp [intOf]; omega⟩
        · rw [decide_eq_false hxy, Bool.not_false] at E1
          have HF : t = false := by rw [HT.out]; exact decide_eq_false (fun e => hxy (by rw [HX.out, HY.out, e]))
          subst HF
          clear hxy
          go_upto_region 6 with fail
          refine wp_region_schedC (fun u => Below wr.heap.size wr u) [(true, 0), (true, 1), (true, 2), (true, 3), (true, 4), (true, 5), (true, 6), (true, 7), (true, 8)] (by kernel_rfl) rfl (by kernel_rfl) (by kernel_rfl) (fun _ _ d _ _ h => by cases d <;> exact h) (ext_drew wr) ?_
          intro J0 hJ0
          iterate 8 (refine schedC_pure (v := ?_) rfl (by rfl) ?_ ?_; rotate_left; (focus (intro u hC; obtain ⟨c0, c1, c2, c3, c4, c5, c6, c7⟩ := cells8b hC hb HC.out; obtain ⟨d0, d1, d2, d3, d4, d5, d6, d7⟩ := cells8b hC hb' HD.out; go_simp; try with_reducible rfl)); try go_simp)
          refine schedC_pure (v := .bool true) rfl (by rfl) (fun u hC => exec_run rfl rfl rfl (G1 _ _ u) (E1 u)) ?_
          try go_simp
          refine schedC_nil (hJ0 _ _ ?_)
          clear hJ0
          go_wp2_with fail
          go_ret
          exact ⟨rfl, ext_trans B.out (ext_drew wr)⟩
      · obtain rfl : k = n1 := by omega
        have hI : ¬ (k : Int) < (k : Int) := by omega
        have HE : t = true := by
          rw [HT.out]
          refine decide_eq_true (List.ext_getElem (by rw [L1.out, L2.out]) fun j g1 g2 => ?_)
          have e := HK.out j (by rw [← L1.out]; exact g1)
          simpa [List.getD, g1, g2] using e
        subst HE
        go_wp2_with fail
        go_ret
        exact ⟨rfl, B.out⟩
  · have HF : decide (xs = ys) = false := decide_eq_false (fun e => hn (by rw [← L1.out, ← L2.out, e]))
    rw [HF]
    have hI : ¬ (n1 : Int) = (n2 : Int) := by omega
    go_enter Tryd.func20, Tryd.ntmps20
    go_wp2_with fail
    go_ret
    exact ⟨rfl, Below.refl _ _⟩
#print axioms rsame_c
end Go.Proofs.YtbejjmmopdcjoaaDoor
