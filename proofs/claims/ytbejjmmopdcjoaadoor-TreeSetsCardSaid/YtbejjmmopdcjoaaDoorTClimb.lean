/-
  tree: what a leaf comes to with its path; With, Check: contracts.
-/
import Derived.Test.YtbejjmmopdcjoaaDoorTRow
import Derived.Test.YtbejjmmopdcjoaaDoorTBits
import Derived.Test.YtbejjmmopdcjoaaDoorHPushG
import Derived.Test.YtbejjmmopdcjoaaDoorSchedF
namespace Go.Proofs.YtbejjmmopdcjoaaDoor
open Go.RowKit Go.Deep

theorem wpList_run {P : Program} {w : World} {ops : Array Oper} {rest : List Oper} {o : Oper} {a : Act} {Q : Exit → Act → World → Prop} {v : Value} (hw : Region.wanted o (yielded ops a.tmps) = true) (hr : (execOp a.eval o).run P w = .ok (Next.value v) w)
    (h : wpList P ops Q rest (a.put o.dst v) w) : wpList P ops Q (o :: rest) a w :=
  wpList_wanted hw fun K hK => by
    unfold Oper.wp
    rw [hr]
    exact hK _ _ h

set_option maxRecDepth 100000 in
set_option maxHeartbeats 2000000 in
theorem climb_no (w : World) (i : Int) (x : Nat) (A : Option Addr) (n c : Nat) (hn : n < 9223372036854775808) (h0 : ¬ (n ≤ 12 ∧ 0 ≤ i ∧ i < ((2 ^ n : Nat) : Int))) : Calls Tryd.prog 40 #[.int .i64 i, digV x, .slice A n c] w (Hands (.tuple #[digV 0, .bool false]) w) := by
  have R := Lib.hid (heap_alloc_newest (w := World.alloc w (.cells #[.int .u8 (byt x 0), .int .u8 (byt x 1), .int .u8 (byt x 2), .int .u8 (byt x 3), .int .u8 (byt x 4), .int .u8 (byt x 5), .int .u8 (byt x 6), .int .u8 (byt x 7)] 26)) (c := w.heap.size + 1) (x := .cells #[.int .u8 0, .int .u8 0, .int .u8 0, .int .u8 0, .int .u8 0, .int .u8 0, .int .u8 0, .int .u8 0] 26) (by simp))
  have B := Lib.hid (ext_trans (ext_alloc w (.cells #[.int .u8 (byt x 0), .int .u8 (byt x 1), .int .u8 (byt x 2), .int .u8 (byt x 3), .int .u8 (byt x 4), .int .u8 (byt x 5), .int .u8 (byt x 6), .int .u8 (byt x 7)] 26)) (ext_alloc _ (.cells #[.int .u8 0, .int .u8 0, .int .u8 0, .int .u8 0, .int .u8 0, .int .u8 0, .int .u8 0, .int .u8 0] 26)))
  unfold digV
  by_cases h12 : 12 < (n : Int)
  · go_enter Tryd.func40, Tryd.ntmps40
    obtain ⟨c0, c1, c2, c3, c4, c5, c6, c7, f0, f1, f2, f3, f4, f5, f6, f7⟩ := full8 R.out
    go_wp2_with fail
    refine bodyPost_ret (v := .tuple #[.agg #[.int .u8 0, .int .u8 0, .int .u8 0, .int .u8 0, .int .u8 0, .int .u8 0, .int .u8 0, .int .u8 0], .bool false]) (by simp only [results, Tryd.results40]; simp [go_sem, c0, c1, c2, c3, c4, c5, c6, c7]) rfl ⟨by rw [dig_zero]; rfl, B.out⟩
  · by_cases hi0 : i < 0
    · go_enter Tryd.func40, Tryd.ntmps40
      obtain ⟨c0, c1, c2, c3, c4, c5, c6, c7, f0, f1, f2, f3, f4, f5, f6, f7⟩ := full8 R.out
      go_wp2_with fail
      refine bodyPost_ret (v := .tuple #[.agg #[.int .u8 0, .int .u8 0, .int .u8 0, .int .u8 0, .int .u8 0, .int .u8 0, .int .u8 0, .int .u8 0], .bool false]) (by simp only [results, Tryd.results40]; simp [go_sem, c0, c1, c2, c3, c4, c5, c6, c7]) rfl ⟨by rw [dig_zero]; rfl, B.out⟩
    · obtain ⟨p, hp⟩ : ∃ p, p = 2 ^ n := ⟨_, rfl⟩
      have hpi : (p : Int) ≤ i := by rw [← hp] at h0; omega
      have HP := Lib.hid hp
      clear hp h0
      go_enter Tryd.func40, Tryd.ntmps40
      obtain ⟨c0, c1, c2, c3, c4, c5, c6, c7, f0, f1, f2, f3, f4, f5, f6, f7⟩ := full8 R.out
      go_wp2_with (refine wpList_run (o := ⟨some 22, _, _, _, _, _⟩) (by rfl) (exec_bin rfl rfl rfl rfl (shl_one _ n p (by omega) HP.out)) ?_; go_simp)
      refine bodyPost_ret (v := .tuple #[.agg #[.int .u8 0, .int .u8 0, .int .u8 0, .int .u8 0, .int .u8 0, .int .u8 0, .int .u8 0, .int .u8 0], .bool false]) (by simp only [results, Tryd.results40]; simp [go_sem, c0, c1, c2, c3, c4, c5, c6, c7]) rfl ⟨by rw [dig_zero]; rfl, B.out⟩
#print axioms climb_no

theorem cells8b {v u : World} {b p : Nat} {x0 x1 x2 x3 x4 x5 x6 x7 : Value} (hC : Below v.heap.size v u) (hb : b < v.heap.size) (h : v.cell? ⟨b, p, none⟩ = some x0 ∧ v.cell? ⟨b, p + 1, none⟩ = some x1 ∧ v.cell? ⟨b, p + 2, none⟩ = some x2 ∧ v.cell? ⟨b, p + 3, none⟩ = some x3 ∧ v.cell? ⟨b, p + 4, none⟩ = some x4 ∧ v.cell? ⟨b, p + 5, none⟩ = some x5 ∧ v.cell? ⟨b, p + 6, none⟩ = some x6 ∧ v.cell? ⟨b, p + 7, none⟩ = some x7) : u.cell? ⟨b, p, none⟩ = some x0 ∧ u.cell? ⟨b, p + 1, none⟩ = some x1 ∧ u.cell? ⟨b, p + 2, none⟩ = some x2 ∧ u.cell? ⟨b, p + 3, none⟩ = some x3 ∧ u.cell? ⟨b, p + 4, none⟩ = some x4 ∧ u.cell? ⟨b, p + 5, none⟩ = some x5 ∧ u.cell? ⟨b, p + 6, none⟩ = some x6 ∧ u.cell? ⟨b, p + 7, none⟩ = some x7 :=
  ⟨(hC.cell (p := ⟨b, p, none⟩) hb).trans h.1, (hC.cell (p := ⟨b, p + 1, none⟩) hb).trans h.2.1, (hC.cell (p := ⟨b, p + 2, none⟩) hb).trans h.2.2.1, (hC.cell (p := ⟨b, p + 3, none⟩) hb).trans h.2.2.2.1, (hC.cell (p := ⟨b, p + 4, none⟩) hb).trans h.2.2.2.2.1, (hC.cell (p := ⟨b, p + 5, none⟩) hb).trans h.2.2.2.2.2.1, (hC.cell (p := ⟨b, p + 6, none⟩) hb).trans h.2.2.2.2.2.2.1, (hC.cell (p := ⟨b, p + 7, none⟩) hb).trans h.2.2.2.2.2.2.2⟩
set_option maxRecDepth 100000 in
set_option maxHeartbeats 2000000 in
theorem climb_ok (w : World) (i x0 : Nat) (hx0 : x0 < 18446744073709551616) (A : Option Addr) (n c : Nat) (xs : List Nat) (h : Hid (RdD w A n c xs)) (hn : n ≤ 12) (hi : i < 2 ^ n) : Calls Tryd.prog 40 #[.int .i64 i, digV x0, .slice A n c] w (Hands (.tuple #[digV (withN i x0 xs), .bool true]) w) := by
  have hle := h.out.le
  have HL := Lib.hid h.out.len
  have HSm : Hid (Small xs) := h.out.small
  obtain ⟨p, hp⟩ : ∃ p, p = 2 ^ n := ⟨_, rfl⟩
  have hpi : ¬ (p : Int) ≤ (i : Int) := by rw [← hp] at hi; omega
  have hi4 : i ≤ 4096 := Nat.le_trans (Nat.le_of_lt hi) (Nat.le_trans (Nat.pow_le_pow_right (by omega) hn) (by omega))
  have HP := Lib.hid hp
  have h12 : ¬ 12 < (n : Int) := by omega
  have hi0 : ¬ (i : Int) < 0 := by omega
  clear hp hi
  obtain ⟨x, hx⟩ : ∃ x, x = lowN x0 := ⟨_, rfl⟩
  have lx : x < 18446744073709551616 := by rw [hx]; exact lowN_lt hx0
  have HX := Lib.hid hx
  obtain ⟨q, hq⟩ : ∃ q, q = climbN x i xs := ⟨_, rfl⟩
  have lq : q < 18446744073709551616 := by rw [hq]; exact climbN_lt _ _ _ lx HSm.out
  have HQ := Lib.hid hq
  obtain ⟨r, hr⟩ : ∃ r, r = withN i x0 xs := ⟨_, rfl⟩
  have HRq : Hid (rootN q n = r) := by show _ = _; rw [hr, hq, hx, ← HL.out]; rfl
  rw [← hr]
  clear hr hq hx
  unfold digV
  go_enter Tryd.func40, Tryd.ntmps40
  go_upto_region 4 with (refine wpList_run (o := ⟨some 22, _, _, _, _, _⟩) (by rfl) (exec_bin rfl rfl rfl rfl (shl_one _ n p (by omega) HP.out)) ?_; go_simp)
  generalize hW : World.alloc (World.alloc w (.cells #[.int .u8 (byt x0 0), .int .u8 (byt x0 1), .int .u8 (byt x0 2), .int .u8 (byt x0 3), .int .u8 (byt x0 4), .int .u8 (byt x0 5), .int .u8 (byt x0 6), .int .u8 (byt x0 7)] 26)) (.cells #[.int .u8 0, .int .u8 0, .int .u8 0, .int .u8 0, .int .u8 0, .int .u8 0, .int .u8 0, .int .u8 0] 26) = W
  have X : Hid (W.heap[w.heap.size]? = some (.cells #[.int .u8 (byt x0 0), .int .u8 (byt x0 1), .int .u8 (byt x0 2), .int .u8 (byt x0 3), .int .u8 (byt x0 4), .int .u8 (byt x0 5), .int .u8 (byt x0 6), .int .u8 (byt x0 7)] 26 (0, 0))) := by rw [← hW]; exact keepA (Go.heap_alloc_new w _)
  have R : Hid (W.heap[w.heap.size + 1]? = some (.cells #[.int .u8 0, .int .u8 0, .int .u8 0, .int .u8 0, .int .u8 0, .int .u8 0, .int .u8 0, .int .u8 0] 26 (0, 0))) := by rw [← hW]; exact heap_alloc_newest (w := World.alloc _ _) (by simp)
  have B : Hid (Below w.heap.size w W) := by rw [← hW]; exact ext_trans (ext_alloc _ _) (ext_alloc _ _)
  clear hW
  obtain ⟨d0, d1, d2, d3, d4, d5, d6, d7, _, _, _, _, _, _, _, _⟩ := full8 X.out
  go_wp2_with fail
  rw [← show digV x0 = .agg #[.int .u8 (byt x0 0), .int .u8 (byt x0 1), .int .u8 (byt x0 2), .int .u8 (byt x0 3), .int .u8 (byt x0 4), .int .u8 (byt x0 5), .int .u8 (byt x0 6), .int .u8 (byt x0 7)] from rfl]
  refine (lowest1_c _ x0 hx0).mono ?_
  rw [← HX.out]
  unfold digV
  rintro e w1 ⟨rfl, hb⟩
  replace R := Lib.hid (keepB hb R.out)
  replace B := Lib.hid (ext_trans B.out hb)
  clear hb d0 d1 d2 d3 d4 d5 d6 d7 X
  go_upto_region 5 with fail
  have N : Hid ((World.alloc w1 (.cells #[.int .u8 (byt x 0), .int .u8 (byt x 1), .int .u8 (byt x 2), .int .u8 (byt x 3), .int .u8 (byt x 4), .int .u8 (byt x 5), .int .u8 (byt x 6), .int .u8 (byt x 7)] 26)).heap[w1.heap.size]? = some (.cells #[.int .u8 (byt x 0), .int .u8 (byt x 1), .int .u8 (byt x 2), .int .u8 (byt x 3), .int .u8 (byt x 4), .int .u8 (byt x 5), .int .u8 (byt x 6), .int .u8 (byt x 7)] 26 (0, 0))) := Go.heap_alloc_new w1 _
  have zR := (Array.getElem?_eq_some_iff.1 R.out).1
  replace R : Hid ((World.alloc w1 (.cells #[.int .u8 (byt x 0), .int .u8 (byt x 1), .int .u8 (byt x 2), .int .u8 (byt x 3), .int .u8 (byt x 4), .int .u8 (byt x 5), .int .u8 (byt x 6), .int .u8 (byt x 7)] 26)).heap[w.heap.size + 1]? = some (.cells #[.int .u8 0, .int .u8 0, .int .u8 0, .int .u8 0, .int .u8 0, .int .u8 0, .int .u8 0, .int .u8 0] 26 (0, 0))) := keepA R.out
  replace B : Hid (Below w.heap.size w (World.alloc w1 (.cells #[.int .u8 (byt x 0), .int .u8 (byt x 1), .int .u8 (byt x 2), .int .u8 (byt x 3), .int .u8 (byt x 4), .int .u8 (byt x 5), .int .u8 (byt x 6), .int .u8 (byt x 7)] 26))) := ext_trans B.out (ext_alloc _ _)
  obtain ⟨G, hG⟩ : ∃ G, G = w1.heap.size := ⟨_, rfl⟩
  have NR : w.heap.size + 1 ≠ G := by omega
  have NLo : w.heap.size ≤ G := by omega
  rw [← hG] at N ⊢
  clear hG zR
  generalize World.alloc w1 (.cells #[.int .u8 (byt x 0), .int .u8 (byt x 1), .int .u8 (byt x 2), .int .u8 (byt x 3), .int .u8 (byt x 4), .int .u8 (byt x 5), .int .u8 (byt x 6), .int .u8 (byt x 7)] 26) = V at *
  go_wp2_with fail
  go_loopw [29] (fun iv wr => ∃ (k x : Nat), k ≤ n ∧ iv = .int .i64 k ∧ x < 18446744073709551616 ∧ Hid (climbN x (i / 2 ^ k) (xs.drop k) = q) ∧ Hid (wr.heap[G]? = some (.cells #[.int .u8 (byt x 0), .int .u8 (byt x 1), .int .u8 (byt x 2), .int .u8 (byt x 3), .int .u8 (byt x 4), .int .u8 (byt x 5), .int .u8 (byt x 6), .int .u8 (byt x 7)] 26 (0, 0))) ∧ Hid (wr.heap[w.heap.size + 1]? = some (.cells #[.int .u8 0, .int .u8 0, .int .u8 0, .int .u8 0, .int .u8 0, .int .u8 0, .int .u8 0, .int .u8 0] 26 (0, 0))) ∧ Hid (Below w.heap.size w wr)) (fun iv _ => n - (intOf iv).toNat)
  case atStart => exact ⟨0, x, Nat.zero_le _, rfl, lx, by rw [Nat.pow_zero, Nat.div_one, List.drop_zero]; exact HQ.out.symm, N.out, R.out, B.out⟩
  case round =>
    clear N R B HX HQ lx
    obtain ⟨k, x, hk, rfl, lx, HM, N, R, B⟩ := hrel
    by_cases hlt : k < n
    · have hlen : k < xs.length := by rw [HL.out]; exact hlt
      obtain ⟨b, o, rfl, hbo, hc⟩ := (h.out.ext B.out).at hlt
      obtain ⟨y, hy⟩ : ∃ y, y = xs.getD k 0 := ⟨_, rfl⟩
      rw [← hy] at hc
      have HC := Lib.hid hc
      have HY := Lib.hid hy
      have ly : y < 18446744073709551616 := by rw [hy]; exact small_getD HSm.out _
      obtain ⟨a, ha⟩ : ∃ a, a = i / 2 ^ k := ⟨_, rfl⟩
      have HAa := Lib.hid ha
      have ia : a ≤ 4096 := by rw [ha]; exact Nat.le_trans (Nat.div_le_self _ _) hi4
      have kI : (k : Int) < (n : Int) := by omega
      have kI0 : (0 : Int) ≤ (k : Int) := by omega
      obtain ⟨t, ht⟩ : ∃ t, t = a % 2 := ⟨_, rfl⟩
      have HT := Lib.hid ht
      have EX : ∀ ty, binOp .and ty (.int .i64 (a : Int)) (.int .i64 1) = pure (.int .i64 (t : Int)) := fun ty => by rw [HT.out]; exact and_nat ty a (by omega)
      clear hc hy ha
      by_cases hodd : a % 2 = 1
      · have t1 : ¬ (t : Int) = 0 := by omega
        clear ht
        go_upto_region 10 with (first | (refine wpList_run (o := ⟨some 34, _, _, _, _, _⟩) (by rfl) (exec_bin rfl rfl rfl rfl (shr_nat _ i k a (by omega) HAa.out)) ?_; go_simp) | (refine wpList_run (o := ⟨some 35, _, _, _, _, _⟩) (by rfl) (exec_bin rfl rfl rfl rfl (EX _)) ?_; go_simp))
        refine wp_region_schedF (fin := 6) (fun u => Below wr.heap.size wr u) [(true, 0), (true, 1), (true, 2), (true, 3), (true, 4), (false, 5), (false, 6)] (by kernel_rfl) rfl (by kernel_rfl) (by kernel_rfl) (by kernel_rfl) (fun _ _ d _ _ h => by cases d <;> exact h) (ext_drew wr) ?_
        intro J0 hJ0
        iterate 5 (refine schedF_pure (v := ?_) rfl (by rfl) ?_ ?_; rotate_left; (focus (intro u hC; obtain ⟨d0, d1, d2, d3, d4, d5, d6, d7, _, _, _, _, _, _, _, _⟩ := full8 (keepB hC N.out); obtain ⟨c0, c1, c2, c3, c4, c5, c6, c7⟩ := cells8b hC hbo HC.out; go_simp; try with_reducible rfl)); try go_simp)
        refine schedF_eff rfl ?_
        intro J hJ
        go_wp2_with fail
        rw [← show digV x = .agg #[.int .u8 (byt x 0), .int .u8 (byt x 1), .int .u8 (byt x 2), .int .u8 (byt x 3), .int .u8 (byt x 4), .int .u8 (byt x 5), .int .u8 (byt x 6), .int .u8 (byt x 7)] from rfl, ← show digV y = .agg #[.int .u8 (byt y 0), .int .u8 (byt y 1), .int .u8 (byt y 2), .int .u8 (byt y 3), .int .u8 (byt y 4), .int .u8 (byt y 5), .int .u8 (byt y 6), .int .u8 (byt y 7)] from rfl]
        refine (two_c _ y x ly lx).mono ?_
        obtain ⟨z, hz⟩ : ∃ z, z = twoN y x := ⟨_, rfl⟩
        have lz : z < 18446744073709551616 := by rw [hz]; exact twoN_lt ly lx
        have HM2 : Hid (climbN z (i / 2 ^ (k + 1)) (xs.drop (k + 1)) = q) := by show _ = _; rw [← climbN_on HM.out hlen, ← HAa.out, if_pos hodd, ← HY.out, hz]
        rw [← hz]
        unfold digV
        rintro e v2 ⟨rfl, hb⟩
        have Q : Hid (Below wr.heap.size wr v2) := Lib.hid (ext_trans (ext_drew wr) hb)
        clear hb hz
        replace N := Lib.hid (keepB Q.out N.out)
        replace R := Lib.hid (keepB Q.out R.out)
        replace B := Lib.hid (ext_trans B.out Q.out)
        go_wp2_with fail
        refine ⟨fun _ => Q.out, ?_⟩
        obtain ⟨d0, d1, d2, d3, d4, d5, d6, d7, f0, f1, f2, f3, f4, f5, f6, f7⟩ := full8 N.out
        refine schedF_eff rfl ?_
        intro J hJ
        go_wp2_with fail
        first | refine hJ0 _ _ ?_ | (refine ⟨by first | exact fun h => absurd rfl h | trivial, ?_⟩; refine schedF_nil (hJ0 _ _ ?_))
        clear hJ0 d0 d1 d2 d3 d4 d5 d6 d7 f0 f1 f2 f3 f4 f5 f6 f7
        go_wp2_with fail
        exact ⟨⟨k + 1, z, by omega, by go_num, lz, HM2.out, set8 N.out (.int .u8 (byt z 0)) (.int .u8 (byt z 1)) (.int .u8 (byt z 2)) (.int .u8 (byt z 3)) (.int .u8 (byt z 4)) (.int .u8 (byt z 5)) (.int .u8 (byt z 6)) (.int .u8 (byt z 7)), oth8 NR R.out (.int .u8 (byt z 0)) (.int .u8 (byt z 1)) (.int .u8 (byt z 2)) (.int .u8 (byt z 3)) (.int .u8 (byt z 4)) (.int .u8 (byt z 5)) (.int .u8 (byt z 6)) (.int .u8 (byt z 7)), bel8 B.out (Nat.le_refl _) NLo (.int .u8 (byt z 0)) (.int .u8 (byt z 1)) (.int .u8 (byt z 2)) (.int .u8 (byt z 3)) (.int .u8 (byt z 4)) (.int .u8 (byt z 5)) (.int .u8 (byt z 6)) (.int .u8 (byt z 7))⟩, by simp [intOf]; omega⟩
      · obtain rfl : t = 0 := by omega
        clear ht
        go_upto_region 9 with (first | (refine wpList_run (o := ⟨some 34, _, _, _, _, _⟩) (by rfl) (exec_bin rfl rfl rfl rfl (shr_nat _ i k a (by omega) HAa.out)) ?_; go_simp) | (refine wpList_run (o := ⟨some 35, _, _, _, _, _⟩) (by rfl) (exec_bin rfl rfl rfl rfl (EX _)) ?_; go_simp))
        refine wp_region_schedF (fin := 6) (fun u => Below wr.heap.size wr u) [(true, 0), (true, 1), (true, 2), (true, 3), (true, 4), (false, 5), (false, 6)] (by kernel_rfl) rfl (by kernel_rfl) (by kernel_rfl) (by kernel_rfl) (fun _ _ d _ _ h => by cases d <;> exact h) (ext_drew wr) ?_
        intro J0 hJ0
        iterate 5 (refine schedF_pure (v := ?_) rfl (by rfl) ?_ ?_; rotate_left; (focus (intro u hC; obtain ⟨d0, d1, d2, d3, d4, d5, d6, d7, _, _, _, _, _, _, _, _⟩ := full8 (keepB hC N.out); obtain ⟨c0, c1, c2, c3, c4, c5, c6, c7⟩ := cells8b hC hbo HC.out; go_simp; try with_reducible rfl)); try go_simp)
        refine schedF_eff rfl ?_
        intro J hJ
        go_wp2_with fail
        rw [← show digV x = .agg #[.int .u8 (byt x 0), .int .u8 (byt x 1), .int .u8 (byt x 2), .int .u8 (byt x 3), .int .u8 (byt x 4), .int .u8 (byt x 5), .int .u8 (byt x 6), .int .u8 (byt x 7)] from rfl, ← show digV y = .agg #[.int .u8 (byt y 0), .int .u8 (byt y 1), .int .u8 (byt y 2), .int .u8 (byt y 3), .int .u8 (byt y 4), .int .u8 (byt y 5), .int .u8 (byt y 6), .int .u8 (byt y 7)] from rfl]
        refine (two_c _ x y lx ly).mono ?_
        obtain ⟨z, hz⟩ : ∃ z, z = twoN x y := ⟨_, rfl⟩
        have lz : z < 18446744073709551616 := by rw [hz]; exact twoN_lt lx ly
        have HM2 : Hid (climbN z (i / 2 ^ (k + 1)) (xs.drop (k + 1)) = q) := by show _ = _; rw [← climbN_on HM.out hlen, ← HAa.out, if_neg (by omega), ← HY.out, hz]
        rw [← hz]
        unfold digV
        rintro e v2 ⟨rfl, hb⟩
        have Q : Hid (Below wr.heap.size wr v2) := Lib.hid (ext_trans (ext_drew wr) hb)
        clear hb hz
        replace N := Lib.hid (keepB Q.out N.out)
        replace R := Lib.hid (keepB Q.out R.out)
        replace B := Lib.hid (ext_trans B.out Q.out)
        go_wp2_with fail
        refine ⟨fun _ => Q.out, ?_⟩
        obtain ⟨d0, d1, d2, d3, d4, d5, d6, d7, f0, f1, f2, f3, f4, f5, f6, f7⟩ := full8 N.out
        refine schedF_eff rfl ?_
        intro J hJ
        go_wp2_with fail
        first | refine hJ0 _ _ ?_ | (refine ⟨by first | exact fun h => absurd rfl h | trivial, ?_⟩; refine schedF_nil (hJ0 _ _ ?_))
        clear hJ0 d0 d1 d2 d3 d4 d5 d6 d7 f0 f1 f2 f3 f4 f5 f6 f7
        go_wp2_with fail
        exact ⟨⟨k + 1, z, by omega, by go_num, lz, HM2.out, set8 N.out (.int .u8 (byt z 0)) (.int .u8 (byt z 1)) (.int .u8 (byt z 2)) (.int .u8 (byt z 3)) (.int .u8 (byt z 4)) (.int .u8 (byt z 5)) (.int .u8 (byt z 6)) (.int .u8 (byt z 7)), oth8 NR R.out (.int .u8 (byt z 0)) (.int .u8 (byt z 1)) (.int .u8 (byt z 2)) (.int .u8 (byt z 3)) (.int .u8 (byt z 4)) (.int .u8 (byt z 5)) (.int .u8 (byt z 6)) (.int .u8 (byt z 7)), bel8 B.out (Nat.le_refl _) NLo (.int .u8 (byt z 0)) (.int .u8 (byt z 1)) (.int .u8 (byt z 2)) (.int .u8 (byt z 3)) (.int .u8 (byt z 4)) (.int .u8 (byt z 5)) (.int .u8 (byt z 6)) (.int .u8 (byt z 7))⟩, by simp [intOf]; omega⟩
    · obtain rfl : k = n := by omega
      have hI : ¬ (k : Int) < (k : Int) := by omega
      obtain rfl : x = q := by have e := HM.out; rw [← HL.out] at e; exact climbN_end e
      obtain ⟨d0, d1, d2, d3, d4, d5, d6, d7, _, _, _, _, _, _, _, _⟩ := full8 N.out
      go_wp2_with fail
      rw [← show digV x = .agg #[.int .u8 (byt x 0), .int .u8 (byt x 1), .int .u8 (byt x 2), .int .u8 (byt x 3), .int .u8 (byt x 4), .int .u8 (byt x 5), .int .u8 (byt x 6), .int .u8 (byt x 7)] from rfl]
      refine (rootOf_c _ x lx k hn).mono ?_
      rw [HRq.out]
      unfold digV
      rintro e w2 ⟨rfl, hb⟩
      replace R := Lib.hid (keepB hb R.out)
      replace B := Lib.hid (ext_trans B.out hb)
      have z1 : w.heap.size + 1 < w2.heap.size := (Array.getElem?_eq_some_iff.1 R.out).1
      clear hb d0 d1 d2 d3 d4 d5 d6 d7
      obtain ⟨c0, c1, c2, c3, c4, c5, c6, c7, f0, f1, f2, f3, f4, f5, f6, f7⟩ := full8 R.out
      go_wp2_with fail
      obtain ⟨g0, g1, g2, g3, g4, g5, g6, g7⟩ := put8 R.out (.int .u8 (byt r 0)) (.int .u8 (byt r 1)) (.int .u8 (byt r 2)) (.int .u8 (byt r 3)) (.int .u8 (byt r 4)) (.int .u8 (byt r 5)) (.int .u8 (byt r 6)) (.int .u8 (byt r 7))
      refine bodyPost_ret (v := .tuple #[digV r, .bool true]) (by unfold digV; simp only [results, Tryd.results40]; simp [go_sem, g0, g1, g2, g3, g4, g5, g6, g7]) rfl ⟨by unfold digV; rfl, bel8 B.out (Nat.le_refl _) (by omega) _ _ _ _ _ _ _ _⟩
#print axioms climb_ok

end Go.Proofs.YtbejjmmopdcjoaaDoor
