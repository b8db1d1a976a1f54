/-
  tree: the document's With: contract.
-/
import Derived.Test.YtaokfpndplbedaaDoorTRef2
namespace Go.Proofs.YtaokfpndplbedaaDoor
open Go.RowKit Go.Deep

set_option maxRecDepth 100000 in
set_option maxHeartbeats 2000000 in
theorem rwith_no (w : World) (i : Int) (x : Nat) (A : Option Addr) (n c : Nat) (hn : n < 9223372036854775808) (h0 : ¬ (n ≤ 12 ∧ 0 ≤ i ∧ i < ((2 ^ n : Nat) : Int))) : Calls Tryd.prog 21 #[.int .i64 i, digV x, .slice A n c] w (Hands (.tuple #[digV 0, .bool false]) w) := by
  have R := Lib.hid (heap_alloc_newest (w := World.alloc w (.cells #[.int .u8 (byt x 0), .int .u8 (byt x 1), .int .u8 (byt x 2), .int .u8 (byt x 3), .int .u8 (byt x 4), .int .u8 (byt x 5), .int .u8 (byt x 6), .int .u8 (byt x 7)] 25)) (c := w.heap.size + 1) (x := .cells #[.int .u8 0, .int .u8 0, .int .u8 0, .int .u8 0, .int .u8 0, .int .u8 0, .int .u8 0, .int .u8 0] 25) (by simp))
  have B := Lib.hid (ext_trans (ext_alloc w (.cells #[.int .u8 (byt x 0), .int .u8 (byt x 1), .int .u8 (byt x 2), .int .u8 (byt x 3), .int .u8 (byt x 4), .int .u8 (byt x 5), .int .u8 (byt x 6), .int .u8 (byt x 7)] 25)) (ext_alloc _ (.cells #[.int .u8 0, .int .u8 0, .int .u8 0, .int .u8 0, .int .u8 0, .int .u8 0, .int .u8 0, .int .u8 0] 25)))
  unfold digV
  by_cases h12 : 12 < (n : Int)
  · go_enter Tryd.func21, Tryd.ntmps21
    obtain ⟨c0, c1, c2, c3, c4, c5, c6, c7, f0, f1, f2, f3, f4, f5, f6, f7⟩ := full8 R.out
    go_wp2_with fail
    refine bodyPost_ret (v := .tuple #[.agg #[.int .u8 0, .int .u8 0, .int .u8 0, .int .u8 0, .int .u8 0, .int .u8 0, .int .u8 0, .int .u8 0], .bool false]) (by simp only [results, Tryd.results21]; simp [go_sem, c0, c1, c2, c3, c4, c5, c6, c7]) rfl ⟨by rw [dig_zero]; rfl, B.out⟩
  · by_cases hi0 : i < 0
    · go_enter Tryd.func21, Tryd.ntmps21
      obtain ⟨c0, c1, c2, c3, c4, c5, c6, c7, f0, f1, f2, f3, f4, f5, f6, f7⟩ := full8 R.out
      go_wp2_with fail
      refine bodyPost_ret (v := .tuple #[.agg #[.int .u8 0, .int .u8 0, .int .u8 0, .int .u8 0, .int .u8 0, .int .u8 0, .int .u8 0, .int .u8 0], .bool false]) (by simp only [results, Tryd.results21]; simp [go_sem, c0, c1, c2, c3, c4, c5, c6, c7]) rfl ⟨by rw [dig_zero]; rfl, B.out⟩
    · obtain ⟨p, hp⟩ : ∃ p, p = 2 ^ n := ⟨_, rfl⟩
      have hpi : (p : Int) ≤ i := by rw [← hp] at h0; omega
      have PW := Lib.hid (fun v => power_c v n (by omega))
      rw [← hp] at PW
      clear hp h0
      go_enter Tryd.func21, Tryd.ntmps21
      go_wp2_with fail
      refine (PW.out _).mono ?_
      rintro e w1 ⟨rfl, rfl⟩
      obtain ⟨c0, c1, c2, c3, c4, c5, c6, c7, f0, f1, f2, f3, f4, f5, f6, f7⟩ := full8 R.out
      go_wp2_with fail
      refine bodyPost_ret (v := .tuple #[.agg #[.int .u8 0, .int .u8 0, .int .u8 0, .int .u8 0, .int .u8 0, .int .u8 0, .int .u8 0, .int .u8 0], .bool false]) (by simp only [results, Tryd.results21]; simp [go_sem, c0, c1, c2, c3, c4, c5, c6, c7]) rfl ⟨by rw [dig_zero]; rfl, B.out⟩
#print axioms rwith_no

set_option maxRecDepth 100000 in
set_option maxHeartbeats 2000000 in
theorem rwith_ok (w : World) (i x0 : Nat) (hx0 : x0 < 18446744073709551616) (A : Option Addr) (n c : Nat) (xs : List Nat) (h : Hid (RdD w A n c xs)) (hn : n ≤ 12) (hi : i < 2 ^ n) : Calls Tryd.prog 21 #[.int .i64 i, digV x0, .slice A n c] w (Hands (.tuple #[digV (withN i x0 xs), .bool true]) w) := by
  have hle := h.out.le
  have HL := Lib.hid h.out.len
  have HSm : Hid (Small xs) := h.out.small
  obtain ⟨p, hp⟩ : ∃ p, p = 2 ^ n := ⟨_, rfl⟩
  have hpi : ¬ (p : Int) ≤ (i : Int) := by rw [← hp] at hi; omega
  have hi4 : i ≤ 4096 := Nat.le_trans (Nat.le_of_lt hi) (Nat.le_trans (Nat.pow_le_pow_right (by omega) hn) (by omega))
  have PW := Lib.hid (fun v => power_c v n hn)
  rw [← hp] at PW
  have h12 : ¬ 12 < (n : Int) := by omega
  have hi0 : ¬ (i : Int) < 0 := by omega
  clear hp hi
  obtain ⟨x, hx⟩ : ∃ x, x = lowN x0 := ⟨_, rfl⟩
  have lx : x < 18446744073709551616 := by rw [hx]; exact lowN_lt hx0
  have HX := Lib.hid hx
  obtain ⟨q, hq⟩ : ∃ q, q = climbN x i xs := ⟨_, rfl⟩
  have lq : q < 18446744073709551616 := by rw [hq]; exact climbN_lt _ _ _ lx HSm.out
  have HQ := Lib.hid hq
  obtain ⟨r, hr⟩ : ∃ r, r = withN i x0 xs := ⟨_, rfl⟩
  have HRq : Hid (wordN q (rootB n) = r) := by show _ = _; rw [hr, hq, hx, ← HL.out]; rfl
  rw [← hr]
  clear hr hq hx
  unfold digV
  go_enter Tryd.func21, Tryd.ntmps21
  go_wp2_with fail
  refine (PW.out _).mono ?_
  rintro e w0 ⟨rfl, rfl⟩
  go_upto_region 3 with fail
  generalize hW : World.alloc (World.alloc w (.cells #[.int .u8 (byt x0 0), .int .u8 (byt x0 1), .int .u8 (byt x0 2), .int .u8 (byt x0 3), .int .u8 (byt x0 4), .int .u8 (byt x0 5), .int .u8 (byt x0 6), .int .u8 (byt x0 7)] 25)) (.cells #[.int .u8 0, .int .u8 0, .int .u8 0, .int .u8 0, .int .u8 0, .int .u8 0, .int .u8 0, .int .u8 0] 25) = W
  have X : Hid (W.heap[w.heap.size]? = some (.cells #[.int .u8 (byt x0 0), .int .u8 (byt x0 1), .int .u8 (byt x0 2), .int .u8 (byt x0 3), .int .u8 (byt x0 4), .int .u8 (byt x0 5), .int .u8 (byt x0 6), .int .u8 (byt x0 7)] 25 (0, 0))) := by rw [← hW]; exact keepA (Go.heap_alloc_new w _)
  have R : Hid (W.heap[w.heap.size + 1]? = some (.cells #[.int .u8 0, .int .u8 0, .int .u8 0, .int .u8 0, .int .u8 0, .int .u8 0, .int .u8 0, .int .u8 0] 25 (0, 0))) := by rw [← hW]; exact heap_alloc_newest (w := World.alloc _ _) (by simp)
  have B : Hid (Below w.heap.size w W) := by rw [← hW]; exact ext_trans (ext_alloc _ _) (ext_alloc _ _)
  clear hW
  obtain ⟨d0, d1, d2, d3, d4, d5, d6, d7, _, _, _, _, _, _, _, _⟩ := full8 X.out
  go_wp2_with fail
  rw [← show digV x0 = .agg #[.int .u8 (byt x0 0), .int .u8 (byt x0 1), .int .u8 (byt x0 2), .int .u8 (byt x0 3), .int .u8 (byt x0 4), .int .u8 (byt x0 5), .int .u8 (byt x0 6), .int .u8 (byt x0 7)] from rfl]
  refine (rlow_c _ x0 hx0).mono ?_
  rw [← HX.out]
  unfold digV
  rintro e w1 ⟨rfl, hb⟩
  replace R := Lib.hid (keepB hb R.out)
  replace B := Lib.hid (ext_trans B.out hb)
  clear hb d0 d1 d2 d3 d4 d5 d6 d7 X
  go_upto_region 4 with fail
  have N : Hid ((World.alloc w1 (.cells #[.int .u8 (byt x 0), .int .u8 (byt x 1), .int .u8 (byt x 2), .int .u8 (byt x 3), .int .u8 (byt x 4), .int .u8 (byt x 5), .int .u8 (byt x 6), .int .u8 (byt x 7)] 25)).heap[w1.heap.size]? = some (.cells #[.int .u8 (byt x 0), .int .u8 (byt x 1), .int .u8 (byt x 2), .int .u8 (byt x 3), .int .u8 (byt x 4), .int .u8 (byt x 5), .int .u8 (byt x 6), .int .u8 (byt x 7)] 25 (0, 0))) := Go.heap_alloc_new w1 _
  have zR := (Array.getElem?_eq_some_iff.1 R.out).1
  replace R : Hid ((World.alloc w1 (.cells #[.int .u8 (byt x 0), .int .u8 (byt x 1), .int .u8 (byt x 2), .int .u8 (byt x 3), .int .u8 (byt x 4), .int .u8 (byt x 5), .int .u8 (byt x 6), .int .u8 (byt x 7)] 25)).heap[w.heap.size + 1]? = some (.cells #[.int .u8 0, .int .u8 0, .int .u8 0, .int .u8 0, .int .u8 0, .int .u8 0, .int .u8 0, .int .u8 0] 25 (0, 0))) := keepA R.out
  replace B : Hid (Below w.heap.size w (World.alloc w1 (.cells #[.int .u8 (byt x 0), .int .u8 (byt x 1), .int .u8 (byt x 2), .int .u8 (byt x 3), .int .u8 (byt x 4), .int .u8 (byt x 5), .int .u8 (byt x 6), .int .u8 (byt x 7)] 25))) := ext_trans B.out (ext_alloc _ _)
  obtain ⟨G, hG⟩ : ∃ G, G = w1.heap.size := ⟨_, rfl⟩
  have NR : w.heap.size + 1 ≠ G := by omega
  have NLo : w.heap.size ≤ G := by omega
  rw [← hG] at N ⊢
  clear hG zR
  generalize World.alloc w1 (.cells #[.int .u8 (byt x 0), .int .u8 (byt x 1), .int .u8 (byt x 2), .int .u8 (byt x 3), .int .u8 (byt x 4), .int .u8 (byt x 5), .int .u8 (byt x 6), .int .u8 (byt x 7)] 25) = V at *
  go_wp2_with fail
  go_loopw [9, 10] (fun av iv wr => ∃ (k a x : Nat), k ≤ n ∧ iv = .int .i64 k ∧ av = .int .i64 a ∧ x < 18446744073709551616 ∧ Hid (a = i / 2 ^ k) ∧ Hid (climbN x (i / 2 ^ k) (xs.drop k) = q) ∧ Hid (wr.heap[G]? = some (.cells #[.int .u8 (byt x 0), .int .u8 (byt x 1), .int .u8 (byt x 2), .int .u8 (byt x 3), .int .u8 (byt x 4), .int .u8 (byt x 5), .int .u8 (byt x 6), .int .u8 (byt x 7)] 25 (0, 0))) ∧ Hid (wr.heap[w.heap.size + 1]? = some (.cells #[.int .u8 0, .int .u8 0, .int .u8 0, .int .u8 0, .int .u8 0, .int .u8 0, .int .u8 0, .int .u8 0] 25 (0, 0))) ∧ Hid (Below w.heap.size w wr)) (fun _ iv _ => n - (intOf iv).toNat)
  case atStart => exact ⟨0, i, x, Nat.zero_le _, rfl, rfl, lx, by show _ = _; rw [Nat.pow_zero, Nat.div_one], by rw [Nat.pow_zero, Nat.div_one, List.drop_zero]; exact HQ.out.symm, N.out, R.out, B.out⟩
  case round =>
    clear N R B HX HQ lx
    obtain ⟨k, a, x, hk, rfl, rfl, lx, HAa, HM, N, R, B⟩ := hrel
    by_cases hlt : k < n
    · have hlen : k < xs.length := by rw [HL.out]; exact hlt
      obtain ⟨b, o, rfl, hbo, hc⟩ := (h.out.ext B.out).at hlt
      obtain ⟨y, hy⟩ : ∃ y, y = xs.getD k 0 := ⟨_, rfl⟩
      rw [← hy] at hc
      have HC := Lib.hid hc
      have HY := Lib.hid hy
      have ly : y < 18446744073709551616 := by rw [hy]; exact small_getD HSm.out _
      have ia : a ≤ 4096 := by rw [HAa.out]; exact Nat.le_trans (Nat.div_le_self _ _) hi4
      obtain ⟨a2, ha2⟩ : ∃ a2, a2 = a / 2 := ⟨_, rfl⟩
      have HA2 : Hid (a2 = i / 2 ^ (k + 1)) := by show _ = _; rw [ha2, HAa.out, Nat.div_div_eq_div_mul, ← Nat.pow_succ]
      have q1 : (a : Int) / 2 = (a2 : Int) := by omega
      have q2 : (a : Int).tdiv 2 = (a2 : Int) := by rw [Int.tdiv_eq_ediv_of_nonneg (by omega)]; exact q1
      have kI : (k : Int) < (n : Int) := by omega
      have kI0 : (0 : Int) ≤ (k : Int) := by omega
      clear hc hy ha2
      by_cases hodd : a % 2 = 1
      · have o1 : (a : Int).tmod 2 = 1 := by rw [Int.tmod_eq_emod_of_nonneg (by omega)]; omega
        have o2 : (a : Int) % 2 = 1 := by omega
        go_upto_region 9 with fail
        refine wp_region_schedF (fin := 6) (fun u => Below wr.heap.size wr u) [(true, 0), (true, 1), (true, 2), (true, 3), (true, 4), (false, 5), (false, 6)] (by kernel_rfl) rfl (by kernel_rfl) (by kernel_rfl) (by kernel_rfl) (fun _ _ d _ _ h => by cases d <;> exact h) (ext_drew wr) ?_
        intro J0 hJ0
        iterate 5 (refine schedF_pure (v := ?_) rfl (by rfl) ?_ ?_; rotate_left; (focus (intro u hC; obtain ⟨d0, d1, d2, d3, d4, d5, d6, d7, _, _, _, _, _, _, _, _⟩ := full8 (keepB hC N.out); obtain ⟨c0, c1, c2, c3, c4, c5, c6, c7⟩ := cells8b hC hbo HC.out; go_simp; try with_reducible rfl)); try go_simp)
        refine schedF_eff rfl ?_
        intro J hJ
        go_wp2_with fail
        rw [← show digV x = .agg #[.int .u8 (byt x 0), .int .u8 (byt x 1), .int .u8 (byt x 2), .int .u8 (byt x 3), .int .u8 (byt x 4), .int .u8 (byt x 5), .int .u8 (byt x 6), .int .u8 (byt x 7)] from rfl, ← show digV y = .agg #[.int .u8 (byt y 0), .int .u8 (byt y 1), .int .u8 (byt y 2), .int .u8 (byt y 3), .int .u8 (byt y 4), .int .u8 (byt y 5), .int .u8 (byt y 6), .int .u8 (byt y 7)] from rfl]
        refine (rtwo_c _ y x ly lx).mono ?_
        obtain ⟨z, hz⟩ : ∃ z, z = twoN y x := ⟨_, rfl⟩
        have lz : z < 18446744073709551616 := by rw [hz]; exact twoN_lt ly lx
        have HM2 : Hid (climbN z (i / 2 ^ (k + 1)) (xs.drop (k + 1)) = q) := by show _ = _; rw [← climbN_on HM.out hlen, ← HAa.out, if_pos hodd, ← HY.out, hz]
        rw [← hz]
        unfold digV
        rintro e v2 ⟨rfl, hb⟩
        have Q : Hid (Below wr.heap.size wr v2) := Lib.hid (ext_trans (ext_drew wr) hb)
        clear hb hz
        replace N := Lib.hid (keepB Q.out N.out)
        replace R := Lib.hid (keepB Q.out R.out)
        replace B := Lib.hid (ext_trans B.out Q.out)
        go_wp2_with fail
        refine ⟨fun _ => Q.out, ?_⟩
        obtain ⟨d0, d1, d2, d3, d4, d5, d6, d7, f0, f1, f2, f3, f4, f5, f6, f7⟩ := full8 N.out
        refine schedF_eff rfl ?_
        intro J hJ
        go_wp2_with fail
        first | refine hJ0 _ _ ?_ | (refine ⟨by first | exact fun h => absurd rfl h | trivial, ?_⟩; refine schedF_nil (hJ0 _ _ ?_))
        clear hJ0 d0 d1 d2 d3 d4 d5 d6 d7 f0 f1 f2 f3 f4 f5 f6 f7
        go_wp2_with fail
        exact ⟨⟨k + 1, a2, z, by omega, by go_num, rfl, lz, HA2.out, HM2.out, set8 N.out (.int .u8 (byt z 0)) (.int .u8 (byt z 1)) (.int .u8 (byt z 2)) (.int .u8 (byt z 3)) (.int .u8 (byt z 4)) (.int .u8 (byt z 5)) (.int .u8 (byt z 6)) (.int .u8 (byt z 7)), oth8 NR R.out (.int .u8 (byt z 0)) (.int .u8 (byt z 1)) (.int .u8 (byt z 2)) (.int .u8 (byt z 3)) (.int .u8 (byt z 4)) (.int .u8 (byt z 5)) (.int .u8 (byt z 6)) (.int .u8 (byt z 7)), bel8 B.out (Nat.le_refl _) NLo (.int .u8 (byt z 0)) (.int .u8 (byt z 1)) (.int .u8 (byt z 2)) (.int .u8 (byt z 3)) (.int .u8 (byt z 4)) (.int .u8 (byt z 5)) (.int .u8 (byt z 6)) (.int .u8 (byt z 7))⟩, by simp [intOf]; omega⟩
      · have o1 : (a : Int).tmod 2 = 0 := by rw [Int.tmod_eq_emod_of_nonneg (by omega)]; omega
        have o2 : (a : Int) % 2 = 0 := by omega
        go_upto_region 10 with fail
        refine wp_region_schedF (fin := 6) (fun u => Below wr.heap.size wr u) [(true, 0), (true, 1), (true, 2), (true, 3), (true, 4), (false, 5), (false, 6)] (by kernel_rfl) rfl (by kernel_rfl) (by kernel_rfl) (by kernel_rfl) (fun _ _ d _ _ h => by cases d <;> exact h) (ext_drew wr) ?_
        intro J0 hJ0
        iterate 5 (refine schedF_pure (v := ?_) rfl (by rfl) ?_ ?_; rotate_left; (focus (intro u hC; obtain ⟨d0, d1, d2, d3, d4, d5, d6, d7, _, _, _, _, _, _, _, _⟩ := full8 (keepB hC N.out); obtain ⟨c0, c1, c2, c3, c4, c5, c6, c7⟩ := cells8b hC hbo HC.out; go_simp; try with_reducible rfl)); try go_simp)
        refine schedF_eff rfl ?_
        intro J hJ
        go_wp2_with fail
        rw [← show digV x = .agg #[.int .u8 (byt x 0), .int .u8 (byt x 1), .int .u8 (byt x 2), .int .u8 (byt x 3), .int .u8 (byt x 4), .int .u8 (byt x 5), .int .u8 (byt x 6), .int .u8 (byt x 7)] from rfl, ← show digV y = .agg #[.int .u8 (byt y 0), .int .u8 (byt y 1), .int .u8 (byt y 2), .int .u8 (byt y 3), .int .u8 (byt y 4), .int .u8 (byt y 5), .int .u8 (byt y 6), .int .u8 (byt y 7)] from rfl]
        refine (rtwo_c _ x y lx ly).mono ?_
        obtain ⟨z, hz⟩ : ∃ z, z = twoN x y := ⟨_, rfl⟩
        have lz : z < 18446744073709551616 := by rw [hz]; exact twoN_lt lx ly
        have HM2 : Hid (climbN z (i / 2 ^ (k + 1)) (xs.drop (k + 1)) = q) := by show _ = _; rw [← climbN_on HM.out hlen, ← HAa.out, if_neg hodd, ← HY.out, hz]
        rw [← hz]
        unfold digV
        rintro e v2 ⟨rfl, hb⟩
        have Q : Hid (Below wr.heap.size wr v2) := Lib.hid (ext_trans (ext_drew wr) hb)
        clear hb hz
        replace N := Lib.hid (keepB Q.out N.out)
        replace R := Lib.hid (keepB Q.out R.out)
        replace B := Lib.hid (ext_trans B.out Q.out)
        go_wp2_with fail
        refine ⟨fun _ => Q.out, ?_⟩
        obtain ⟨d0, d1, d2, d3, d4, d5, d6, d7, f0, f1, f2, f3, f4, f5, f6, f7⟩ := full8 N.out
        refine schedF_eff rfl ?_
        intro J hJ
        go_wp2_with fail
        first | refine hJ0 _ _ ?_ | (refine ⟨by first | exact fun h => absurd rfl h | trivial, ?_⟩; refine schedF_nil (hJ0 _ _ ?_))
        clear hJ0 d0 d1 d2 d3 d4 d5 d6 d7 f0 f1 f2 f3 f4 f5 f6 f7
        go_wp2_with fail
        exact ⟨⟨k + 1, a2, z, by omega, by go_num, rfl, lz, HA2.out, HM2.out, set8 N.out (.int .u8 (byt z 0)) (.int .u8 (byt z 1)) (.int .u8 (byt z 2)) (.int .u8 (byt z 3)) (.int .u8 (byt z 4)) (.int .u8 (byt z 5)) (.int .u8 (byt z 6)) (.int .u8 (byt z 7)), oth8 NR R.out (.int .u8 (byt z 0)) (.int .u8 (byt z 1)) (.int .u8 (byt z 2)) (.int .u8 (byt z 3)) (.int .u8 (byt z 4)) (.int .u8 (byt z 5)) (.int .u8 (byt z 6)) (.int .u8 (byt z 7)), bel8 B.out (Nat.le_refl _) NLo (.int .u8 (byt z 0)) (.int .u8 (byt z 1)) (.int .u8 (byt z 2)) (.int .u8 (byt z 3)) (.int .u8 (byt z 4)) (.int .u8 (byt z 5)) (.int .u8 (byt z 6)) (.int .u8 (byt z 7))⟩, by simp [intOf]; omega⟩
    · obtain rfl : k = n := by omega
      have hI : ¬ (k : Int) < (k : Int) := by omega
      obtain rfl : x = q := by have e := HM.out; rw [← HL.out] at e; exact climbN_end e
      go_upto_region 12 with fail
      have Gl : G < wr.heap.size := (Array.getElem?_eq_some_iff.1 N.out).1
      have ne : ¬ some G = some (w.heap.size + 1) := by intro e; injection e with e; omega
      refine wp_region_schedC (fun u => World.grownBy wr u (some (w.heap.size + 1))) [(true, 0), (true, 1), (true, 2), (false, 3), (false, 4), (false, 5), (true, 6)] (by kernel_rfl) rfl (by kernel_rfl) (by kernel_rfl) (fun _ _ d _ _ h => by cases d <;> exact h) (draws_grown wr 1) ?_
      intro J0 hJ0
      iterate 3 (refine schedC_pure (v := ?_) rfl (by rfl) ?_ ?_; rotate_left; (focus (intro u hC; obtain ⟨d0, d1, d2, d3, d4, d5, d6, d7, _, _, _, _, _, _, _, _⟩ := full8 ((hC.block G Gl ne).trans N.out); go_simp; try with_reducible rfl)); try go_simp)
      refine schedC_eff rfl ?_
      intro J hJ
      go_wp2_with fail
      refine (rname_c _ k hn).mono ?_
      rintro e v1 ⟨rs, rfl, hrs, hb⟩
      have HRS := Lib.hid hrs
      have Q : Hid (Below wr.heap.size wr v1) := Lib.hid (ext_trans (ext_drew wr) hb)
      clear hrs hb
      go_wp2_with fail
      refine ⟨⟨Q.out.os, Q.out.tape, Q.out.output, Q.out.size, fun k hk _ => Q.out.block k hk⟩, ?_⟩
      refine schedC_eff rfl ?_
      intro J hJ
      go_wp2_with fail
      rw [← show digV x = .agg #[.int .u8 (byt x 0), .int .u8 (byt x 1), .int .u8 (byt x 2), .int .u8 (byt x 3), .int .u8 (byt x 4), .int .u8 (byt x 5), .int .u8 (byt x 6), .int .u8 (byt x 7)] from rfl]
      refine (rword_c _ x lx rs (rs_size HRS.out)).mono ?_
      rw [HRS.out, HRq.out]
      unfold digV
      rintro e v2 ⟨rfl, hb⟩
      have Q2 : Hid (Below wr.heap.size wr v2) := Lib.hid (ext_trans Q.out hb)
      clear hb
      have CC : Hid (World.grownBy wr v2 (some (w.heap.size + 1))) := ⟨Q2.out.os, Q2.out.tape, Q2.out.output, Q2.out.size, fun k hk _ => Q2.out.block k hk⟩
      go_wp2_with fail
      refine ⟨CC.out, ?_⟩
      replace R := Lib.hid (keepB Q2.out R.out)
      replace B := Lib.hid (ext_trans B.out Q2.out)
      have z1 : w.heap.size + 1 < v2.heap.size := (Array.getElem?_eq_some_iff.1 R.out).1
      obtain ⟨c0, c1, c2, c3, c4, c5, c6, c7, f0, f1, f2, f3, f4, f5, f6, f7⟩ := full8 R.out
      refine schedC_eff rfl ?_
      intro J hJ
      go_wp2_with fail
      refine ⟨grown_then CC.out (grown8 _ _ _ _ _ _ _ _), ?_⟩
      refine schedC_pure (v := ?_) rfl (by rfl) ?_ ?_; rotate_left
      focus (intro u hC; go_simp; try with_reducible rfl)
      try go_simp
      refine schedC_nil (hJ0 _ _ ?_)
      clear hJ0
      go_wp2_with fail
      obtain ⟨g0, g1, g2, g3, g4, g5, g6, g7⟩ := put8 R.out (.int .u8 (byt r 0)) (.int .u8 (byt r 1)) (.int .u8 (byt r 2)) (.int .u8 (byt r 3)) (.int .u8 (byt r 4)) (.int .u8 (byt r 5)) (.int .u8 (byt r 6)) (.int .u8 (byt r 7))
      refine bodyPost_ret (v := .tuple #[digV r, .bool true]) (by unfold digV; simp only [results, Tryd.results21]; simp [go_sem, g0, g1, g2, g3, g4, g5, g6, g7]) rfl ⟨by unfold digV; rfl, bel8 B.out (Nat.le_refl _) (by omega) _ _ _ _ _ _ _ _⟩
#print axioms rwith_ok

theorem rwith_c (w : World) (i : Int) (x : Nat) (hx : x < 18446744073709551616) (A : Option Addr) (n c : Nat) (xs : List Nat) (h : Hid (RdD w A n c xs)) : Calls Tryd.prog 21 #[.int .i64 i, digV x, .slice A n c] w (Hands (.tuple #[digV (comes i x xs).1, .bool (comes i x xs).2]) w) := by
  have HL := h.out.len
  have hmx := h.out.max
  have hle := h.out.le
  unfold comes
  rw [HL]
  by_cases h0 : n ≤ 12 ∧ 0 ≤ i ∧ i < ((2 ^ n : Nat) : Int)
  · rw [if_pos h0]
    obtain ⟨h1, h2, h3⟩ := h0
    obtain ⟨m, rfl⟩ : ∃ m : Nat, i = (m : Int) := ⟨i.toNat, by omega⟩
    rw [Int.toNat_natCast]
    exact rwith_ok w m x hx A n c xs h h1 (Int.ofNat_lt.1 h3)
  · rw [if_neg h0]
    exact rwith_no w i x A n c (by omega) h0
end Go.Proofs.YtaokfpndplbedaaDoor
