/-
  OnceDigits: the walk.
-/
import Derived.Test.YtdejlahgeckobaaODigs
namespace Go.Proofs.Ytdejlahgeckobaa
open Go.RowKit

set_option maxRecDepth 100000 in
set_option maxHeartbeats 4000000 in
theorem walkOnceDigits (w : World) (m : Nat) (hm : m < 18446744073709551616) :
    Calls Try.prog 6 #[digV m] w (Holds w) := by
  obtain ⟨DL, hDL⟩ : ∃ l : List Value, l = (digA18 m).toList := ⟨_, rfl⟩
  have HV : Hid (digV18 m = .agg DL.toArray) := by rw [hDL]; exact rfl
  have LN : DL.length = 18 := by rw [hDL]; rfl
  have ONE : Hid (∀ v ∈ DL, v.oneCell' = true) := by rw [hDL]; exact digs_one m
  have HG : Hid (∀ k, k < 18 → DL[k]? = some (.int .i64 (dg m k))) := by rw [hDL]; exact digA18_get m
  have HALL := Lib.hid (sum_all m)
  clear hDL
  have E1 := eql_r hm hm
  rw [decide_eq_true rfl] at E1
  have G1 := guard_r .eql m m
  unfold digV at E1 G1
  unfold digV
  go_enter Try.func6, Try.ntmps6
  go_upto_region 1 with fail
  have DS : Hid ((World.alloc w (.cells #[.int .u8 (byt m 0), .int .u8 (byt m 1), .int .u8 (byt m 2), .int .u8 (byt m 3), .int .u8 (byt m 4), .int .u8 (byt m 5), .int .u8 (byt m 6), .int .u8 (byt m 7)] 30)).heap[w.heap.size]? = some (.cells #[.int .u8 (byt m 0), .int .u8 (byt m 1), .int .u8 (byt m 2), .int .u8 (byt m 3), .int .u8 (byt m 4), .int .u8 (byt m 5), .int .u8 (byt m 6), .int .u8 (byt m 7)] 30 (0, 0))) := Go.heap_alloc_new w _
  have B : Hid (Below w.heap.size w (World.alloc w (.cells #[.int .u8 (byt m 0), .int .u8 (byt m 1), .int .u8 (byt m 2), .int .u8 (byt m 3), .int .u8 (byt m 4), .int .u8 (byt m 5), .int .u8 (byt m 6), .int .u8 (byt m 7)] 30))) := ext_alloc _ _
  generalize World.alloc w (.cells #[.int .u8 (byt m 0), .int .u8 (byt m 1), .int .u8 (byt m 2), .int .u8 (byt m 3), .int .u8 (byt m 4), .int .u8 (byt m 5), .int .u8 (byt m 6), .int .u8 (byt m 7)] 30) = W at *
  obtain ⟨s0, s1, s2, s3, s4, s5, s6, s7, _, _, _, _, _, _, _, _⟩ := full8 DS.out; 
  go_wp2_with fail
  rw [← show digV m = .agg #[.int .u8 (byt m 0), .int .u8 (byt m 1), .int .u8 (byt m 2), .int .u8 (byt m 3), .int .u8 (byt m 4), .int .u8 (byt m 5), .int .u8 (byt m 6), .int .u8 (byt m 7)] from rfl]
  refine (reach_c _ m).mono ?_
  rw [HV.out]
  rintro e w1 ⟨rfl, hb⟩
  replace DS := Lib.hid (keepB hb DS.out)
  replace B := Lib.hid (ext_trans B.out hb)
  clear hb s0 s1 s2 s3 s4 s5 s6 s7
  have HA : Hid ((World.alloc w1 (.cells #[.int .i64 0, .int .i64 0, .int .i64 0, .int .i64 0, .int .i64 0, .int .i64 0, .int .i64 0, .int .i64 0, .int .i64 0, .int .i64 0, .int .i64 0, .int .i64 0, .int .i64 0, .int .i64 0, .int .i64 0, .int .i64 0, .int .i64 0, .int .i64 0] 42)).heap[w1.heap.size]? = some (.cells #[.int .i64 0, .int .i64 0, .int .i64 0, .int .i64 0, .int .i64 0, .int .i64 0, .int .i64 0, .int .i64 0, .int .i64 0, .int .i64 0, .int .i64 0, .int .i64 0, .int .i64 0, .int .i64 0, .int .i64 0, .int .i64 0, .int .i64 0, .int .i64 0] 42 (0, 0))) := Go.heap_alloc_new w1 _
  obtain ⟨w3, hs3, R3', B3', K3⟩ := store18 (w0 := w1) LN ONE.out HA.out (Nat.le_refl _) (ext_alloc _ _)
  have zs : w.heap.size < w1.heap.size := (Array.getElem?_eq_some_iff.1 DS.out).1
  replace DS := Lib.hid ((K3 _ (by omega)).trans (keepA (x := .cells #[.int .i64 0, .int .i64 0, .int .i64 0, .int .i64 0, .int .i64 0, .int .i64 0, .int .i64 0, .int .i64 0, .int .i64 0, .int .i64 0, .int .i64 0, .int .i64 0, .int .i64 0, .int .i64 0, .int .i64 0, .int .i64 0, .int .i64 0, .int .i64 0] 42) DS.out))
  replace B := Lib.hid (ext_trans B.out B3')
  have RA := Lib.hid R3'
  clear R3' B3' K3 HA
  go_wp2_with fail
  go_loopw [4, 5] (fun sv iv wr => ∃ k : Nat, k ≤ 16 ∧ iv = .int .i64 k ∧ sv = .int .i64 (sumN m k : Nat) ∧ Hid (wr.rangeAt w1.heap.size 0 DL) ∧ Hid (wr.heap[w.heap.size]? = some (.cells #[.int .u8 (byt m 0), .int .u8 (byt m 1), .int .u8 (byt m 2), .int .u8 (byt m 3), .int .u8 (byt m 4), .int .u8 (byt m 5), .int .u8 (byt m 6), .int .u8 (byt m 7)] 30 (0, 0))) ∧ Hid (Below w.heap.size w wr)) (fun _ iv _ => 16 - (intOf iv).toNat)
  case atStart => exact ⟨0, by omega, rfl, rfl, RA.out, DS.out, B.out⟩
  case round =>
    clear RA DS B hs3 w3
    rename World => w2
    obtain ⟨k, hk, rfl, rfl, RA, DS, B⟩ := hrel
    by_cases hlt : k < 16
    · have hltI : (k : Int) < 16 := by omega
      have hkI : (0 : Int) ≤ (k : Int) := by omega
      have ck : w2.cell? ⟨w1.heap.size, k, none⟩ = some (.int .i64 (dg m k)) := by have := RA.out k _ (HG.out k (by omega)); rwa [Nat.zero_add] at this
      have hSk : sumN m (k + 1) = sumN m k + dg m k := rfl
      have hSl := sumN_le m k
      have hdl := dg_lt m k
      obtain ⟨d, hd⟩ : ∃ d, d = dg m k := ⟨_, rfl⟩
      obtain ⟨S, hS⟩ : ∃ d, d = sumN m k := ⟨_, rfl⟩
      rw [← hS, ← hd] at hSk
      rw [← hd] at ck hdl
      rw [← hS] at hSl
      rw [← hS]
      have HK := Lib.hid hSk
      have g1 : ¬ ((d : Int) < 0) := by omega
      have g2 : ¬ ((15 : Int) < (d : Int)) := by omega
      clear hSk hd hS
      go_wp2_with fail
      exact ⟨⟨k + 1, by omega, by go_num, by rw [HK.out]; go_num, RA.out, DS.out, B.out⟩, by simp [intOf]; omega⟩
    · obtain rfl : k = 16 := by omega
      have hS : Hid (sumN m 16 = sumN m 16) := rfl
      obtain ⟨S, hS⟩ : ∃ d, d = sumN m 16 := ⟨_, rfl⟩
      rw [← hS] at HALL
      rw [← hS]
      clear hS
      go_upto_region 10 with fail
      have F0 : Hid ((World.alloc w2 (.cells #[.int .u8 0, .int .u8 0, .int .u8 0, .int .u8 0, .int .u8 0, .int .u8 0, .int .u8 0, .int .u8 0] 30)).heap[w2.heap.size]? = some (.cells (fillB m 0) 30 (0, 0))) := Go.heap_alloc_new w2 _
      have zs2 : w.heap.size < w2.heap.size := (Array.getElem?_eq_some_iff.1 DS.out).1
      have zr2 : w1.heap.size < w2.heap.size := rangeAt_lt RA.out (by omega)
      replace RA := Lib.hid (World.rangeAt_alloc RA.out (.cells #[.int .u8 0, .int .u8 0, .int .u8 0, .int .u8 0, .int .u8 0, .int .u8 0, .int .u8 0, .int .u8 0] 30))
      replace DS := Lib.hid (keepA (x := .cells #[.int .u8 0, .int .u8 0, .int .u8 0, .int .u8 0, .int .u8 0, .int .u8 0, .int .u8 0, .int .u8 0] 30) DS.out)
      replace B := Lib.hid (ext_trans B.out (ext_alloc w2 (.cells #[.int .u8 0, .int .u8 0, .int .u8 0, .int .u8 0, .int .u8 0, .int .u8 0, .int .u8 0, .int .u8 0] 30)))
      generalize World.alloc w2 (.cells #[.int .u8 0, .int .u8 0, .int .u8 0, .int .u8 0, .int .u8 0, .int .u8 0, .int .u8 0, .int .u8 0] 30) = W2 at *
      go_wp2_with fail
      go_loopw [7] (fun iv wr => ∃ j : Nat, j ≤ 8 ∧ iv = .int .i64 j ∧ Hid (wr.heap[w2.heap.size]? = some (.cells (fillB m j) 30 (0, 0))) ∧ Hid (wr.rangeAt w1.heap.size 0 DL) ∧ Hid (wr.heap[w.heap.size]? = some (.cells #[.int .u8 (byt m 0), .int .u8 (byt m 1), .int .u8 (byt m 2), .int .u8 (byt m 3), .int .u8 (byt m 4), .int .u8 (byt m 5), .int .u8 (byt m 6), .int .u8 (byt m 7)] 30 (0, 0))) ∧ Hid (Below w.heap.size w wr)) (fun iv _ => 8 - (intOf iv).toNat)
      case atStart => exact ⟨0, by omega, rfl, F0.out, RA.out, DS.out, B.out⟩
      case round =>
        clear RA DS B F0
        rename World => w4
        obtain ⟨j, hj, rfl, F, RA, DS, B⟩ := hrel
        by_cases hlt : j < 8
        · have hltI : (j : Int) < 8 := by omega
          have hjI : (0 : Int) ≤ (j : Int) := by omega
          have L1 := HG.out (2 * j) (by omega)
          have L2 := HG.out (2 * j + 1) (by omega)
          rw [dg_nib m (2 * j) (by omega)] at L1
          rw [dg_nib m (2 * j + 1) (by omega)] at L2
          obtain ⟨x, hx⟩ : ∃ x, x = byt m j := ⟨_, rfl⟩
          have xl : x < 256 := by rw [hx]; exact byt_small _ _
          obtain ⟨lo, hlo⟩ : ∃ y, y = nib m (2 * j) := ⟨_, rfl⟩
          obtain ⟨hi, hhi⟩ : ∃ y, y = nib m (2 * j + 1) := ⟨_, rfl⟩
          have ex : (lo : Int) + 16 * (hi : Int) = (x : Int) := by rw [hlo, hhi, nib_even, nib_odd, ← hx]; omega
          have llo : lo < 16 := by rw [hlo]; exact nib_lt _ _
          have lhi : hi < 16 := by rw [hhi]; exact nib_lt _ _
          rw [← hlo] at L1
          rw [← hhi] at L2
          have c6 : w4.drew.cell? ⟨w2.heap.size, j, none⟩ = some (.int .u8 0) := by rw [cell_of_row w4.drew _ _ _ _ _ F.out]; exact fillB_at m j hlt
          have FD : w4.drew.heap[w2.heap.size]? = some (.cells (fillB m j) 30 (0, 0)) := F.out
          have f6 : w4.drew.frozen? ⟨w2.heap.size, j, none⟩ = false := by simp only [World.frozen?, FD]; simp
          have F2 : Hid ((w4.drew.setCell ⟨w2.heap.size, j, none⟩ (.int .u8 x)).heap[w2.heap.size]? = some (.cells (fillB m (j + 1)) 30 (0, 0))) := by
            show _ = _
            rw [← fillB_on m j hlt, ← hx]
            exact heap_set_same (w := w4.drew) _ F.out
          have R2 : Hid ((w4.drew.setCell ⟨w2.heap.size, j, none⟩ (.int .u8 x)).rangeAt w1.heap.size 0 DL) := rangeAt_keep (w := w4.drew) ((World.rangeAt_drew _ _ _ _).2 RA.out) (Below.heap_setCell _ _ _ _ (by show w1.heap.size ≠ w2.heap.size; omega))
          have DS2 : Hid ((w4.drew.setCell ⟨w2.heap.size, j, none⟩ (.int .u8 x)).heap[w.heap.size]? = some (.cells #[.int .u8 (byt m 0), .int .u8 (byt m 1), .int .u8 (byt m 2), .int .u8 (byt m 3), .int .u8 (byt m 4), .int .u8 (byt m 5), .int .u8 (byt m 6), .int .u8 (byt m 7)] 30 (0, 0))) := heap_set_other (w := w4.drew) _ (by omega) DS.out
          have B2 : Hid (Below w.heap.size w (w4.drew.setCell ⟨w2.heap.size, j, none⟩ (.int .u8 x))) := below_set (ext_trans B.out (ext_drew w4)) (Nat.le_refl _) (by omega)
          have cw : IntKind.u8.wrap (x : Int) = (x : Int) := by rw [IntKind.wrap_u8']; omega
          have i0 : (0 : Int) ≤ 2 * (j : Int) := by omega
          have i1 : 2 * (j : Int) < 18 := by omega
          have i2 : (0 : Int) ≤ 2 * (j : Int) + 1 := by omega
          have i3 : 2 * (j : Int) + 1 < 18 := by omega
          have t1 : (2 * (j : Int)).toNat = 2 * j := by omega
          have t2 : (2 * (j : Int) + 1).toNat = 2 * j + 1 := by omega
          have W1 : IntKind.i64.wrap (2 * (j : Int)) = 2 * (j : Int) := IntWalk.i64_in _ (by omega)
          have W2' : IntKind.i64.wrap (2 * (j : Int) + 1) = 2 * (j : Int) + 1 := IntWalk.i64_in _ (by omega)
          have W3 : IntKind.i64.wrap (16 * (hi : Int)) = 16 * (hi : Int) := IntWalk.i64_in _ (by omega)
          have W5 : IntKind.i64.wrap (x : Int) = (x : Int) := IntWalk.i64_in _ (by omega)
          have W4 : IntKind.i64.wrap ((lo : Int) + 16 * (hi : Int)) = (x : Int) := by rw [ex]; exact IntWalk.i64_in _ (by omega)
          clear hx hlo hhi FD
          go_wp2_with fail
          refine wp_region_schedC (fun v => v.rangeAt w1.heap.size 0 DL) [(true, 0), (true, 1), (true, 2), (true, 3), (true, 4), (true, 5), (true, 6), (true, 7), (true, 8), (true, 9), (true, 10), (true, 11), (true, 12), (true, 13), (false, 14)] (by kernel_rfl) rfl (by kernel_rfl) (by kernel_rfl) (fun _ _ d _ _ h => by cases d <;> exact h) ((World.rangeAt_drew _ _ _ _).2 RA.out) ?_
          intro J0 hJ0
          iterate 3 (refine schedC_pure (v := ?_) rfl (by rfl) ?_ ?_; rotate_left; (focus (intro v hC; go_simp; try with_reducible rfl)); try go_simp)
          refine schedC_pure (v := .pointer (some ⟨w1.heap.size, 2 * j, none⟩)) rfl (by rfl) ?_ ?_
          · intro v hC; go_simp
          try go_simp
          refine schedC_pure (v := .int .i64 lo) rfl (by rfl) ?_ ?_
          · intro v hC; have c1 : v.cell? ⟨w1.heap.size, 2 * j, none⟩ = some (.int .i64 lo) := by { have := hC _ _ L1; rwa [Nat.zero_add] at this }; go_simp
          try go_simp
          iterate 3 (refine schedC_pure (v := ?_) rfl (by rfl) ?_ ?_; rotate_left; (focus (intro v hC; go_simp; try with_reducible rfl)); try go_simp)
          refine schedC_pure (v := .pointer (some ⟨w1.heap.size, 2 * j + 1, none⟩)) rfl (by rfl) ?_ ?_
          · intro v hC; go_simp
          try go_simp
          refine schedC_pure (v := .int .i64 hi) rfl (by rfl) ?_ ?_
          · intro v hC; have c2 : v.cell? ⟨w1.heap.size, 2 * j + 1, none⟩ = some (.int .i64 hi) := by { have := hC _ _ L2; rwa [Nat.zero_add] at this }; go_simp
          try go_simp
          iterate 1 (refine schedC_pure (v := ?_) rfl (by rfl) ?_ ?_; rotate_left; (focus (intro v hC; go_simp; try with_reducible rfl)); try go_simp)
          refine schedC_pure (v := .int .i64 x) rfl (by rfl) ?_ ?_
          · intro v hC; go_simp
          try go_simp
          refine schedC_pure (v := .int .u8 x) rfl (by rfl) ?_ ?_
          · intro v hC; go_simp
          try go_simp
          refine schedC_pure (v := .pointer (some ⟨w2.heap.size, j, none⟩)) rfl (by rfl) ?_ ?_
          · intro v hC; go_simp
          try go_simp
          refine schedC_eff rfl ?_
          intro J hJ
          go_wp2_with fail
          refine ⟨R2.out, ?_⟩
          refine schedC_nil (hJ0 _ _ ?_)
          clear hJ0
          go_wp2_with fail
          exact ⟨⟨j + 1, by omega, by go_num, F2.out, R2.out, DS2.out, B2.out⟩, by simp [intOf]; omega⟩
        · obtain rfl : j = 8 := by omega
          replace F : Hid (w4.heap[w2.heap.size]? = some (.cells #[.int .u8 (byt m 0), .int .u8 (byt m 1), .int .u8 (byt m 2), .int .u8 (byt m 3), .int .u8 (byt m 4), .int .u8 (byt m 5), .int .u8 (byt m 6), .int .u8 (byt m 7)] 30 (0, 0))) := F.out
          go_wp2_with fail
          refine (known_c _).mono ?_
          rintro e w5 ⟨rfl, hb⟩
          replace F := Lib.hid (keepB hb F.out)
          replace DS := Lib.hid (keepB hb DS.out)
          replace RA := Lib.hid (rangeAt_keep RA.out (hb.block _ (rangeAt_lt RA.out (by omega))))
          replace B := Lib.hid (ext_trans B.out hb)
          clear hb
          have c16 : w5.cell? ⟨w1.heap.size, 16, none⟩ = some (.int .i64 (dg m 16)) := by have := RA.out 16 _ (HG.out 16 (by omega)); rwa [Nat.zero_add] at this
          have c17 : w5.cell? ⟨w1.heap.size, 17, none⟩ = some (.int .i64 (dg m 17)) := by have := RA.out 17 _ (HG.out 17 (by omega)); rwa [Nat.zero_add] at this
          have hp := dg_lt m 16
          have hq := dg_lt m 17
          have H240 := HALL.out
          obtain ⟨p, hpp⟩ : ∃ y, y = dg m 16 := ⟨_, rfl⟩
          obtain ⟨q, hqq⟩ : ∃ y, y = dg m 17 := ⟨_, rfl⟩
          rw [← hpp] at c16 hp H240
          rw [← hqq] at c17 hq H240
          have e240 : (S : Int) + (p : Int) + 16 * (q : Int) = 240 := by omega
          have sl : S ≤ 240 := by omega
          have p0 : (0 : Int) ≤ (p : Int) := by omega
          have q0 : (0 : Int) ≤ (q : Int) := by omega
          have p16 : (p : Int) < 16 := by omega
          clear hpp hqq H240
          obtain ⟨s0, s1, s2, s3, s4, s5, s6, s7, _, _, _, _, _, _, _, _⟩ := full8 DS.out; obtain ⟨x0, x1, x2, x3, x4, x5, x6, x7, _, _, _, _, _, _, _, _⟩ := full8 F.out; 
          go_wp2_with fail
          go_ret
          exact ⟨rfl, B.out⟩
#print axioms walkOnceDigits
end Go.Proofs.Ytdejlahgeckobaa
