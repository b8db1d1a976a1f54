/-
  CoinPots: the walk.
-/
import Derived.Test.YthdnfnilckjldaaCRPay
import Derived.Test.YthdnfnilckjldaaCTold
import Derived.Test.YthdnfnilckjldaaCAsk2
namespace Go.Proofs.Ythdnfnilckjldaa
open Go.RowKit

theorem Pot.grown3 {w w' : World} {b b2 : Nat} {left seats : Int} {hs : List Int} (h : Pot w b left seats hs) (k : w.grownBy w' (some b2)) (hn : b ≠ b2) : Pot w' b left seats hs := by
  obtain ⟨cur, h1, h2⟩ := h.blk
  exact ⟨⟨cur, (k.block b h.lt (fun e => hn (by injection e))).trans h1, h2⟩, h.len, h.fits⟩
def RMadeN (L : Int) (S : Nat) (xs : List Int) (X : Int) (W : World) (x nv : Value) (v : World) : Prop := nv = .int .i64 X ∧ RMade L S xs W x v
theorem take_set_getD (hs : List Int) (S j : Nat) (x : Int) (hj : j < S) : (hs.take S).set j ((hs.take S).getD j 0 + x) = (hs.set j (hs.getD j 0 + x)).take S := by
  rw [List.take_set]
  congr 2
  simp [List.getD, hj]

set_option maxRecDepth 100000 in
set_option maxHeartbeats 4000000 in
theorem pots_ok (w : World) (amount : Int) (S : Nat) (A : Option Addr) (n c : Nat) (xs : Nat → Int × Int) (h : Hid (RdP w A n c xs)) (hn : n ≤ 40) (ha : Hid (Amt amount)) (h1 : 1 ≤ S) (h8 : S ≤ 8) :
    Calls Try.prog 7 #[.int .i64 amount, .int .i64 S, .slice A n c] w (Holds w) := by
  have hle := h.out.le
  have hmax := h.out.max
  have gI : ¬ (40 : Int) < (n : Int) := by omega
  have hS0 : 0 < S := by omega
  go_enter Try.func7, Try.ntmps7
  go_wp2_with fail
  refine (newPot_ok w amount S ha (by omega) (by omega)).mono ?_
  rintro e w1 ⟨b, rfl, hp, zb, hb⟩
  have P1 := Lib.hid hp
  have zb1 := hp.lt
  have B1 := Lib.hid hb
  clear hp hb
  go_wp2_with fail
  refine (rnew_ok w1 amount S ha h1 h8).mono ?_
  rintro e w2 ⟨A9, c9, rfl, ho, hb⟩
  replace hb := ext_trans hb (ext_alloc w2 (.cells #[.int .i64 amount, .slice A9 S c9] 45))
  have O1 := Lib.hid (ho.ext (ext_alloc w2 (.cells #[.int .i64 amount, .slice A9 S c9] 45)))
  have D1 : Hid ((World.alloc w2 (.cells #[.int .i64 amount, .slice A9 S c9] 45)).heap[w2.heap.size]? = some (.cells #[.int .i64 amount, .slice A9 S c9] 45 (0, 0))) := Go.heap_alloc_new w2 _
  have zw2 : w1.heap.size ≤ w2.heap.size := by have := hb.size; have := ho.row_ge; obtain ⟨g, _, hg1, hg2⟩ := ho.blockless hS0; omega
  replace P1 := Lib.hid (P1.out.ext hb)
  have B := Lib.hid (ext_trans B1.out hb)
  clear ho hb B1
  go_upto_region 7 with fail
  generalize World.alloc w2 (.cells #[.int .i64 amount, .slice A9 S c9] 45) = V at *
  obtain ⟨p9, hp9⟩ : ∃ p, p = w2.heap.size := ⟨_, rfl⟩
  rw [← hp9] at D1 zw2 ⊢
  clear hp9
  generalize w1.heap.size = B0 at *
  have zB : w.heap.size ≤ B0 := by omega
  go_wp2_with fail
  go_loopw [11] (fun iv wr => ∃ (k : Nat) (left : Int) (hs : List Int) (A9 : Option Addr) (c9 : Nat), k ≤ n ∧ iv = .int .i64 k ∧ Hid (Pot wr b left S hs) ∧ Hid (wr.heap[p9]? = some (.cells #[.int .i64 left, .slice A9 S c9] 45 (0, 0))) ∧ Hid (OwnI wr 3 B0 A9 S c9 (hs.take S)) ∧ Hid (Below w.heap.size w wr)) (fun iv _ => n - (intOf iv).toNat)
  case atStart => exact ⟨0, amount, _, A9, c9, Nat.zero_le _, rfl, P1.out, D1.out, by rw [List.take_replicate, Nat.min_eq_left h8]; exact O1.out, B.out⟩
  case round =>
    clear P1 B D1 O1
    rename World => W
    obtain ⟨k, left, hs, A9, c9, hk, rfl, PT, P9, O9, B⟩ := hrel
    have f1 := PT.out.fits.1
    have HF := Lib.hid PT.out.fits.2.2.2
    have HL := Lib.hid PT.out.len
    have f2 : left ≤ 1125899906842624 := by have := HF.out (hs.getD 0 0) (by rw [show hs.getD 0 0 = hs[0]'(by rw [HL.out]; omega) by simp [HL.out]]; exact List.getElem_mem _); omega
    by_cases hlt : k < n
    · have hltI : (k : Int) < (n : Int) := by omega
      have hkI : (0 : Int) ≤ (k : Int) := by omega
      obtain ⟨b0, o0, rfl, hb0, hc0⟩ := h.out.cells (by omega)
      obtain ⟨q1, q2⟩ := hc0 k hlt
      obtain ⟨s, hs1⟩ : ∃ s, s = (xs k).1 := ⟨_, rfl⟩
      obtain ⟨a, hs2⟩ : ∃ a, a = (xs k).2 := ⟨_, rfl⟩
      rw [← hs1] at q1
      rw [← hs2] at q2
      have Q1 := Lib.hid ((B.out.cell (p := ⟨b0, o0 + k * 2, none⟩) hb0).trans q1)
      have Q2 := Lib.hid ((B.out.cell (p := ⟨b0, o0 + k * 2 + 1, none⟩) hb0).trans q2)
      have zb0 : b0 < W.heap.size := Nat.lt_of_lt_of_le hb0 B.out.size
      have nb : ¬ some b0 = some b := by intro e; injection e with e; omega
      clear q1 q2 hs1 hs2 hc0
      obtain ⟨x, hx⟩ : ∃ x, x = min (max a 0) left := ⟨_, rfl⟩
      have x0 : 0 ≤ x := by omega
      have x1 : x ≤ left := by omega
      have HX : Hid (min (max a 0) left = x) := hx.symm
      clear hx
      obtain ⟨j, hj⟩ : ∃ j, j = seatAt s S := ⟨_, rfl⟩
      have jS : j < S := by rw [hj]; exact seatAt_lt s S h1
      have HJ : Hid (seatAt s S = j) := hj.symm
      clear hj
      obtain ⟨ys, hys⟩ : ∃ l, l = (hs.set j (hs.getD j 0 + x)) := ⟨_, rfl⟩
      have HY : Hid (hs.set j (hs.getD j 0 + x) = ys) := hys.symm
      have HT : Hid ((hs.take S).set j ((hs.take S).getD j 0 + x) = ys.take S) := by show _ = _; rw [hys]; exact take_set_getD hs S j x jS
      clear hys
      go_upto_region 10 with fail
      go_cut [12, 13] (fun xv nv wx => RMadeN (left - x) S (ys.take S) x W xv nv wx)
      case first =>
        refine wp_region_tr (fin := 99) (fun v => Below W.heap.size W v) (.pure 0 (.pure 1 (.pure 2 (.pure 3 (.pure 4 (.pure 5 (.pure 6 (.pure 7 (.pure 8 (.pure 9 (.pure 10 (.two 11 (.pure 12 (.pure 13 (.pure 14 (.eff 15 (.eff 16 (.pure 17 .nil)))))) 15 (.eff 11 (.pure 12 (.pure 13 (.pure 14 (.eff 16 (.pure 17 .nil)))))))))))))))))) (by kernel_rfl) (by kernel_rfl) (by kernel_rfl) (fun _ _ d _ _ h => by cases d <;> exact h) (ext_drew W) ?_
        intro J0 hJ0
        iterate 11 (refine tr_pure (v := ?_) rfl (by rfl) ?_ ?_; rotate_left; (focus (intro v hC; have r1 := (hC.cell (p := ⟨b0, o0 + k * 2, none⟩) zb0).trans Q1.out; have r2 := (hC.cell (p := ⟨b0, o0 + k * 2 + 1, none⟩) zb0).trans Q2.out; obtain ⟨d0, d1, _, _⟩ := full2f (keepB hC P9.out); go_simp; try with_reducible rfl)); try go_simp)
        have Q : Hid (Below W.heap.size W W.drew) := Lib.hid (ext_drew W)
        generalize W.drew = V0 at *
        refine tr_two rfl rfl ?_ ?_
        · intro J hJ
          go_wp2_with fail
          refine (rpay_c _ left S A9 c9 (hs.take S) (Lib.hid ((O9.out.ext (Q.out)).rd)) h1 h8 f1 f2 (fun y hy => HF.out y (List.mem_of_mem_take hy)) s a).mono ?_
          rw [HX.out, HJ.out]
          unfold RPays
          rw [HT.out]
          rintro e v1 ⟨A7, c7, rfl, ho, hb⟩
          have O7 := Lib.hid (ho.base Q.out.size)
          have Q : Hid (Below W.heap.size W v1) := Lib.hid (ext_trans Q.out hb)
          clear ho hb
          go_wp2_with fail
          refine ⟨by first | exact Q.out | exact fun _ => Q.out, ?_⟩
          iterate 3 (refine tr_pure (v := ?_) rfl (by rfl) ?_ ?_; rotate_left; (focus (intro v hC; go_simp; try with_reducible rfl)); try go_simp)
          refine tr_eff rfl ?_
          intro J hJ
          go_wp2_with fail
          refine ⟨by first | exact ext_trans Q.out (ext_alloc _ _) | exact fun _ => ext_trans Q.out (ext_alloc _ _), ?_⟩
          obtain ⟨v2, hu⟩ : ∃ u, u = World.alloc v1 (.cells #[.int .i64 0, .slice none 0 0] 45) := ⟨_, rfl⟩
          rw [← hu]
          obtain ⟨p, hp⟩ : ∃ p, p = (v1).heap.size := ⟨_, rfl⟩
          have hpd : (v1).heap.size = p := hp.symm
          rw [hpd]
          have PA : Hid (v2.heap[p]? = some (.cells #[.int .i64 0, .slice none 0 0] 45 (0, 0))) := by rw [hu, hp]; exact Go.heap_alloc_new _ _
          have PZ : W.heap.size ≤ p := by rw [hp]; exact Q.out.size
          have O7 := Lib.hid (by rw [hu]; exact O7.out.ext (ext_alloc _ _) : OwnI v2 3 W.heap.size A7 S c7 (ys.take S))
          have Q : Hid (Below W.heap.size W v2) := by rw [hu]; exact ext_trans Q.out (ext_alloc _ _)
          clear hu hp hpd
          refine tr_eff rfl ?_
          intro J hJ
          obtain ⟨c0, c1, f0, f1⟩ := full2f PA.out
          go_wp2_with fail
          refine ⟨by first | exact bel2 Q.out PZ _ _ | exact fun _ => bel2 Q.out PZ _ _, ?_⟩
          refine tr_pure (v := .int .i64 x) rfl (by rfl) (fun v hC => ?_) ?_
          · go_simp
          try go_simp
          refine tr_nil (hJ0 _ _ ?_)
          go_wp2_with fail
          go_meet
          exact ⟨rfl, p, A7, c7, rfl, PZ, set2 PA.out _ _, O7.out.kept2 PA.out hS0 _ _, bel2 Q.out PZ _ _⟩
        · intro J hJ
          go_wp2_with fail
          refine ⟨by first | exact ext_trans Q.out (ext_alloc _ _) | exact fun _ => ext_trans Q.out (ext_alloc _ _), ?_⟩
          obtain ⟨v3, hu⟩ : ∃ u, u = World.alloc V0 (.cells #[.int .i64 0, .slice none 0 0] 45) := ⟨_, rfl⟩
          rw [← hu]
          obtain ⟨p, hp⟩ : ∃ p, p = (V0).heap.size := ⟨_, rfl⟩
          have hpd : (V0).heap.size = p := hp.symm
          rw [hpd]
          have PA : Hid (v3.heap[p]? = some (.cells #[.int .i64 0, .slice none 0 0] 45 (0, 0))) := by rw [hu, hp]; exact Go.heap_alloc_new _ _
          have PZ : W.heap.size ≤ p := by rw [hp]; exact Q.out.size
          have Q : Hid (Below W.heap.size W v3) := by rw [hu]; exact ext_trans Q.out (ext_alloc _ _)
          clear hu hp hpd
          refine tr_eff rfl ?_
          intro J hJ
          go_wp2_with fail
          refine (rpay_c _ left S A9 c9 (hs.take S) (Lib.hid ((O9.out.ext (Q.out)).rd)) h1 h8 f1 f2 (fun y hy => HF.out y (List.mem_of_mem_take hy)) s a).mono ?_
          rw [HX.out, HJ.out]
          unfold RPays
          rw [HT.out]
          rintro e v4 ⟨A7, c7, rfl, ho, hb⟩
          have O7 := Lib.hid (ho.base Q.out.size)
          have PA := Lib.hid (keepB hb PA.out)
          have Q : Hid (Below W.heap.size W v4) := Lib.hid (ext_trans Q.out hb)
          clear ho hb
          go_wp2_with fail
          refine ⟨by first | exact Q.out | exact fun _ => Q.out, ?_⟩
          iterate 3 (refine tr_pure (v := ?_) rfl (by rfl) ?_ ?_; rotate_left; (focus (intro v hC; go_simp; try with_reducible rfl)); try go_simp)
          refine tr_eff rfl ?_
          intro J hJ
          obtain ⟨c0, c1, f0, f1⟩ := full2f PA.out
          go_wp2_with fail
          refine ⟨by first | exact bel2 Q.out PZ _ _ | exact fun _ => bel2 Q.out PZ _ _, ?_⟩
          refine tr_pure (v := .int .i64 x) rfl (by rfl) (fun v hC => ?_) ?_
          · go_simp
          try go_simp
          refine tr_nil (hJ0 _ _ ?_)
          go_wp2_with fail
          go_meet
          exact ⟨rfl, p, A7, c7, rfl, PZ, set2 PA.out _ _, O7.out.kept2 PA.out hS0 _ _, bel2 Q.out PZ _ _⟩
      case rest =>
        obtain ⟨rfl, q, A7, c7, rfl, zq, hq, ho, hbw⟩ := hcut
        rename World => V
        have Q12 := Lib.hid hq
        have O7 := Lib.hid (ho.base (show B0 ≤ W.heap.size by have := (Array.getElem?_eq_some_iff.1 P9.out).1; omega))
        replace P9 := Lib.hid (keepB hbw P9.out)
        replace PT := Lib.hid (PT.out.ext hbw)
        replace Q1 := Lib.hid ((hbw.cell (p := ⟨b0, o0 + k * 2, none⟩) zb0).trans Q1.out)
        replace Q2 := Lib.hid ((hbw.cell (p := ⟨b0, o0 + k * 2 + 1, none⟩) zb0).trans Q2.out)
        replace B := Lib.hid (ext_trans B.out hbw)
        have zp9 : p9 < V.heap.size := (Array.getElem?_eq_some_iff.1 P9.out).1
        have zb0' : b0 < V.heap.size := Nat.lt_of_lt_of_le zb0 hbw.size
        have nb9 : b0 ≠ p9 := by omega
        have n9 : b ≠ p9 := by omega
        clear hq ho hbw zq zb0 O9
        obtain ⟨d0, d1, _, _⟩ := full2f Q12.out
        obtain ⟨e0, e1, e2, e3⟩ := full2f P9.out
        go_upto_region 12 with fail
        have G9 : World.grownBy V ((V.setCell ⟨p9, 0, none⟩ (.int .i64 (left - x))).setCell ⟨p9, 1, none⟩ (.slice A7 S c7)) (some p9) := World.grownBy.trans1 (grownBy_set' _) (grownBy_set' _)
        replace PT := Lib.hid (PT.out.grown3 G9 n9)
        replace O7 := Lib.hid (O7.out.kept2 P9.out hS0 (.int .i64 (left - x)) (.slice A7 S c7))
        replace Q1 := Lib.hid ((World.cell?_of_block (a := ⟨b0, o0 + k * 2, none⟩) (G9.block b0 zb0' (fun e => nb9 (Option.some.inj e)))).trans Q1.out)
        replace Q2 := Lib.hid ((World.cell?_of_block (a := ⟨b0, o0 + k * 2 + 1, none⟩) (G9.block b0 zb0' (fun e => nb9 (Option.some.inj e)))).trans Q2.out)
        replace B := Lib.hid (bel2 B.out (show w.heap.size ≤ p9 by omega) (.int .i64 (left - x)) (.slice A7 S c7))
        replace P9 := Lib.hid (set2 P9.out (.int .i64 (left - x)) (.slice A7 S c7))
        have zb0 : b0 < ((V.setCell ⟨p9, 0, none⟩ (.int .i64 (left - x))).setCell ⟨p9, 1, none⟩ (.slice A7 S c7)).heap.size := by have := G9.size; omega
        have z9 : p9 < ((V.setCell ⟨p9, 0, none⟩ (.int .i64 (left - x))).setCell ⟨p9, 1, none⟩ (.slice A7 S c7)).heap.size := by have := G9.size; omega
        clear G9 d0 d1 e0 e1 e2 e3 Q12 zp9 zb0'
        generalize (V.setCell ⟨p9, 0, none⟩ (.int .i64 (left - x))).setCell ⟨p9, 1, none⟩ (.slice A7 S c7) = U at *
        refine wp_region_schedC (fun v => World.grownBy U v (some b)) [(true, 0), (true, 1), (true, 2), (true, 3), (true, 4), (true, 5), (true, 6), (true, 7), (true, 8), (true, 9), (true, 10), (true, 12), (false, 11), (true, 13), (true, 14), (true, 15), (true, 17), (true, 18), (false, 16), (true, 19), (true, 20), (true, 21), (true, 22), (true, 24), (true, 25), (false, 23), (false, 26), (true, 27), (true, 28)] (by kernel_rfl) rfl (by kernel_rfl) (by kernel_rfl) (fun _ _ d _ _ h => by cases d <;> exact h) (drew_grown U _) ?_
        intro J0 hJ0
        iterate 12 (refine schedC_pure (v := ?_) rfl (by rfl) ?_ ?_; rotate_left; (focus (intro v hC; have r1 := (World.cell?_of_block (a := ⟨b0, o0 + k * 2, none⟩) (hC.block b0 zb0 nb)).trans Q1.out; have r2 := (World.cell?_of_block (a := ⟨b0, o0 + k * 2 + 1, none⟩) (hC.block b0 zb0 nb)).trans Q2.out; go_simp; try with_reducible rfl)); try go_simp)
        refine schedC_eff rfl ?_
        intro J hJ
        go_wp2_with fail
        refine (pay_c _ b left S hs (PT.out.ext (ext_drew U)) s a).mono ?_
        rw [HX.out, HJ.out]
        unfold Paid
        rw [HY.out]
        rintro e w3 ⟨rfl, hp, hg⟩
        have P3 := Lib.hid hp
        have GG : Hid (World.grownBy U w3 (some b)) := grown_then (drew_grown U _) hg
        clear hp hg
        go_wp2_with fail
        refine ⟨GG.out, ?_⟩
        iterate 5 (refine schedC_pure (v := ?_) rfl (by rfl) ?_ ?_; rotate_left; (focus (intro v hC; obtain ⟨d0, d1, _, _⟩ := full2f ((hC.block p9 z9 (fun e => n9 (Option.some.inj e).symm)).trans P9.out); go_simp; try with_reducible rfl)); try go_simp)
        refine schedC_eff rfl ?_
        intro J hJ
        go_wp2_with fail
        refine (left_c _ b (left - x) S ys P3.out).mono ?_
        rintro e w4 ⟨rfl, rfl⟩
        go_wp2_with fail
        refine ⟨GG.out, ?_⟩
        iterate 6 (refine schedC_pure (v := ?_) rfl (by rfl) ?_ ?_; rotate_left; (focus (intro v hC; obtain ⟨d0, d1, _, _⟩ := full2f ((hC.block p9 z9 (fun e => n9 (Option.some.inj e).symm)).trans P9.out); go_simp; try with_reducible rfl)); try go_simp)
        refine schedC_eff rfl ?_
        intro J hJ
        go_wp2_with fail
        refine (pays_c _ b (left - x) S ys P3).mono ?_
        rw [Int.toNat_natCast]
        rintro e w5 ⟨A5, c5, rfl, ho, hb⟩
        have O5 := Lib.hid ho.rd
        have O8 := Lib.hid ((O7.out.kept GG.out (fun g hg => by injection hg with hg; omega)).ext hb)
        replace P3 := Lib.hid (P3.out.ext hb)
        replace GG := Lib.hid (grown_then GG.out (below_grown_none hb _))
        clear ho hb
        go_wp2_with fail
        refine ⟨GG.out, ?_⟩
        refine schedC_eff rfl ?_
        intro J hJ
        go_wp2_with fail
        refine (alike_yes _ _ _ _ _ O5.out _ _ O8.out.rd).mono ?_
        rintro e w6 ⟨rfl, hb⟩
        have O6 := Lib.hid (O8.out.ext hb)
        replace P3 := Lib.hid (P3.out.ext hb)
        replace GG := Lib.hid (grown_then GG.out (below_grown_none hb _))
        clear hb O5 O8
        go_wp2_with fail
        refine ⟨GG.out, ?_⟩
        iterate 2 (refine schedC_pure (v := ?_) rfl (by rfl) ?_ ?_; rotate_left; (focus (intro v hC; go_simp; try with_reducible rfl)); try go_simp)
        refine schedC_nil (hJ0 _ _ ?_)
        clear hJ0 PT
        replace P9 := Lib.hid ((GG.out.block p9 z9 (fun e => n9 (Option.some.inj e).symm)).trans P9.out)
        replace B := Lib.hid (below_grown B.out B.out.size GG.out (fun k hk => by injection hk with hk; omega))
        go_wp2_with fail
        exact ⟨⟨k + 1, left - x, ys, A7, c7, by omega, by go_num, P3.out, P9.out, O6.out, B.out⟩, by simp [intOf]; omega⟩
    · obtain rfl : n = k := by omega
      have hLI : ¬ (n : Int) < (n : Int) := by omega
      go_wp2_with fail
      refine (told_c _).mono ?_
      rintro e w7 ⟨rfl, hb⟩
      replace B := Lib.hid (ext_trans B.out hb)
      clear hb
      go_wp2_with fail
      go_ret
      exact ⟨rfl, B.out⟩

set_option maxRecDepth 100000 in
set_option maxHeartbeats 4000000 in
theorem pots_long (w : World) (amount seats : Int) (A : Option Addr) (n c : Nat) (xs : Nat → Int × Int) (h : Hid (RdP w A n c xs)) (hn : 40 < n) :
    Calls Try.prog 7 #[.int .i64 amount, .int .i64 seats, .slice A n c] w (Holds w) := by
  have hle := h.out.le
  have hmax := h.out.max
  have gI : (40 : Int) < (n : Int) := by omega
  go_enter Try.func7, Try.ntmps7
  go_wp2_with fail
  refine (told_c _).mono ?_
  rintro e w2 ⟨rfl, hb⟩
  have B := Lib.hid hb
  clear hb
  go_wp2_with fail
  go_ret
  exact ⟨rfl, B.out⟩

set_option maxRecDepth 100000 in
set_option maxHeartbeats 4000000 in
theorem pots_range (w : World) (amount seats : Int) (A : Option Addr) (n c : Nat) (xs : Nat → Int × Int) (h : Hid (RdP w A n c xs)) (hn : n ≤ 40) (ha : Hid (¬ Amt amount)) :
    Calls Try.prog 7 #[.int .i64 amount, .int .i64 seats, .slice A n c] w (Holds w) := by
  have hle := h.out.le
  have hmax := h.out.max
  have gI : ¬ (40 : Int) < (n : Int) := by omega
  go_enter Try.func7, Try.ntmps7
  go_wp2_with fail
  refine (newPot_range _ _ _ ha).mono ?_
  rintro e w1 ⟨rfl, rfl⟩
  go_wp2_with fail
  refine (rnew_range _ _ _ ha).mono ?_
  rintro e w2 ⟨rfl, hb⟩
  replace hb := ext_trans hb (ext_alloc w2 (.cells #[.int .i64 0, .slice none 0 0] 45))
  have B := Lib.hid hb
  clear hb
  go_upto_region 7 with fail
  generalize World.alloc w2 (.cells #[.int .i64 0, .slice none 0 0] 45) = V at *
  generalize w2.heap.size = p9 at *
  go_wp2_with fail
  go_loopw [11] (fun iv wr => iv = .int .i64 0 ∧ wr = V) (fun _ _ => 0)
  case atStart => exact ⟨rfl, rfl⟩
  case round =>
    obtain ⟨rfl, rfl⟩ := hrel
    by_cases hz : (0 : Int) < (n : Int)
    · go_wp2_with fail
      refine (told_c _).mono ?_
      rintro e w3 ⟨rfl, hb⟩
      replace B := Lib.hid (ext_trans B.out hb)
      clear hb
      go_wp2_with fail
      go_ret
      exact ⟨rfl, B.out⟩
    · go_wp2_with fail
      refine (told_c _).mono ?_
      rintro e w3 ⟨rfl, hb⟩
      replace B := Lib.hid (ext_trans B.out hb)
      clear hb
      go_wp2_with fail
      go_ret
      exact ⟨rfl, B.out⟩

set_option maxRecDepth 100000 in
set_option maxHeartbeats 4000000 in
theorem pots_low (w : World) (amount seats : Int) (A : Option Addr) (n c : Nat) (xs : Nat → Int × Int) (h : Hid (RdP w A n c xs)) (hn : n ≤ 40) (ha : Hid (Amt amount)) (hs : seats < 1) :
    Calls Try.prog 7 #[.int .i64 amount, .int .i64 seats, .slice A n c] w (Holds w) := by
  have hle := h.out.le
  have hmax := h.out.max
  have gI : ¬ (40 : Int) < (n : Int) := by omega
  go_enter Try.func7, Try.ntmps7
  go_wp2_with fail
  refine (newPot_arg _ _ _ ha (.inl hs)).mono ?_
  rintro e w1 ⟨rfl, rfl⟩
  go_wp2_with fail
  refine (rnew_low _ _ _ ha hs).mono ?_
  rintro e w2 ⟨rfl, hb⟩
  replace hb := ext_trans hb (ext_alloc w2 (.cells #[.int .i64 0, .slice none 0 0] 45))
  have B := Lib.hid hb
  clear hb
  go_upto_region 7 with fail
  generalize World.alloc w2 (.cells #[.int .i64 0, .slice none 0 0] 45) = V at *
  generalize w2.heap.size = p9 at *
  go_wp2_with fail
  go_loopw [11] (fun iv wr => iv = .int .i64 0 ∧ wr = V) (fun _ _ => 0)
  case atStart => exact ⟨rfl, rfl⟩
  case round =>
    obtain ⟨rfl, rfl⟩ := hrel
    by_cases hz : (0 : Int) < (n : Int)
    · go_wp2_with fail
      refine (told_c _).mono ?_
      rintro e w3 ⟨rfl, hb⟩
      replace B := Lib.hid (ext_trans B.out hb)
      clear hb
      go_wp2_with fail
      go_ret
      exact ⟨rfl, B.out⟩
    · go_wp2_with fail
      refine (told_c _).mono ?_
      rintro e w3 ⟨rfl, hb⟩
      replace B := Lib.hid (ext_trans B.out hb)
      clear hb
      go_wp2_with fail
      go_ret
      exact ⟨rfl, B.out⟩

set_option maxRecDepth 100000 in
set_option maxHeartbeats 4000000 in
theorem pots_high (w : World) (amount seats : Int) (A : Option Addr) (n c : Nat) (xs : Nat → Int × Int) (h : Hid (RdP w A n c xs)) (hn : n ≤ 40) (ha : Hid (Amt amount)) (hs : 8 < seats) :
    Calls Try.prog 7 #[.int .i64 amount, .int .i64 seats, .slice A n c] w (Holds w) := by
  have hle := h.out.le
  have hmax := h.out.max
  have gI : ¬ (40 : Int) < (n : Int) := by omega
  go_enter Try.func7, Try.ntmps7
  go_wp2_with fail
  refine (newPot_arg _ _ _ ha (.inr hs)).mono ?_
  rintro e w1 ⟨rfl, rfl⟩
  go_wp2_with fail
  refine (rnew_high _ _ _ ha hs).mono ?_
  rintro e w2 ⟨rfl, hb⟩
  replace hb := ext_trans hb (ext_alloc w2 (.cells #[.int .i64 0, .slice none 0 0] 45))
  have B := Lib.hid hb
  clear hb
  go_upto_region 7 with fail
  generalize World.alloc w2 (.cells #[.int .i64 0, .slice none 0 0] 45) = V at *
  generalize w2.heap.size = p9 at *
  go_wp2_with fail
  go_loopw [11] (fun iv wr => iv = .int .i64 0 ∧ wr = V) (fun _ _ => 0)
  case atStart => exact ⟨rfl, rfl⟩
  case round =>
    obtain ⟨rfl, rfl⟩ := hrel
    by_cases hz : (0 : Int) < (n : Int)
    · go_wp2_with fail
      refine (told_c _).mono ?_
      rintro e w3 ⟨rfl, hb⟩
      replace B := Lib.hid (ext_trans B.out hb)
      clear hb
      go_wp2_with fail
      go_ret
      exact ⟨rfl, B.out⟩
    · go_wp2_with fail
      refine (told_c _).mono ?_
      rintro e w3 ⟨rfl, hb⟩
      replace B := Lib.hid (ext_trans B.out hb)
      clear hb
      go_wp2_with fail
      go_ret
      exact ⟨rfl, B.out⟩

theorem walkCoinPots (w : World) (amount seats : Int) (A : Option Addr) (n c : Nat) (xs : Nat → Int × Int) (_ : -9223372036854775808 ≤ amount) (_ : amount < 9223372036854775808) (_ : -9223372036854775808 ≤ seats) (_ : seats < 9223372036854775808) (h : RdP w A n c xs) :
    Calls Try.prog 7 #[.int .i64 amount, .int .i64 seats, .slice A n c] w (Holds w) := by
  by_cases hn : 40 < n
  · exact pots_long w amount seats A n c xs h hn
  by_cases ha : Amt amount
  · by_cases hs : seats < 1
    · exact pots_low w amount seats A n c xs h (by omega) ha hs
    by_cases hs2 : 8 < seats
    · exact pots_high w amount seats A n c xs h (by omega) ha hs2
    · obtain ⟨S, rfl⟩ : ∃ S : Nat, seats = S := ⟨seats.toNat, by omega⟩
      exact pots_ok w amount S A n c xs h (by omega) ha (by omega) (by omega)
  · exact pots_range w amount seats A n c xs h (by omega) ha
#print axioms walkCoinPots
end Go.Proofs.Ythdnfnilckjldaa
