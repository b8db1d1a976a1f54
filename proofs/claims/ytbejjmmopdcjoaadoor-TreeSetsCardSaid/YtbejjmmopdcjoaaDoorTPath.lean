/-
  tree: Path of a tree; Root, Path of leaves: contracts.
-/
import Derived.Test.YtbejjmmopdcjoaaDoorTRead
import Derived.Test.YtbejjmmopdcjoaaDoorTBits
namespace Go.Proofs.YtbejjmmopdcjoaaDoor
open Go.RowKit Go.Deep

/-- the call hands back a row of its own of these digests, and an error's number -/
def Paths (w : World) (e0 : Int) (xs : List Nat) (e : Ending) (w' : World) : Prop := ∃ A c, e = .returned (.tuple #[.slice A xs.length c, .int .i64 e0]) ∧ OwnD w' 26 w.heap.size A xs.length c xs ∧ Below w.heap.size w w'

set_option maxRecDepth 100000 in
set_option maxHeartbeats 2000000 in
theorem pathm_no (w : World) (Lo T : Nat) (l : List Nat) (i : Int) (h : Hid (TrAt w Lo T l)) (hi : ¬ (0 ≤ i ∧ i < (l.length : Int))) : Calls Tryd.prog 28 #[.pointer (some ⟨T, 0, none⟩), .int .i64 i] w (Paths w 9 []) := by
  have HD := Lib.hid (show decide (0 ≤ i ∧ i < (l.length : Int)) = false from decide_eq_false hi)
  go_enter Tryd.func28, Tryd.ntmps28
  go_wp2_with fail
  refine (has_c _ Lo T l i h).mono ?_
  rw [HD.out]
  rintro e w1 ⟨rfl, rfl⟩
  go_wp2_with fail
  refine bodyPost_ret (v := .tuple #[.slice none 0 0, .int .i64 9]) (by simp only [results, Tryd.results28]; simp [go_sem]) rfl ⟨none, 0, rfl, OwnD.void _ _ _, Below.refl _ _⟩
set_option maxRecDepth 100000 in
theorem pathm_nil (w : World) (i : Int) : Calls Tryd.prog 28 #[.pointer none, .int .i64 i] w (Paths w 1 []) := by
  go_enter Tryd.func28, Tryd.ntmps28
  go_wp2_with fail
  refine bodyPost_ret (v := .tuple #[.slice none 0 0, .int .i64 1]) (by simp only [results, Tryd.results28]; simp [go_sem]) rfl ⟨none, 0, rfl, OwnD.void _ _ _, Below.refl _ _⟩
theorem pathN_getF {l : List Nat} {i H : Nat} (j : Nat) (hj : j < H) : nd l j (oth (i / 2 ^ j)) = (pathN l i H).getD j 0 := (pathN_get hj).symm

set_option maxRecDepth 100000 in
set_option maxHeartbeats 2000000 in
theorem pathm_ok (w : World) (Lo T : Nat) (l : List Nat) (i : Nat) (h : Hid (TrAt w Lo T l)) (hi : i < l.length) : Calls Tryd.prog 28 #[.pointer (some ⟨T, 0, none⟩), .int .i64 i] w (Paths w 0 (pathN l i (hgt l.length))) := by
  have HD := Lib.hid (show decide (0 ≤ (i : Int) ∧ (i : Int) < (l.length : Int)) = true from decide_eq_true ⟨by omega, by omega⟩)
  have HH := Lib.hid (heightI_ok h.out.n1 h.out.n2)
  have H12 := hgt_le h.out.n2
  have L4 : l.length ≤ 4096 := h.out.n2
  have HSm := Lib.hid h.out.small
  have HLT := Lib.hid (fun k (hk : k < hgt l.length) => levX_low (l := l) hk)
  have T0 := h.out.part.tlt
  obtain ⟨H, hH⟩ : ∃ H, H = hgt l.length := ⟨_, rfl⟩
  have HHE := Lib.hid hH
  rw [← hH] at HH H12 HLT ⊢
  clear hH
  go_enter Tryd.func28, Tryd.ntmps28
  go_wp2_with fail
  refine (has_c _ Lo T l _ h).mono ?_
  rw [HD.out]
  rintro e w1 ⟨rfl, rfl⟩
  go_wp2_with fail
  refine (len_c _ Lo T l h).mono ?_
  rintro e w1 ⟨rfl, rfl⟩
  go_wp2_with fail
  refine (height_c _ _ (by omega)).mono ?_
  rw [HH.out]
  rintro e w1 ⟨rfl, rfl⟩
  go_wp2_with (refine wpList_makeD (o := ⟨some 21, _, _, _, _, _⟩) rfl (.tmp 20) (.tmp 20) rfl H H (by rfl) (by rfl) (Nat.le_refl _) (by omega) ?_; intro v1 hr hb; have R := Lib.hid hr; have B := Lib.hid hb; clear hr hb; go_simp)
  go_loopw [23] (fun iv wr => ∃ k : Nat, k ≤ H ∧ iv = .int .i64 k ∧ Hid (RowK wr 26 w1.heap.size H (fun j => nd l j (oth (i / 2 ^ j))) k) ∧ Hid (Below w1.heap.size w1 wr)) (fun iv _ => H - (intOf iv).toNat)
  case atStart => exact ⟨0, Nat.zero_le _, rfl, ⟨by omega, R.out.blk.imp fun _ q => ⟨q.1, q.2.1, fun j hj => by omega⟩⟩, B.out⟩
  case round =>
    clear R B
    obtain ⟨k, hk, rfl, R, B⟩ := hrel
    have zr := R.out.lt
    by_cases hlt : k < H
    · obtain ⟨a, ha⟩ : ∃ a, a = i / 2 ^ k := ⟨_, rfl⟩
      obtain ⟨p, hp⟩ : ∃ p, p = oth a := ⟨_, rfl⟩
      have HF := Lib.hid (HLT.out k hlt)
      obtain ⟨m, hm⟩ : ∃ m, m = (levX l k).length := ⟨_, rfl⟩
      have hpm : p < m := by rw [hm, HF.out, levelP_len, hp, ha]; exact oth_lt hi k
      obtain ⟨y, hy⟩ : ∃ y, y = nd l k p := ⟨_, rfl⟩
      have ly : y < 18446744073709551616 := by rw [hy]; exact nd_lt HSm.out _ _
      have HY : Hid ((levX l k).getD p 0 = y) := by show _ = _; rw [HF.out, levelP_get (by rw [hm, HF.out, levelP_len] at hpm; exact hpm), hy]
      have HY2 : Hid (y = nd l k (oth (i / 2 ^ k))) := by show _ = _; rw [hy, hp, ha]
      obtain ⟨g, c, k1, k2⟩ := h.out.row (k := k) (by rw [← HHE.out]; omega)
      obtain ⟨b, o, hA, hb, hc⟩ := k2.at (k := p) (by rw [← hm]; exact hpm)
      injection hA with hA
      injection hA with e1 e2 _
      subst e1 e2
      rw [HY.out] at hc
      simp only [Nat.zero_add] at hc
      rw [← hm] at k1
      have HCE := Lib.hid k1
      have HC := Lib.hid hc
      have m63 : m < 9223372036854775808 := by have q := k2.le; have q2 := k2.max; rw [← hm] at q; omega
      have ia : a ≤ 4096 := by rw [ha]; exact Nat.le_trans (Nat.div_le_self _ _) (by omega)
      have kI : (k : Int) < (H : Int) := by omega
      have kI0 : (0 : Int) ≤ (k : Int) := by omega
      have kI1 : (k : Int) < 13 := by omega
      have pI0 : (0 : Int) ≤ (p : Int) := by omega
      have pI : (p : Int) < (m : Int) := by omega
      have HAa := Lib.hid ha
      have HPp := Lib.hid hp
      clear k1 hc k2 hy hm ha hp
      go_upto_region 10 with fail
      have HCE2 : Hid (wr.cell? ⟨T, 1 + k, none⟩ = some (.slice (some ⟨g, 0, none⟩) m c)) := (B.out.cell (p := ⟨T, 1 + k, none⟩) T0).trans HCE.out
      have hne : g ≠ w1.heap.size := by omega
      have hneT : T ≠ w1.heap.size := by omega
      have HC2 : Hid (wr.cell? ⟨g, p * 8, none⟩ = some (.int .u8 (byt y 0)) ∧ wr.cell? ⟨g, p * 8 + 1, none⟩ = some (.int .u8 (byt y 1)) ∧ wr.cell? ⟨g, p * 8 + 2, none⟩ = some (.int .u8 (byt y 2)) ∧ wr.cell? ⟨g, p * 8 + 3, none⟩ = some (.int .u8 (byt y 3)) ∧ wr.cell? ⟨g, p * 8 + 4, none⟩ = some (.int .u8 (byt y 4)) ∧ wr.cell? ⟨g, p * 8 + 5, none⟩ = some (.int .u8 (byt y 5)) ∧ wr.cell? ⟨g, p * 8 + 6, none⟩ = some (.int .u8 (byt y 6)) ∧ wr.cell? ⟨g, p * 8 + 7, none⟩ = some (.int .u8 (byt y 7))) := cells8 (g := w1.heap.size) ⟨B.out.os, B.out.tape, B.out.output, B.out.size, fun j hj _ => B.out.block j hj⟩ hb hne HC.out
      have gr : g < wr.heap.size := Nat.lt_of_lt_of_le hb B.out.size
      have Tr : T < wr.heap.size := Nat.lt_of_lt_of_le T0 B.out.size
      refine wp_region_schedC (fun u => World.grownBy wr u (some w1.heap.size)) [(true, 0), (true, 1), (true, 2), (true, 3), (true, 4), (true, 5), (true, 6), (true, 7), (true, 8), (true, 9), (true, 10), (true, 11), (true, 12), (true, 13), (true, 14), (false, 15)] (by kernel_rfl) rfl (by kernel_rfl) (by kernel_rfl) (fun _ _ d _ _ h => by cases d <;> exact h) (draws_grown wr 1) ?_
      intro J0 hJ0
      iterate 10 (refine schedC_pure (v := ?_) rfl (by rfl) ?_ ?_; rotate_left; (focus (intro u hC; have ce := (World.cell?_of_block (a := ⟨T, 1 + k, none⟩) (hC.block T Tr (fun e => hneT (by injection e)))).trans HCE2.out; go_simp; try with_reducible rfl)); try go_simp)
      refine schedC_pure (v := .int .i64 (a : Int)) rfl (by rfl) (fun u hC => exec_bin rfl rfl rfl rfl (shr_nat _ _ _ _ (by omega) HAa.out)) ?_
      try go_simp
      refine schedC_pure (v := .int .i64 (p : Int)) rfl (by rfl) (fun u hC => exec_bin rfl rfl rfl rfl (xor_nat _ _ _ ia HPp.out)) ?_
      try go_simp
      iterate 3 (refine schedC_pure (v := ?_) rfl (by rfl) ?_ ?_; rotate_left; (focus (intro u hC; obtain ⟨c0, c1, c2, c3, c4, c5, c6, c7⟩ := cells8 hC gr hne HC2.out; go_simp; try with_reducible rfl)); try go_simp)
      have G0 : Hid (World.grownBy wr wr.drew (some w1.heap.size)) := draws_grown wr 1
      replace R := Lib.hid (R.out.ext (ext_drew wr))
      replace B := Lib.hid (ext_trans B.out (ext_drew wr))
      clear HCE2 HC2 HCE HC
      generalize wr.drew = V at *
      obtain ⟨y0, y1, y2, y3, y4, y5, y6, y7, p0, p1, p2, p3, p4, p5, p6, p7, q0, q1, q2, q3, q4, q5, q6, q7⟩ := R.out.place (j := k) (by omega)
      refine schedC_eff rfl ?_
      intro J hJ
      go_wp2_with fail
      refine ⟨grown_then G0.out (grownR _ _ _), ?_⟩
      refine schedC_nil (hJ0 _ _ ?_)
      clear hJ0
      go_wp2_with fail
      exact ⟨⟨k + 1, by omega, by go_num, R.out.on (by omega) HY2.out, below_row B.out (Nat.le_refl _) (Nat.le_refl _)⟩, by simp [intOf]; omega⟩
    · obtain rfl : k = H := by omega
      have hI : ¬ (k : Int) < (k : Int) := by omega
      have O := Lib.hid (R.out.own (Nat.le_refl _) (Nat.le_refl _) (pathN l i k) (pathN_len l i k) pathN_getF (pathN_small HSm.out i k))
      go_wp2_with fail
      refine bodyPost_ret (v := .tuple #[.slice (some ⟨w1.heap.size, 0, none⟩) k k, .int .i64 0]) (by simp only [results, Tryd.results28]; simp [go_sem]) rfl ⟨some ⟨w1.heap.size, 0, none⟩, k, by rw [pathN_len], ?_, B.out⟩
      rw [pathN_len]
      exact O.out
#print axioms pathm_ok

set_option maxRecDepth 100000 in
set_option maxHeartbeats 2000000 in
theorem root_ok (w : World) (b o n c : Nat) (l : List Nat) (h : Hid (RdD w (some ⟨b, o, none⟩) n c l)) (n1 : 1 ≤ n) (n2 : n ≤ 4096) : Calls Tryd.prog 12 #[.slice (some ⟨b, o, none⟩) n c] w (Hands (.tuple #[digV (treeN l (hgt n)), .int .i64 0]) w) := by
  have HL := Lib.hid h.out.len
  obtain ⟨y, hy⟩ : ∃ y, y = treeN l (hgt n) := ⟨_, rfl⟩
  have HY : Hid (treeN l (hgt l.length) = y) := by show _ = _; rw [HL.out, hy]
  rw [← hy]
  clear hy
  go_enter Tryd.func12, Tryd.ntmps12
  go_wp2_with fail
  refine (new_ok _ b o n c l (Lib.hid (h.out.ext (ext_alloc _ _))) n1 n2).mono ?_
  rintro e w1 ⟨T, rfl, hT, hb⟩
  have TA := Lib.hid hT
  have R := Lib.hid (keepB (b := w.heap.size) hb (heap_alloc_newest (w := w) rfl))
  have B := Lib.hid (ext_trans (ext_alloc _ _) hb)
  clear hT hb
  go_wp2_with fail
  refine (rootm_c _ _ T l TA).mono ?_
  rw [HY.out]
  unfold digV
  rintro e w2 ⟨rfl, hb⟩
  replace R := Lib.hid (keepB hb R.out)
  replace B := Lib.hid (ext_trans B.out hb)
  have z1 : w.heap.size < w2.heap.size := (Array.getElem?_eq_some_iff.1 R.out).1
  clear hb
  obtain ⟨c0, c1, c2, c3, c4, c5, c6, c7, f0, f1, f2, f3, f4, f5, f6, f7⟩ := full8 R.out
  go_wp2_with fail
  obtain ⟨g0, g1, g2, g3, g4, g5, g6, g7⟩ := put8 R.out (.int .u8 (byt y 0)) (.int .u8 (byt y 1)) (.int .u8 (byt y 2)) (.int .u8 (byt y 3)) (.int .u8 (byt y 4)) (.int .u8 (byt y 5)) (.int .u8 (byt y 6)) (.int .u8 (byt y 7))
  refine bodyPost_ret (v := .tuple #[digV y, .int .i64 0]) (by unfold digV; simp only [results, Tryd.results12]; simp [go_sem, g0, g1, g2, g3, g4, g5, g6, g7]) rfl ⟨by unfold digV; rfl, bel8 B.out (Nat.le_refl _) (by omega) _ _ _ _ _ _ _ _⟩

set_option maxRecDepth 100000 in
set_option maxHeartbeats 2000000 in
theorem root_no (w : World) (A : Option Addr) (n c : Nat) (hn : n < 9223372036854775808) (h0 : ¬ (1 ≤ n ∧ n ≤ 4096)) : Calls Tryd.prog 12 #[.slice A n c] w (Hands (.tuple #[digV 0, .int .i64 2]) w) := by
  go_enter Tryd.func12, Tryd.ntmps12
  go_wp2_with fail
  refine (new_no _ A n c hn h0).mono ?_
  rintro e w1 ⟨rfl, rfl⟩
  go_wp2_with fail
  refine (rootm_nil _).mono ?_
  unfold digV
  rintro e w2 ⟨rfl, hb⟩
  have R := Lib.hid (keepB (b := w.heap.size) hb (heap_alloc_newest (w := w) rfl))
  have B := Lib.hid (ext_trans (ext_alloc _ _) hb)
  have z1 : w.heap.size < w2.heap.size := (Array.getElem?_eq_some_iff.1 R.out).1
  clear hb
  obtain ⟨c0, c1, c2, c3, c4, c5, c6, c7, f0, f1, f2, f3, f4, f5, f6, f7⟩ := full8 R.out
  go_wp2_with fail
  obtain ⟨g0, g1, g2, g3, g4, g5, g6, g7⟩ := put8 R.out (.int .u8 (byt 0 0)) (.int .u8 (byt 0 1)) (.int .u8 (byt 0 2)) (.int .u8 (byt 0 3)) (.int .u8 (byt 0 4)) (.int .u8 (byt 0 5)) (.int .u8 (byt 0 6)) (.int .u8 (byt 0 7))
  refine bodyPost_ret (v := .tuple #[digV 0, .int .i64 2]) (by unfold digV; simp only [results, Tryd.results12]; simp [go_sem, g0, g1, g2, g3, g4, g5, g6, g7]) rfl ⟨by unfold digV; rfl, bel8 B.out (Nat.le_refl _) (by omega) _ _ _ _ _ _ _ _⟩

set_option maxRecDepth 100000 in
set_option maxHeartbeats 2000000 in
theorem path_no (w : World) (A : Option Addr) (n c : Nat) (i : Int) (hn : n < 9223372036854775808) (h0 : ¬ (1 ≤ n ∧ n ≤ 4096)) : Calls Tryd.prog 18 #[.slice A n c, .int .i64 i] w (Paths w 2 []) := by
  go_enter Tryd.func18, Tryd.ntmps18
  go_wp2_with fail
  refine (new_no _ A n c hn h0).mono ?_
  rintro e w1 ⟨rfl, rfl⟩
  go_wp2_with fail
  refine bodyPost_ret (v := .tuple #[.slice none 0 0, .int .i64 2]) (by simp only [results, Tryd.results18]; simp [go_sem]) rfl ⟨none, 0, rfl, OwnD.void _ _ _, Below.refl _ _⟩

set_option maxRecDepth 100000 in
set_option maxHeartbeats 2000000 in
theorem path_ok (w : World) (b o n c : Nat) (l : List Nat) (i : Nat) (h : Hid (RdD w (some ⟨b, o, none⟩) n c l)) (n1 : 1 ≤ n) (n2 : n ≤ 4096) (hi : i < n) : Calls Tryd.prog 18 #[.slice (some ⟨b, o, none⟩) n c, .int .i64 i] w (Paths w 0 (pathN l i (hgt n))) := by
  have HL := Lib.hid h.out.len
  have HI := Lib.hid hi
  obtain ⟨xs, hxs⟩ : ∃ xs : List Nat, xs = pathN l i (hgt n) := ⟨_, rfl⟩
  have HX : Hid ((pathN l i (hgt l.length)) = xs) := by show _ = _; rw [HL.out, hxs]
  rw [← hxs]
  clear hxs hi
  go_enter Tryd.func18, Tryd.ntmps18
  go_wp2_with fail
  refine (new_ok _ b o n c l h n1 n2).mono ?_
  rintro e w1 ⟨T, rfl, hT, hb⟩
  have TA := Lib.hid hT
  have B := Lib.hid hb
  clear hT hb
  go_wp2_with fail
  refine (pathm_ok _ _ T l i TA (by rw [HL.out]; exact HI.out)).mono ?_
  rw [HX.out]
  rintro e w2 ⟨A, c2, rfl, hO, hb⟩
  have O := Lib.hid (hO.low B.out.size)
  replace B := Lib.hid (ext_trans B.out hb)
  clear hO hb
  go_wp2_with fail
  refine bodyPost_ret (v := .tuple #[.slice A xs.length c2, .int .i64 0]) (by simp only [results, Tryd.results18]; simp [go_sem]) rfl ⟨A, c2, rfl, O.out, B.out⟩
#print axioms path_ok

set_option maxRecDepth 100000 in
set_option maxHeartbeats 2000000 in
theorem path_out (w : World) (b o n c : Nat) (l : List Nat) (i : Int) (h : Hid (RdD w (some ⟨b, o, none⟩) n c l)) (n1 : 1 ≤ n) (n2 : n ≤ 4096) (hi : ¬ (0 ≤ i ∧ i < (n : Int))) : Calls Tryd.prog 18 #[.slice (some ⟨b, o, none⟩) n c, .int .i64 i] w (Paths w 9 ([])) := by
  have HL := Lib.hid h.out.len
  have HI := Lib.hid hi
  obtain ⟨xs, hxs⟩ : ∃ xs : List Nat, xs = [] := ⟨_, rfl⟩
  have HX : Hid (([]) = xs) := by show _ = _; exact hxs.symm
  rw [← hxs]
  clear hxs hi
  go_enter Tryd.func18, Tryd.ntmps18
  go_wp2_with fail
  refine (new_ok _ b o n c l h n1 n2).mono ?_
  rintro e w1 ⟨T, rfl, hT, hb⟩
  have TA := Lib.hid hT
  have B := Lib.hid hb
  clear hT hb
  go_wp2_with fail
  refine (pathm_no _ _ T l i TA (by rw [HL.out]; exact HI.out)).mono ?_
  rw [HX.out]
  rintro e w2 ⟨A, c2, rfl, hO, hb⟩
  have O := Lib.hid (hO.low B.out.size)
  replace B := Lib.hid (ext_trans B.out hb)
  clear hO hb
  go_wp2_with fail
  refine bodyPost_ret (v := .tuple #[.slice A xs.length c2, .int .i64 9]) (by simp only [results, Tryd.results18]; simp [go_sem]) rfl ⟨A, c2, rfl, O.out, B.out⟩
#print axioms path_out

end Go.Proofs.YtbejjmmopdcjoaaDoor
