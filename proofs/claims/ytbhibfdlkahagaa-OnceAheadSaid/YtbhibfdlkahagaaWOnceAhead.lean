/-
  OnceAhead: the walk.
-/
import Derived.Test.YtbhibfdlkahagaaOAhead
import Derived.Test.YtbhibfdlkahagaaORAhead
import Derived.Test.YtbhibfdlkahagaaOVer
import Derived.Test.YtbhibfdlkahagaaHOpen
namespace Go.Proofs.Ytbhibfdlkahagaa
open Go.RowKit

set_option maxRecDepth 100000 in
set_option maxHeartbeats 4000000 in
theorem ahead_alike (w : World) (a : Nat) (la : a < 18446744073709551616) :
    Calls Try.prog 9 #[digV a, digV a] w (Holds w) := by
  have E1 := eql_r la la
  rw [decide_eq_true rfl] at E1
  have G1 := guard_r .eql a a
  unfold digV at E1 G1
  unfold digV
  go_enter Try.func9, Try.ntmps9
  go_upto_region 1 with fail
  generalize hW : World.alloc (World.alloc w (.cells #[.int .u8 (byt a 0), .int .u8 (byt a 1), .int .u8 (byt a 2), .int .u8 (byt a 3), .int .u8 (byt a 4), .int .u8 (byt a 5), .int .u8 (byt a 6), .int .u8 (byt a 7)] 30)) (.cells #[.int .u8 (byt a 0), .int .u8 (byt a 1), .int .u8 (byt a 2), .int .u8 (byt a 3), .int .u8 (byt a 4), .int .u8 (byt a 5), .int .u8 (byt a 6), .int .u8 (byt a 7)] 30) = W0
  have DA : Hid (W0.heap[w.heap.size]? = some (.cells #[.int .u8 (byt a 0), .int .u8 (byt a 1), .int .u8 (byt a 2), .int .u8 (byt a 3), .int .u8 (byt a 4), .int .u8 (byt a 5), .int .u8 (byt a 6), .int .u8 (byt a 7)] 30 (0, 0))) := by rw [← hW]; exact keepA (Go.heap_alloc_new w _)
  have DB : Hid (W0.heap[w.heap.size + 1]? = some (.cells #[.int .u8 (byt a 0), .int .u8 (byt a 1), .int .u8 (byt a 2), .int .u8 (byt a 3), .int .u8 (byt a 4), .int .u8 (byt a 5), .int .u8 (byt a 6), .int .u8 (byt a 7)] 30 (0, 0))) := by rw [← hW]; exact heap_alloc_newest (w := World.alloc _ _) (by simp)
  have B : Hid (Below w.heap.size w W0) := by rw [← hW]; exact ext_trans (ext_alloc _ _) (ext_alloc _ _)
  clear hW
  go_wp2_with fail
  refine wp_region_schedC (fun v => Below W0.heap.size W0 v) [(true, 0), (true, 1), (true, 3), (true, 4), (false, 2), (false, 5), (true, 6), (true, 7)] (by kernel_rfl) rfl (by kernel_rfl) (by kernel_rfl) (fun _ _ d _ _ h => by cases d <;> exact h) (ext_drew W0) ?_
  intro J0 hJ0
  have CC : Hid (Below W0.heap.size W0 W0.drew) := Lib.hid (ext_drew W0)
  iterate 4 (refine schedC_pure (v := ?_) rfl (by rfl) ?_ ?_; rotate_left; (focus (intro v hC; obtain ⟨a0, a1, a2, a3, a4, a5, a6, a7, _, _, _, _, _, _, _, _⟩ := full8 (keepB hC DA.out); obtain ⟨b0, b1, b2, b3, b4, b5, b6, b7, _, _, _, _, _, _, _, _⟩ := full8 (keepB hC DB.out); go_simp; try with_reducible rfl)); try go_simp)
  refine schedC_eff rfl ?_
  intro J hJ
  go_wp2_with fail
  refine (ahead_c _ a a la la).mono ?_
  rw [ahead_self]
  rintro e w1 ⟨rfl, hb⟩
  replace CC : Hid (Below W0.heap.size W0 w1) := Lib.hid (ext_trans CC.out hb)
  clear hb
  go_wp2_with fail
  refine ⟨CC.out, ?_⟩
  refine schedC_eff rfl ?_
  intro J hJ
  go_wp2_with fail
  refine (ahead_c _ a a la la).mono ?_
  rw [ahead_self]
  rintro e w2 ⟨rfl, hb⟩
  replace CC : Hid (Below W0.heap.size W0 w2) := Lib.hid (ext_trans CC.out hb)
  clear hb
  go_wp2_with fail
  refine ⟨CC.out, ?_⟩
  iterate 2 (refine schedC_pure (v := ?_) rfl (by rfl) ?_ ?_; rotate_left; (focus (intro v hC; go_simp; try with_reducible rfl)); try go_simp)
  refine schedC_nil (hJ0 _ _ ?_)
  clear hJ0
  replace DA := Lib.hid (keepB CC.out DA.out)
  replace DB := Lib.hid (keepB CC.out DB.out)
  replace B := Lib.hid (ext_trans B.out CC.out)
  clear CC
  go_upto_region 2 with fail
  obtain ⟨a0, a1, a2, a3, a4, a5, a6, a7, _, _, _, _, _, _, _, _⟩ := full8 DA.out; obtain ⟨b0, b1, b2, b3, b4, b5, b6, b7, _, _, _, _, _, _, _, _⟩ := full8 DB.out; 
  go_wp2_with fail
  refine (rahead_c _ a a la la).mono ?_
  rw [ahead_self]
  rintro e w3 ⟨rfl, hb⟩
  replace DA := Lib.hid (keepB hb DA.out)
  replace DB := Lib.hid (keepB hb DB.out)
  replace B := Lib.hid (ext_trans B.out hb)
  clear hb a0 b0 a1 b1 a2 b2 a3 b3 a4 b4 a5 b5 a6 b6 a7 b7
  obtain ⟨a0, a1, a2, a3, a4, a5, a6, a7, _, _, _, _, _, _, _, _⟩ := full8 DA.out; obtain ⟨b0, b1, b2, b3, b4, b5, b6, b7, _, _, _, _, _, _, _, _⟩ := full8 DB.out; 
  go_wp2_with fail
  refine (rahead_c _ a a la la).mono ?_
  rw [ahead_self]
  rintro e w4 ⟨rfl, hb⟩
  replace DA := Lib.hid (keepB hb DA.out)
  replace DB := Lib.hid (keepB hb DB.out)
  replace B := Lib.hid (ext_trans B.out hb)
  clear hb a0 b0 a1 b1 a2 b2 a3 b3 a4 b4 a5 b5 a6 b6 a7 b7
  obtain ⟨a0, a1, a2, a3, a4, a5, a6, a7, _, _, _, _, _, _, _, _⟩ := full8 DA.out; obtain ⟨b0, b1, b2, b3, b4, b5, b6, b7, _, _, _, _, _, _, _, _⟩ := full8 DB.out; 
  go_wp2_with fail
  refine (ahead_c _ a a la la).mono ?_
  rw [ahead_self]
  rintro e W ⟨rfl, hb⟩
  replace DA := Lib.hid (keepB hb DA.out)
  replace DB := Lib.hid (keepB hb DB.out)
  replace B := Lib.hid (ext_trans B.out hb)
  clear hb a0 b0 a1 b1 a2 b2 a3 b3 a4 b4 a5 b5 a6 b6 a7 b7
  obtain ⟨a0, a1, a2, a3, a4, a5, a6, a7, _, _, _, _, _, _, _, _⟩ := full8 DA.out; obtain ⟨b0, b1, b2, b3, b4, b5, b6, b7, _, _, _, _, _, _, _, _⟩ := full8 DB.out; 
  go_wp2_with fail
  refine (known_c _).mono ?_
  rintro e w7 ⟨rfl, hb⟩
  replace B := Lib.hid (ext_trans B.out hb)
  clear hb
  go_wp2_with fail
  go_ret
  exact ⟨rfl, B.out⟩

set_option maxRecDepth 100000 in
set_option maxHeartbeats 4000000 in
theorem ahead_unlike (w : World) (a b : Nat) (la : a < 18446744073709551616) (lb : b < 18446744073709551616) (hab : a ≠ b) :
    Calls Try.prog 9 #[digV a, digV b] w (Holds w) := by
  obtain ⟨kx, hx, ux, gx⟩ := ahead_of la lb hab
  obtain ⟨ky, hy, uy, gy⟩ := ahead_of lb la (Ne.symm hab)
  have HX := Lib.hid hx
  have HY := Lib.hid hy
  have nk : kx ≠ ky := fun e => by subst e; omega
  clear hx hy
  obtain ⟨x1, e1⟩ : ∃ x, x = dg a kx := ⟨_, rfl⟩
  obtain ⟨y1, e2⟩ : ∃ x, x = dg b kx := ⟨_, rfl⟩
  obtain ⟨x2, e3⟩ : ∃ x, x = dg a ky := ⟨_, rfl⟩
  obtain ⟨y2, e4⟩ : ∃ x, x = dg b ky := ⟨_, rfl⟩
  rw [← e1, ← e2] at gx
  rw [← e3, ← e4] at gy
  have gxI : (y1 : Int) < (x1 : Int) := by omega
  have gyI : (x2 : Int) < (y2 : Int) := by omega
  have i1 : (0 : Int) ≤ (kx : Int) := by omega
  have i2 : (kx : Int) < 18 := by omega
  have i3 : (0 : Int) ≤ (ky : Int) := by omega
  have i4 : (ky : Int) < 18 := by omega
  have nI : ((kx : Int) != (ky : Int)) = true := by rw [bne_iff_ne]; omega
  have E1 := eql_r la lb
  rw [decide_eq_false hab] at E1
  have G1 := guard_r .eql a b
  unfold digV at E1 G1
  obtain ⟨DLA, hDLA⟩ : ∃ l : List Value, l = (digA18 a).toList := ⟨_, rfl⟩
  have HVA : Hid (digV18 a = .agg DLA.toArray) := by rw [hDLA]; exact rfl
  have LNA : DLA.length = 18 := by rw [hDLA]; rfl
  have ONEA : Hid (∀ v ∈ DLA, v.oneCell' = true) := by rw [hDLA]; exact digs_one a
  have GETA : Hid (∀ c, c < 18 → DLA[c]? = some (.int .i64 (dg a c))) := by rw [hDLA]; exact digA18_get a
  clear hDLA
  obtain ⟨DLB, hDLB⟩ : ∃ l : List Value, l = (digA18 b).toList := ⟨_, rfl⟩
  have HVB : Hid (digV18 b = .agg DLB.toArray) := by rw [hDLB]; exact rfl
  have LNB : DLB.length = 18 := by rw [hDLB]; rfl
  have ONEB : Hid (∀ v ∈ DLB, v.oneCell' = true) := by rw [hDLB]; exact digs_one b
  have GETB : Hid (∀ c, c < 18 → DLB[c]? = some (.int .i64 (dg b c))) := by rw [hDLB]; exact digA18_get b
  clear hDLB
  have PX : Hid (DLA[kx]? = some (.int .i64 x1)) := by rw [e1]; exact GETA.out kx ux
  have PY : Hid (DLA[ky]? = some (.int .i64 x2)) := by rw [e3]; exact GETA.out ky uy
  have QX : Hid (DLB[kx]? = some (.int .i64 y1)) := by rw [e2]; exact GETB.out kx ux
  have QY : Hid (DLB[ky]? = some (.int .i64 y2)) := by rw [e4]; exact GETB.out ky uy
  clear e1 e2 e3 e4
  unfold digV
  go_enter Try.func9, Try.ntmps9
  go_upto_region 1 with fail
  generalize hW : World.alloc (World.alloc w (.cells #[.int .u8 (byt a 0), .int .u8 (byt a 1), .int .u8 (byt a 2), .int .u8 (byt a 3), .int .u8 (byt a 4), .int .u8 (byt a 5), .int .u8 (byt a 6), .int .u8 (byt a 7)] 30)) (.cells #[.int .u8 (byt b 0), .int .u8 (byt b 1), .int .u8 (byt b 2), .int .u8 (byt b 3), .int .u8 (byt b 4), .int .u8 (byt b 5), .int .u8 (byt b 6), .int .u8 (byt b 7)] 30) = W0
  have DA : Hid (W0.heap[w.heap.size]? = some (.cells #[.int .u8 (byt a 0), .int .u8 (byt a 1), .int .u8 (byt a 2), .int .u8 (byt a 3), .int .u8 (byt a 4), .int .u8 (byt a 5), .int .u8 (byt a 6), .int .u8 (byt a 7)] 30 (0, 0))) := by rw [← hW]; exact keepA (Go.heap_alloc_new w _)
  have DB : Hid (W0.heap[w.heap.size + 1]? = some (.cells #[.int .u8 (byt b 0), .int .u8 (byt b 1), .int .u8 (byt b 2), .int .u8 (byt b 3), .int .u8 (byt b 4), .int .u8 (byt b 5), .int .u8 (byt b 6), .int .u8 (byt b 7)] 30 (0, 0))) := by rw [← hW]; exact heap_alloc_newest (w := World.alloc _ _) (by simp)
  have B : Hid (Below w.heap.size w W0) := by rw [← hW]; exact ext_trans (ext_alloc _ _) (ext_alloc _ _)
  clear hW
  go_wp2_with fail
  refine wp_region_schedC (fun v => Below W0.heap.size W0 v) [(true, 0), (true, 1), (true, 3), (true, 4), (false, 2), (false, 5), (true, 6), (true, 7)] (by kernel_rfl) rfl (by kernel_rfl) (by kernel_rfl) (fun _ _ d _ _ h => by cases d <;> exact h) (ext_drew W0) ?_
  intro J0 hJ0
  have CC : Hid (Below W0.heap.size W0 W0.drew) := Lib.hid (ext_drew W0)
  iterate 4 (refine schedC_pure (v := ?_) rfl (by rfl) ?_ ?_; rotate_left; (focus (intro v hC; obtain ⟨a0, a1, a2, a3, a4, a5, a6, a7, _, _, _, _, _, _, _, _⟩ := full8 (keepB hC DA.out); obtain ⟨b0, b1, b2, b3, b4, b5, b6, b7, _, _, _, _, _, _, _, _⟩ := full8 (keepB hC DB.out); go_simp; try with_reducible rfl)); try go_simp)
  refine schedC_eff rfl ?_
  intro J hJ
  go_wp2_with fail
  refine (ahead_c _ a b la lb).mono ?_
  rw [HX.out]
  rintro e w1 ⟨rfl, hb⟩
  replace CC : Hid (Below W0.heap.size W0 w1) := Lib.hid (ext_trans CC.out hb)
  clear hb
  go_wp2_with fail
  refine ⟨CC.out, ?_⟩
  refine schedC_eff rfl ?_
  intro J hJ
  go_wp2_with fail
  refine (ahead_c _ b a lb la).mono ?_
  rw [HY.out]
  rintro e w2 ⟨rfl, hb⟩
  replace CC : Hid (Below W0.heap.size W0 w2) := Lib.hid (ext_trans CC.out hb)
  clear hb
  go_wp2_with fail
  refine ⟨CC.out, ?_⟩
  iterate 2 (refine schedC_pure (v := ?_) rfl (by rfl) ?_ ?_; rotate_left; (focus (intro v hC; go_simp; try with_reducible rfl)); try go_simp)
  refine schedC_nil (hJ0 _ _ ?_)
  clear hJ0
  replace DA := Lib.hid (keepB CC.out DA.out)
  replace DB := Lib.hid (keepB CC.out DB.out)
  replace B := Lib.hid (ext_trans B.out CC.out)
  clear CC
  go_upto_region 2 with fail
  obtain ⟨a0, a1, a2, a3, a4, a5, a6, a7, _, _, _, _, _, _, _, _⟩ := full8 DA.out; obtain ⟨b0, b1, b2, b3, b4, b5, b6, b7, _, _, _, _, _, _, _, _⟩ := full8 DB.out; 
  go_wp2_with fail
  refine (rahead_c _ a b la lb).mono ?_
  rw [HX.out]
  rintro e w3 ⟨rfl, hb⟩
  replace DA := Lib.hid (keepB hb DA.out)
  replace DB := Lib.hid (keepB hb DB.out)
  replace B := Lib.hid (ext_trans B.out hb)
  clear hb a0 b0 a1 b1 a2 b2 a3 b3 a4 b4 a5 b5 a6 b6 a7 b7
  obtain ⟨a0, a1, a2, a3, a4, a5, a6, a7, _, _, _, _, _, _, _, _⟩ := full8 DA.out; obtain ⟨b0, b1, b2, b3, b4, b5, b6, b7, _, _, _, _, _, _, _, _⟩ := full8 DB.out; 
  go_wp2_with fail
  refine (rahead_c _ b a lb la).mono ?_
  rw [HY.out]
  rintro e w4 ⟨rfl, hb⟩
  replace DA := Lib.hid (keepB hb DA.out)
  replace DB := Lib.hid (keepB hb DB.out)
  replace B := Lib.hid (ext_trans B.out hb)
  clear hb a0 b0 a1 b1 a2 b2 a3 b3 a4 b4 a5 b5 a6 b6 a7 b7
  obtain ⟨a0, a1, a2, a3, a4, a5, a6, a7, _, _, _, _, _, _, _, _⟩ := full8 DA.out; obtain ⟨b0, b1, b2, b3, b4, b5, b6, b7, _, _, _, _, _, _, _, _⟩ := full8 DB.out; 
  go_wp2_with fail
  refine (ahead_c _ a a la la).mono ?_
  rw [ahead_self]
  rintro e W ⟨rfl, hb⟩
  replace DA := Lib.hid (keepB hb DA.out)
  replace DB := Lib.hid (keepB hb DB.out)
  replace B := Lib.hid (ext_trans B.out hb)
  clear hb a0 b0 a1 b1 a2 b2 a3 b3 a4 b4 a5 b5 a6 b6 a7 b7
  obtain ⟨a0, a1, a2, a3, a4, a5, a6, a7, _, _, _, _, _, _, _, _⟩ := full8 DA.out; obtain ⟨b0, b1, b2, b3, b4, b5, b6, b7, _, _, _, _, _, _, _, _⟩ := full8 DB.out; 
  go_upto_region 6 with fail
  clear a0 b0 a1 b1 a2 b2 a3 b3 a4 b4 a5 b5 a6 b6 a7 b7
  go_cut [7, 8] (fun x y wx => DRows DLA DLB W x y wx)
  case first =>
    refine wp_region_tr3 (fin := 7) (fun v => Below W.heap.size W v) (.pure 0 (.pure 2 (.three 1 (.three 3 (.two 4 (.eff 5 (.eff 6 (.eff 7 .nil))) 5 (.eff 4 (.eff 6 (.eff 7 .nil)))) 4 (.two 3 (.eff 5 (.eff 6 (.eff 7 .nil))) 5 (.eff 3 (.eff 6 (.eff 7 .nil)))) 5 (.two 3 (.eff 4 (.eff 6 (.eff 7 .nil))) 4 (.eff 3 (.eff 6 (.eff 7 .nil))))) 4 (.two 1 (.two 3 (.eff 5 (.eff 6 (.eff 7 .nil))) 5 (.eff 3 (.eff 6 (.eff 7 .nil)))) 5 (.eff 1 (.eff 3 (.eff 6 (.eff 7 .nil))))) 5 (.two 1 (.two 3 (.eff 4 (.eff 6 (.eff 7 .nil))) 4 (.eff 3 (.eff 6 (.eff 7 .nil)))) 4 (.eff 1 (.eff 3 (.eff 6 (.eff 7 .nil)))))))) (by kernel_rfl) (by kernel_rfl) (by kernel_rfl) (fun _ _ d _ _ h => by cases d <;> exact h) (ext_drew W) ?_
    intro J0 hJ0
    refine tr_pure3 (v := digV a) rfl (by rfl) (fun v hC => ?_) ?_
    · obtain ⟨s0, s1, s2, s3, s4, s5, s6, s7, _, _, _, _, _, _, _, _⟩ := full8 (keepB hC DA.out)
      unfold digV
      go_simp
    try go_simp
    refine tr_pure3 (v := digV b) rfl (by rfl) (fun v hC => ?_) ?_
    · obtain ⟨s0, s1, s2, s3, s4, s5, s6, s7, _, _, _, _, _, _, _, _⟩ := full8 (keepB hC DB.out)
      unfold digV
      go_simp
    try go_simp
    have Q : Hid (Below W.heap.size W W.drew) := Lib.hid (ext_drew W)
    generalize W.drew = V0 at *
    refine tr_three3 rfl rfl rfl ?_ ?_ ?_
    · intro J hJ
      go_wp2_with fail
      try rw [← show digV a = .agg #[.int .u8 (byt a 0), .int .u8 (byt a 1), .int .u8 (byt a 2), .int .u8 (byt a 3), .int .u8 (byt a 4), .int .u8 (byt a 5), .int .u8 (byt a 6), .int .u8 (byt a 7)] from rfl]
      refine (reach_c _ a).mono ?_
      rw [HVA.out]
      rintro e v1 ⟨rfl, hb⟩
      have Q : Hid (Below W.heap.size W v1) := Lib.hid (ext_trans Q.out hb)
      clear hb
      go_wp2_with fail
      refine ⟨fun _ => Q.out, ?_⟩
      refine tr_three3 rfl rfl rfl ?_ ?_ ?_
      · intro J hJ
        go_wp2_with fail
        try rw [← show digV b = .agg #[.int .u8 (byt b 0), .int .u8 (byt b 1), .int .u8 (byt b 2), .int .u8 (byt b 3), .int .u8 (byt b 4), .int .u8 (byt b 5), .int .u8 (byt b 6), .int .u8 (byt b 7)] from rfl]
        refine (reach_c _ b).mono ?_
        rw [HVB.out]
        rintro e v2 ⟨rfl, hb⟩
        have Q : Hid (Below W.heap.size W v2) := Lib.hid (ext_trans Q.out hb)
        clear hb
        go_wp2_with fail
        refine ⟨fun _ => Q.out, ?_⟩
        refine tr_two3 rfl rfl ?_ ?_
        · intro J hJ
          go_wp2_with fail
          refine ⟨fun _ => ext_trans Q.out (ext_alloc _ _), ?_⟩
          obtain ⟨v3, hu⟩ : ∃ u, u = World.alloc v2 (.cells #[.int .i64 0, .int .i64 0, .int .i64 0, .int .i64 0, .int .i64 0, .int .i64 0, .int .i64 0, .int .i64 0, .int .i64 0, .int .i64 0, .int .i64 0, .int .i64 0, .int .i64 0, .int .i64 0, .int .i64 0, .int .i64 0, .int .i64 0, .int .i64 0] 42) := ⟨_, rfl⟩
          rw [← hu]
          obtain ⟨p, hp⟩ : ∃ p, p = (v2).heap.size := ⟨_, rfl⟩
          have hpd : (v2).heap.size = p := hp.symm
          rw [hpd]
          have PA : Hid (v3.heap[p]? = some (.cells #[.int .i64 0, .int .i64 0, .int .i64 0, .int .i64 0, .int .i64 0, .int .i64 0, .int .i64 0, .int .i64 0, .int .i64 0, .int .i64 0, .int .i64 0, .int .i64 0, .int .i64 0, .int .i64 0, .int .i64 0, .int .i64 0, .int .i64 0, .int .i64 0] 42 (0, 0))) := by rw [hu, hp]; exact Go.heap_alloc_new _ _
          have PZ : W.heap.size ≤ p := by rw [hp]; exact Q.out.size
          have Q : Hid (Below W.heap.size W v3) := by rw [hu]; exact ext_trans Q.out (ext_alloc _ _)
          clear hu hp hpd
          refine tr_eff3 rfl ?_
          intro J hJ
          go_wp2_with fail
          refine ⟨fun _ => ext_trans Q.out (ext_alloc _ _), ?_⟩
          obtain ⟨v4, hu⟩ : ∃ u, u = World.alloc v3 (.cells #[.int .i64 0, .int .i64 0, .int .i64 0, .int .i64 0, .int .i64 0, .int .i64 0, .int .i64 0, .int .i64 0, .int .i64 0, .int .i64 0, .int .i64 0, .int .i64 0, .int .i64 0, .int .i64 0, .int .i64 0, .int .i64 0, .int .i64 0, .int .i64 0] 42) := ⟨_, rfl⟩
          rw [← hu]
          obtain ⟨q, hp⟩ : ∃ p, p = (v3).heap.size := ⟨_, rfl⟩
          have hpd : (v3).heap.size = q := hp.symm
          rw [hpd]
          have QA : Hid (v4.heap[q]? = some (.cells #[.int .i64 0, .int .i64 0, .int .i64 0, .int .i64 0, .int .i64 0, .int .i64 0, .int .i64 0, .int .i64 0, .int .i64 0, .int .i64 0, .int .i64 0, .int .i64 0, .int .i64 0, .int .i64 0, .int .i64 0, .int .i64 0, .int .i64 0, .int .i64 0] 42 (0, 0))) := by rw [hu, hp]; exact Go.heap_alloc_new _ _
          have QZ : W.heap.size ≤ q := by rw [hp]; exact Q.out.size
          have NE : p ≠ q := by have := (Array.getElem?_eq_some_iff.1 PA.out).1; omega
          have PA := Lib.hid (by rw [hu]; exact keepA PA.out : v4.heap[p]? = some (.cells #[.int .i64 0, .int .i64 0, .int .i64 0, .int .i64 0, .int .i64 0, .int .i64 0, .int .i64 0, .int .i64 0, .int .i64 0, .int .i64 0, .int .i64 0, .int .i64 0, .int .i64 0, .int .i64 0, .int .i64 0, .int .i64 0, .int .i64 0, .int .i64 0] 42 (0, 0)))
          have Q : Hid (Below W.heap.size W v4) := by rw [hu]; exact ext_trans Q.out (ext_alloc _ _)
          clear hu hp hpd
          refine tr_eff3 rfl ?_
          intro J hJ
          obtain ⟨x1, hs1, R1, B1, K1⟩ := store18 (w0 := W) LNA ONEA.out PA.out PZ Q.out
          go_wp2_with fail
          refine ⟨fun _ => B1, ?_⟩
          clear hs1
          refine tr_eff3 rfl ?_
          intro J2 hJ2
          have QA2 := (K1 q (fun e => NE e.symm)).trans QA.out
          obtain ⟨x2, hs2, R2, B2, K2⟩ := store18 (w0 := W) LNB ONEB.out QA2 QZ B1
          go_wp2_with fail
          refine ⟨fun h => absurd rfl h, ?_⟩
          clear hs2
          refine tr_nil3 (hJ0 _ _ ?_)
          go_wp2_with fail
          go_meet
          exact ⟨p, q, rfl, rfl, PZ, QZ, rangeAt_keep R1 (K2 p NE), R2, B2⟩
        · intro J hJ
          go_wp2_with fail
          refine ⟨fun _ => ext_trans Q.out (ext_alloc _ _), ?_⟩
          obtain ⟨v5, hu⟩ : ∃ u, u = World.alloc v2 (.cells #[.int .i64 0, .int .i64 0, .int .i64 0, .int .i64 0, .int .i64 0, .int .i64 0, .int .i64 0, .int .i64 0, .int .i64 0, .int .i64 0, .int .i64 0, .int .i64 0, .int .i64 0, .int .i64 0, .int .i64 0, .int .i64 0, .int .i64 0, .int .i64 0] 42) := ⟨_, rfl⟩
          rw [← hu]
          obtain ⟨q, hp⟩ : ∃ p, p = (v2).heap.size := ⟨_, rfl⟩
          have hpd : (v2).heap.size = q := hp.symm
          rw [hpd]
          have QA : Hid (v5.heap[q]? = some (.cells #[.int .i64 0, .int .i64 0, .int .i64 0, .int .i64 0, .int .i64 0, .int .i64 0, .int .i64 0, .int .i64 0, .int .i64 0, .int .i64 0, .int .i64 0, .int .i64 0, .int .i64 0, .int .i64 0, .int .i64 0, .int .i64 0, .int .i64 0, .int .i64 0] 42 (0, 0))) := by rw [hu, hp]; exact Go.heap_alloc_new _ _
          have QZ : W.heap.size ≤ q := by rw [hp]; exact Q.out.size
          have Q : Hid (Below W.heap.size W v5) := by rw [hu]; exact ext_trans Q.out (ext_alloc _ _)
          clear hu hp hpd
          refine tr_eff3 rfl ?_
          intro J hJ
          go_wp2_with fail
          refine ⟨fun _ => ext_trans Q.out (ext_alloc _ _), ?_⟩
          obtain ⟨v6, hu⟩ : ∃ u, u = World.alloc v5 (.cells #[.int .i64 0, .int .i64 0, .int .i64 0, .int .i64 0, .int .i64 0, .int .i64 0, .int .i64 0, .int .i64 0, .int .i64 0, .int .i64 0, .int .i64 0, .int .i64 0, .int .i64 0, .int .i64 0, .int .i64 0, .int .i64 0, .int .i64 0, .int .i64 0] 42) := ⟨_, rfl⟩
          rw [← hu]
          obtain ⟨p, hp⟩ : ∃ p, p = (v5).heap.size := ⟨_, rfl⟩
          have hpd : (v5).heap.size = p := hp.symm
          rw [hpd]
          have PA : Hid (v6.heap[p]? = some (.cells #[.int .i64 0, .int .i64 0, .int .i64 0, .int .i64 0, .int .i64 0, .int .i64 0, .int .i64 0, .int .i64 0, .int .i64 0, .int .i64 0, .int .i64 0, .int .i64 0, .int .i64 0, .int .i64 0, .int .i64 0, .int .i64 0, .int .i64 0, .int .i64 0] 42 (0, 0))) := by rw [hu, hp]; exact Go.heap_alloc_new _ _
          have PZ : W.heap.size ≤ p := by rw [hp]; exact Q.out.size
          have NE : p ≠ q := by have := (Array.getElem?_eq_some_iff.1 QA.out).1; omega
          have QA := Lib.hid (by rw [hu]; exact keepA QA.out : v6.heap[q]? = some (.cells #[.int .i64 0, .int .i64 0, .int .i64 0, .int .i64 0, .int .i64 0, .int .i64 0, .int .i64 0, .int .i64 0, .int .i64 0, .int .i64 0, .int .i64 0, .int .i64 0, .int .i64 0, .int .i64 0, .int .i64 0, .int .i64 0, .int .i64 0, .int .i64 0] 42 (0, 0)))
          have Q : Hid (Below W.heap.size W v6) := by rw [hu]; exact ext_trans Q.out (ext_alloc _ _)
          clear hu hp hpd
          refine tr_eff3 rfl ?_
          intro J hJ
          obtain ⟨x1, hs1, R1, B1, K1⟩ := store18 (w0 := W) LNA ONEA.out PA.out PZ Q.out
          go_wp2_with fail
          refine ⟨fun _ => B1, ?_⟩
          clear hs1
          refine tr_eff3 rfl ?_
          intro J2 hJ2
          have QA2 := (K1 q (fun e => NE e.symm)).trans QA.out
          obtain ⟨x2, hs2, R2, B2, K2⟩ := store18 (w0 := W) LNB ONEB.out QA2 QZ B1
          go_wp2_with fail
          refine ⟨fun h => absurd rfl h, ?_⟩
          clear hs2
          refine tr_nil3 (hJ0 _ _ ?_)
          go_wp2_with fail
          go_meet
          exact ⟨p, q, rfl, rfl, PZ, QZ, rangeAt_keep R1 (K2 p NE), R2, B2⟩
      · intro J hJ
        go_wp2_with fail
        refine ⟨fun _ => ext_trans Q.out (ext_alloc _ _), ?_⟩
        obtain ⟨v7, hu⟩ : ∃ u, u = World.alloc v1 (.cells #[.int .i64 0, .int .i64 0, .int .i64 0, .int .i64 0, .int .i64 0, .int .i64 0, .int .i64 0, .int .i64 0, .int .i64 0, .int .i64 0, .int .i64 0, .int .i64 0, .int .i64 0, .int .i64 0, .int .i64 0, .int .i64 0, .int .i64 0, .int .i64 0] 42) := ⟨_, rfl⟩
        rw [← hu]
        obtain ⟨p, hp⟩ : ∃ p, p = (v1).heap.size := ⟨_, rfl⟩
        have hpd : (v1).heap.size = p := hp.symm
        rw [hpd]
        have PA : Hid (v7.heap[p]? = some (.cells #[.int .i64 0, .int .i64 0, .int .i64 0, .int .i64 0, .int .i64 0, .int .i64 0, .int .i64 0, .int .i64 0, .int .i64 0, .int .i64 0, .int .i64 0, .int .i64 0, .int .i64 0, .int .i64 0, .int .i64 0, .int .i64 0, .int .i64 0, .int .i64 0] 42 (0, 0))) := by rw [hu, hp]; exact Go.heap_alloc_new _ _
        have PZ : W.heap.size ≤ p := by rw [hp]; exact Q.out.size
        have Q : Hid (Below W.heap.size W v7) := by rw [hu]; exact ext_trans Q.out (ext_alloc _ _)
        clear hu hp hpd
        refine tr_two3 rfl rfl ?_ ?_
        · intro J hJ
          go_wp2_with fail
          try rw [← show digV b = .agg #[.int .u8 (byt b 0), .int .u8 (byt b 1), .int .u8 (byt b 2), .int .u8 (byt b 3), .int .u8 (byt b 4), .int .u8 (byt b 5), .int .u8 (byt b 6), .int .u8 (byt b 7)] from rfl]
          refine (reach_c _ b).mono ?_
          rw [HVB.out]
          rintro e v8 ⟨rfl, hb⟩
          have PA := Lib.hid (keepB hb PA.out)
          have Q : Hid (Below W.heap.size W v8) := Lib.hid (ext_trans Q.out hb)
          clear hb
          go_wp2_with fail
          refine ⟨fun _ => Q.out, ?_⟩
          refine tr_eff3 rfl ?_
          intro J hJ
          go_wp2_with fail
          refine ⟨fun _ => ext_trans Q.out (ext_alloc _ _), ?_⟩
          obtain ⟨v9, hu⟩ : ∃ u, u = World.alloc v8 (.cells #[.int .i64 0, .int .i64 0, .int .i64 0, .int .i64 0, .int .i64 0, .int .i64 0, .int .i64 0, .int .i64 0, .int .i64 0, .int .i64 0, .int .i64 0, .int .i64 0, .int .i64 0, .int .i64 0, .int .i64 0, .int .i64 0, .int .i64 0, .int .i64 0] 42) := ⟨_, rfl⟩
          rw [← hu]
          obtain ⟨q, hp⟩ : ∃ p, p = (v8).heap.size := ⟨_, rfl⟩
          have hpd : (v8).heap.size = q := hp.symm
          rw [hpd]
          have QA : Hid (v9.heap[q]? = some (.cells #[.int .i64 0, .int .i64 0, .int .i64 0, .int .i64 0, .int .i64 0, .int .i64 0, .int .i64 0, .int .i64 0, .int .i64 0, .int .i64 0, .int .i64 0, .int .i64 0, .int .i64 0, .int .i64 0, .int .i64 0, .int .i64 0, .int .i64 0, .int .i64 0] 42 (0, 0))) := by rw [hu, hp]; exact Go.heap_alloc_new _ _
          have QZ : W.heap.size ≤ q := by rw [hp]; exact Q.out.size
          have NE : p ≠ q := by have := (Array.getElem?_eq_some_iff.1 PA.out).1; omega
          have PA := Lib.hid (by rw [hu]; exact keepA PA.out : v9.heap[p]? = some (.cells #[.int .i64 0, .int .i64 0, .int .i64 0, .int .i64 0, .int .i64 0, .int .i64 0, .int .i64 0, .int .i64 0, .int .i64 0, .int .i64 0, .int .i64 0, .int .i64 0, .int .i64 0, .int .i64 0, .int .i64 0, .int .i64 0, .int .i64 0, .int .i64 0] 42 (0, 0)))
          have Q : Hid (Below W.heap.size W v9) := by rw [hu]; exact ext_trans Q.out (ext_alloc _ _)
          clear hu hp hpd
          refine tr_eff3 rfl ?_
          intro J hJ
          obtain ⟨x1, hs1, R1, B1, K1⟩ := store18 (w0 := W) LNA ONEA.out PA.out PZ Q.out
          go_wp2_with fail
          refine ⟨fun _ => B1, ?_⟩
          clear hs1
          refine tr_eff3 rfl ?_
          intro J2 hJ2
          have QA2 := (K1 q (fun e => NE e.symm)).trans QA.out
          obtain ⟨x2, hs2, R2, B2, K2⟩ := store18 (w0 := W) LNB ONEB.out QA2 QZ B1
          go_wp2_with fail
          refine ⟨fun h => absurd rfl h, ?_⟩
          clear hs2
          refine tr_nil3 (hJ0 _ _ ?_)
          go_wp2_with fail
          go_meet
          exact ⟨p, q, rfl, rfl, PZ, QZ, rangeAt_keep R1 (K2 p NE), R2, B2⟩
        · intro J hJ
          go_wp2_with fail
          refine ⟨fun _ => ext_trans Q.out (ext_alloc _ _), ?_⟩
          obtain ⟨v10, hu⟩ : ∃ u, u = World.alloc v7 (.cells #[.int .i64 0, .int .i64 0, .int .i64 0, .int .i64 0, .int .i64 0, .int .i64 0, .int .i64 0, .int .i64 0, .int .i64 0, .int .i64 0, .int .i64 0, .int .i64 0, .int .i64 0, .int .i64 0, .int .i64 0, .int .i64 0, .int .i64 0, .int .i64 0] 42) := ⟨_, rfl⟩
          rw [← hu]
          obtain ⟨q, hp⟩ : ∃ p, p = (v7).heap.size := ⟨_, rfl⟩
          have hpd : (v7).heap.size = q := hp.symm
          rw [hpd]
          have QA : Hid (v10.heap[q]? = some (.cells #[.int .i64 0, .int .i64 0, .int .i64 0, .int .i64 0, .int .i64 0, .int .i64 0, .int .i64 0, .int .i64 0, .int .i64 0, .int .i64 0, .int .i64 0, .int .i64 0, .int .i64 0, .int .i64 0, .int .i64 0, .int .i64 0, .int .i64 0, .int .i64 0] 42 (0, 0))) := by rw [hu, hp]; exact Go.heap_alloc_new _ _
          have QZ : W.heap.size ≤ q := by rw [hp]; exact Q.out.size
          have NE : p ≠ q := by have := (Array.getElem?_eq_some_iff.1 PA.out).1; omega
          have PA := Lib.hid (by rw [hu]; exact keepA PA.out : v10.heap[p]? = some (.cells #[.int .i64 0, .int .i64 0, .int .i64 0, .int .i64 0, .int .i64 0, .int .i64 0, .int .i64 0, .int .i64 0, .int .i64 0, .int .i64 0, .int .i64 0, .int .i64 0, .int .i64 0, .int .i64 0, .int .i64 0, .int .i64 0, .int .i64 0, .int .i64 0] 42 (0, 0)))
          have Q : Hid (Below W.heap.size W v10) := by rw [hu]; exact ext_trans Q.out (ext_alloc _ _)
          clear hu hp hpd
          refine tr_eff3 rfl ?_
          intro J hJ
          go_wp2_with fail
          try rw [← show digV b = .agg #[.int .u8 (byt b 0), .int .u8 (byt b 1), .int .u8 (byt b 2), .int .u8 (byt b 3), .int .u8 (byt b 4), .int .u8 (byt b 5), .int .u8 (byt b 6), .int .u8 (byt b 7)] from rfl]
          refine (reach_c _ b).mono ?_
          rw [HVB.out]
          rintro e v11 ⟨rfl, hb⟩
          have PA := Lib.hid (keepB hb PA.out)
          have QA := Lib.hid (keepB hb QA.out)
          have Q : Hid (Below W.heap.size W v11) := Lib.hid (ext_trans Q.out hb)
          clear hb
          go_wp2_with fail
          refine ⟨fun _ => Q.out, ?_⟩
          refine tr_eff3 rfl ?_
          intro J hJ
          obtain ⟨x1, hs1, R1, B1, K1⟩ := store18 (w0 := W) LNA ONEA.out PA.out PZ Q.out
          go_wp2_with fail
          refine ⟨fun _ => B1, ?_⟩
          clear hs1
          refine tr_eff3 rfl ?_
          intro J2 hJ2
          have QA2 := (K1 q (fun e => NE e.symm)).trans QA.out
          obtain ⟨x2, hs2, R2, B2, K2⟩ := store18 (w0 := W) LNB ONEB.out QA2 QZ B1
          go_wp2_with fail
          refine ⟨fun h => absurd rfl h, ?_⟩
          clear hs2
          refine tr_nil3 (hJ0 _ _ ?_)
          go_wp2_with fail
          go_meet
          exact ⟨p, q, rfl, rfl, PZ, QZ, rangeAt_keep R1 (K2 p NE), R2, B2⟩
      · intro J hJ
        go_wp2_with fail
        refine ⟨fun _ => ext_trans Q.out (ext_alloc _ _), ?_⟩
        obtain ⟨v12, hu⟩ : ∃ u, u = World.alloc v1 (.cells #[.int .i64 0, .int .i64 0, .int .i64 0, .int .i64 0, .int .i64 0, .int .i64 0, .int .i64 0, .int .i64 0, .int .i64 0, .int .i64 0, .int .i64 0, .int .i64 0, .int .i64 0, .int .i64 0, .int .i64 0, .int .i64 0, .int .i64 0, .int .i64 0] 42) := ⟨_, rfl⟩
        rw [← hu]
        obtain ⟨q, hp⟩ : ∃ p, p = (v1).heap.size := ⟨_, rfl⟩
        have hpd : (v1).heap.size = q := hp.symm
        rw [hpd]
        have QA : Hid (v12.heap[q]? = some (.cells #[.int .i64 0, .int .i64 0, .int .i64 0, .int .i64 0, .int .i64 0, .int .i64 0, .int .i64 0, .int .i64 0, .int .i64 0, .int .i64 0, .int .i64 0, .int .i64 0, .int .i64 0, .int .i64 0, .int .i64 0, .int .i64 0, .int .i64 0, .int .i64 0] 42 (0, 0))) := by rw [hu, hp]; exact Go.heap_alloc_new _ _
        have QZ : W.heap.size ≤ q := by rw [hp]; exact Q.out.size
        have Q : Hid (Below W.heap.size W v12) := by rw [hu]; exact ext_trans Q.out (ext_alloc _ _)
        clear hu hp hpd
        refine tr_two3 rfl rfl ?_ ?_
        · intro J hJ
          go_wp2_with fail
          try rw [← show digV b = .agg #[.int .u8 (byt b 0), .int .u8 (byt b 1), .int .u8 (byt b 2), .int .u8 (byt b 3), .int .u8 (byt b 4), .int .u8 (byt b 5), .int .u8 (byt b 6), .int .u8 (byt b 7)] from rfl]
          refine (reach_c _ b).mono ?_
          rw [HVB.out]
          rintro e v13 ⟨rfl, hb⟩
          have QA := Lib.hid (keepB hb QA.out)
          have Q : Hid (Below W.heap.size W v13) := Lib.hid (ext_trans Q.out hb)
          clear hb
          go_wp2_with fail
          refine ⟨fun _ => Q.out, ?_⟩
          refine tr_eff3 rfl ?_
          intro J hJ
          go_wp2_with fail
          refine ⟨fun _ => ext_trans Q.out (ext_alloc _ _), ?_⟩
          obtain ⟨v14, hu⟩ : ∃ u, u = World.alloc v13 (.cells #[.int .i64 0, .int .i64 0, .int .i64 0, .int .i64 0, .int .i64 0, .int .i64 0, .int .i64 0, .int .i64 0, .int .i64 0, .int .i64 0, .int .i64 0, .int .i64 0, .int .i64 0, .int .i64 0, .int .i64 0, .int .i64 0, .int .i64 0, .int .i64 0] 42) := ⟨_, rfl⟩
          rw [← hu]
          obtain ⟨p, hp⟩ : ∃ p, p = (v13).heap.size := ⟨_, rfl⟩
          have hpd : (v13).heap.size = p := hp.symm
          rw [hpd]
          have PA : Hid (v14.heap[p]? = some (.cells #[.int .i64 0, .int .i64 0, .int .i64 0, .int .i64 0, .int .i64 0, .int .i64 0, .int .i64 0, .int .i64 0, .int .i64 0, .int .i64 0, .int .i64 0, .int .i64 0, .int .i64 0, .int .i64 0, .int .i64 0, .int .i64 0, .int .i64 0, .int .i64 0] 42 (0, 0))) := by rw [hu, hp]; exact Go.heap_alloc_new _ _
          have PZ : W.heap.size ≤ p := by rw [hp]; exact Q.out.size
          have NE : p ≠ q := by have := (Array.getElem?_eq_some_iff.1 QA.out).1; omega
          have QA := Lib.hid (by rw [hu]; exact keepA QA.out : v14.heap[q]? = some (.cells #[.int .i64 0, .int .i64 0, .int .i64 0, .int .i64 0, .int .i64 0, .int .i64 0, .int .i64 0, .int .i64 0, .int .i64 0, .int .i64 0, .int .i64 0, .int .i64 0, .int .i64 0, .int .i64 0, .int .i64 0, .int .i64 0, .int .i64 0, .int .i64 0] 42 (0, 0)))
          have Q : Hid (Below W.heap.size W v14) := by rw [hu]; exact ext_trans Q.out (ext_alloc _ _)
          clear hu hp hpd
          refine tr_eff3 rfl ?_
          intro J hJ
          obtain ⟨x1, hs1, R1, B1, K1⟩ := store18 (w0 := W) LNA ONEA.out PA.out PZ Q.out
          go_wp2_with fail
          refine ⟨fun _ => B1, ?_⟩
          clear hs1
          refine tr_eff3 rfl ?_
          intro J2 hJ2
          have QA2 := (K1 q (fun e => NE e.symm)).trans QA.out
          obtain ⟨x2, hs2, R2, B2, K2⟩ := store18 (w0 := W) LNB ONEB.out QA2 QZ B1
          go_wp2_with fail
          refine ⟨fun h => absurd rfl h, ?_⟩
          clear hs2
          refine tr_nil3 (hJ0 _ _ ?_)
          go_wp2_with fail
          go_meet
          exact ⟨p, q, rfl, rfl, PZ, QZ, rangeAt_keep R1 (K2 p NE), R2, B2⟩
        · intro J hJ
          go_wp2_with fail
          refine ⟨fun _ => ext_trans Q.out (ext_alloc _ _), ?_⟩
          obtain ⟨v15, hu⟩ : ∃ u, u = World.alloc v12 (.cells #[.int .i64 0, .int .i64 0, .int .i64 0, .int .i64 0, .int .i64 0, .int .i64 0, .int .i64 0, .int .i64 0, .int .i64 0, .int .i64 0, .int .i64 0, .int .i64 0, .int .i64 0, .int .i64 0, .int .i64 0, .int .i64 0, .int .i64 0, .int .i64 0] 42) := ⟨_, rfl⟩
          rw [← hu]
          obtain ⟨p, hp⟩ : ∃ p, p = (v12).heap.size := ⟨_, rfl⟩
          have hpd : (v12).heap.size = p := hp.symm
          rw [hpd]
          have PA : Hid (v15.heap[p]? = some (.cells #[.int .i64 0, .int .i64 0, .int .i64 0, .int .i64 0, .int .i64 0, .int .i64 0, .int .i64 0, .int .i64 0, .int .i64 0, .int .i64 0, .int .i64 0, .int .i64 0, .int .i64 0, .int .i64 0, .int .i64 0, .int .i64 0, .int .i64 0, .int .i64 0] 42 (0, 0))) := by rw [hu, hp]; exact Go.heap_alloc_new _ _
          have PZ : W.heap.size ≤ p := by rw [hp]; exact Q.out.size
          have NE : p ≠ q := by have := (Array.getElem?_eq_some_iff.1 QA.out).1; omega
          have QA := Lib.hid (by rw [hu]; exact keepA QA.out : v15.heap[q]? = some (.cells #[.int .i64 0, .int .i64 0, .int .i64 0, .int .i64 0, .int .i64 0, .int .i64 0, .int .i64 0, .int .i64 0, .int .i64 0, .int .i64 0, .int .i64 0, .int .i64 0, .int .i64 0, .int .i64 0, .int .i64 0, .int .i64 0, .int .i64 0, .int .i64 0] 42 (0, 0)))
          have Q : Hid (Below W.heap.size W v15) := by rw [hu]; exact ext_trans Q.out (ext_alloc _ _)
          clear hu hp hpd
          refine tr_eff3 rfl ?_
          intro J hJ
          go_wp2_with fail
          try rw [← show digV b = .agg #[.int .u8 (byt b 0), .int .u8 (byt b 1), .int .u8 (byt b 2), .int .u8 (byt b 3), .int .u8 (byt b 4), .int .u8 (byt b 5), .int .u8 (byt b 6), .int .u8 (byt b 7)] from rfl]
          refine (reach_c _ b).mono ?_
          rw [HVB.out]
          rintro e v16 ⟨rfl, hb⟩
          have PA := Lib.hid (keepB hb PA.out)
          have QA := Lib.hid (keepB hb QA.out)
          have Q : Hid (Below W.heap.size W v16) := Lib.hid (ext_trans Q.out hb)
          clear hb
          go_wp2_with fail
          refine ⟨fun _ => Q.out, ?_⟩
          refine tr_eff3 rfl ?_
          intro J hJ
          obtain ⟨x1, hs1, R1, B1, K1⟩ := store18 (w0 := W) LNA ONEA.out PA.out PZ Q.out
          go_wp2_with fail
          refine ⟨fun _ => B1, ?_⟩
          clear hs1
          refine tr_eff3 rfl ?_
          intro J2 hJ2
          have QA2 := (K1 q (fun e => NE e.symm)).trans QA.out
          obtain ⟨x2, hs2, R2, B2, K2⟩ := store18 (w0 := W) LNB ONEB.out QA2 QZ B1
          go_wp2_with fail
          refine ⟨fun h => absurd rfl h, ?_⟩
          clear hs2
          refine tr_nil3 (hJ0 _ _ ?_)
          go_wp2_with fail
          go_meet
          exact ⟨p, q, rfl, rfl, PZ, QZ, rangeAt_keep R1 (K2 p NE), R2, B2⟩
    · intro J hJ
      go_wp2_with fail
      refine ⟨fun _ => ext_trans Q.out (ext_alloc _ _), ?_⟩
      obtain ⟨v17, hu⟩ : ∃ u, u = World.alloc V0 (.cells #[.int .i64 0, .int .i64 0, .int .i64 0, .int .i64 0, .int .i64 0, .int .i64 0, .int .i64 0, .int .i64 0, .int .i64 0, .int .i64 0, .int .i64 0, .int .i64 0, .int .i64 0, .int .i64 0, .int .i64 0, .int .i64 0, .int .i64 0, .int .i64 0] 42) := ⟨_, rfl⟩
      rw [← hu]
      obtain ⟨p, hp⟩ : ∃ p, p = (V0).heap.size := ⟨_, rfl⟩
      have hpd : (V0).heap.size = p := hp.symm
      rw [hpd]
      have PA : Hid (v17.heap[p]? = some (.cells #[.int .i64 0, .int .i64 0, .int .i64 0, .int .i64 0, .int .i64 0, .int .i64 0, .int .i64 0, .int .i64 0, .int .i64 0, .int .i64 0, .int .i64 0, .int .i64 0, .int .i64 0, .int .i64 0, .int .i64 0, .int .i64 0, .int .i64 0, .int .i64 0] 42 (0, 0))) := by rw [hu, hp]; exact Go.heap_alloc_new _ _
      have PZ : W.heap.size ≤ p := by rw [hp]; exact Q.out.size
      have Q : Hid (Below W.heap.size W v17) := by rw [hu]; exact ext_trans Q.out (ext_alloc _ _)
      clear hu hp hpd
      refine tr_two3 rfl rfl ?_ ?_
      · intro J hJ
        go_wp2_with fail
        try rw [← show digV a = .agg #[.int .u8 (byt a 0), .int .u8 (byt a 1), .int .u8 (byt a 2), .int .u8 (byt a 3), .int .u8 (byt a 4), .int .u8 (byt a 5), .int .u8 (byt a 6), .int .u8 (byt a 7)] from rfl]
        refine (reach_c _ a).mono ?_
        rw [HVA.out]
        rintro e v18 ⟨rfl, hb⟩
        have PA := Lib.hid (keepB hb PA.out)
        have Q : Hid (Below W.heap.size W v18) := Lib.hid (ext_trans Q.out hb)
        clear hb
        go_wp2_with fail
        refine ⟨fun _ => Q.out, ?_⟩
        refine tr_two3 rfl rfl ?_ ?_
        · intro J hJ
          go_wp2_with fail
          try rw [← show digV b = .agg #[.int .u8 (byt b 0), .int .u8 (byt b 1), .int .u8 (byt b 2), .int .u8 (byt b 3), .int .u8 (byt b 4), .int .u8 (byt b 5), .int .u8 (byt b 6), .int .u8 (byt b 7)] from rfl]
          refine (reach_c _ b).mono ?_
          rw [HVB.out]
          rintro e v19 ⟨rfl, hb⟩
          have PA := Lib.hid (keepB hb PA.out)
          have Q : Hid (Below W.heap.size W v19) := Lib.hid (ext_trans Q.out hb)
          clear hb
          go_wp2_with fail
          refine ⟨fun _ => Q.out, ?_⟩
          refine tr_eff3 rfl ?_
          intro J hJ
          go_wp2_with fail
          refine ⟨fun _ => ext_trans Q.out (ext_alloc _ _), ?_⟩
          obtain ⟨v20, hu⟩ : ∃ u, u = World.alloc v19 (.cells #[.int .i64 0, .int .i64 0, .int .i64 0, .int .i64 0, .int .i64 0, .int .i64 0, .int .i64 0, .int .i64 0, .int .i64 0, .int .i64 0, .int .i64 0, .int .i64 0, .int .i64 0, .int .i64 0, .int .i64 0, .int .i64 0, .int .i64 0, .int .i64 0] 42) := ⟨_, rfl⟩
          rw [← hu]
          obtain ⟨q, hp⟩ : ∃ p, p = (v19).heap.size := ⟨_, rfl⟩
          have hpd : (v19).heap.size = q := hp.symm
          rw [hpd]
          have QA : Hid (v20.heap[q]? = some (.cells #[.int .i64 0, .int .i64 0, .int .i64 0, .int .i64 0, .int .i64 0, .int .i64 0, .int .i64 0, .int .i64 0, .int .i64 0, .int .i64 0, .int .i64 0, .int .i64 0, .int .i64 0, .int .i64 0, .int .i64 0, .int .i64 0, .int .i64 0, .int .i64 0] 42 (0, 0))) := by rw [hu, hp]; exact Go.heap_alloc_new _ _
          have QZ : W.heap.size ≤ q := by rw [hp]; exact Q.out.size
          have NE : p ≠ q := by have := (Array.getElem?_eq_some_iff.1 PA.out).1; omega
          have PA := Lib.hid (by rw [hu]; exact keepA PA.out : v20.heap[p]? = some (.cells #[.int .i64 0, .int .i64 0, .int .i64 0, .int .i64 0, .int .i64 0, .int .i64 0, .int .i64 0, .int .i64 0, .int .i64 0, .int .i64 0, .int .i64 0, .int .i64 0, .int .i64 0, .int .i64 0, .int .i64 0, .int .i64 0, .int .i64 0, .int .i64 0] 42 (0, 0)))
          have Q : Hid (Below W.heap.size W v20) := by rw [hu]; exact ext_trans Q.out (ext_alloc _ _)
          clear hu hp hpd
          refine tr_eff3 rfl ?_
          intro J hJ
          obtain ⟨x1, hs1, R1, B1, K1⟩ := store18 (w0 := W) LNA ONEA.out PA.out PZ Q.out
          go_wp2_with fail
          refine ⟨fun _ => B1, ?_⟩
          clear hs1
          refine tr_eff3 rfl ?_
          intro J2 hJ2
          have QA2 := (K1 q (fun e => NE e.symm)).trans QA.out
          obtain ⟨x2, hs2, R2, B2, K2⟩ := store18 (w0 := W) LNB ONEB.out QA2 QZ B1
          go_wp2_with fail
          refine ⟨fun h => absurd rfl h, ?_⟩
          clear hs2
          refine tr_nil3 (hJ0 _ _ ?_)
          go_wp2_with fail
          go_meet
          exact ⟨p, q, rfl, rfl, PZ, QZ, rangeAt_keep R1 (K2 p NE), R2, B2⟩
        · intro J hJ
          go_wp2_with fail
          refine ⟨fun _ => ext_trans Q.out (ext_alloc _ _), ?_⟩
          obtain ⟨v21, hu⟩ : ∃ u, u = World.alloc v18 (.cells #[.int .i64 0, .int .i64 0, .int .i64 0, .int .i64 0, .int .i64 0, .int .i64 0, .int .i64 0, .int .i64 0, .int .i64 0, .int .i64 0, .int .i64 0, .int .i64 0, .int .i64 0, .int .i64 0, .int .i64 0, .int .i64 0, .int .i64 0, .int .i64 0] 42) := ⟨_, rfl⟩
          rw [← hu]
          obtain ⟨q, hp⟩ : ∃ p, p = (v18).heap.size := ⟨_, rfl⟩
          have hpd : (v18).heap.size = q := hp.symm
          rw [hpd]
          have QA : Hid (v21.heap[q]? = some (.cells #[.int .i64 0, .int .i64 0, .int .i64 0, .int .i64 0, .int .i64 0, .int .i64 0, .int .i64 0, .int .i64 0, .int .i64 0, .int .i64 0, .int .i64 0, .int .i64 0, .int .i64 0, .int .i64 0, .int .i64 0, .int .i64 0, .int .i64 0, .int .i64 0] 42 (0, 0))) := by rw [hu, hp]; exact Go.heap_alloc_new _ _
          have QZ : W.heap.size ≤ q := by rw [hp]; exact Q.out.size
          have NE : p ≠ q := by have := (Array.getElem?_eq_some_iff.1 PA.out).1; omega
          have PA := Lib.hid (by rw [hu]; exact keepA PA.out : v21.heap[p]? = some (.cells #[.int .i64 0, .int .i64 0, .int .i64 0, .int .i64 0, .int .i64 0, .int .i64 0, .int .i64 0, .int .i64 0, .int .i64 0, .int .i64 0, .int .i64 0, .int .i64 0, .int .i64 0, .int .i64 0, .int .i64 0, .int .i64 0, .int .i64 0, .int .i64 0] 42 (0, 0)))
          have Q : Hid (Below W.heap.size W v21) := by rw [hu]; exact ext_trans Q.out (ext_alloc _ _)
          clear hu hp hpd
          refine tr_eff3 rfl ?_
          intro J hJ
          go_wp2_with fail
          try rw [← show digV b = .agg #[.int .u8 (byt b 0), .int .u8 (byt b 1), .int .u8 (byt b 2), .int .u8 (byt b 3), .int .u8 (byt b 4), .int .u8 (byt b 5), .int .u8 (byt b 6), .int .u8 (byt b 7)] from rfl]
          refine (reach_c _ b).mono ?_
          rw [HVB.out]
          rintro e v22 ⟨rfl, hb⟩
          have PA := Lib.hid (keepB hb PA.out)
          have QA := Lib.hid (keepB hb QA.out)
          have Q : Hid (Below W.heap.size W v22) := Lib.hid (ext_trans Q.out hb)
          clear hb
          go_wp2_with fail
          refine ⟨fun _ => Q.out, ?_⟩
          refine tr_eff3 rfl ?_
          intro J hJ
          obtain ⟨x1, hs1, R1, B1, K1⟩ := store18 (w0 := W) LNA ONEA.out PA.out PZ Q.out
          go_wp2_with fail
          refine ⟨fun _ => B1, ?_⟩
          clear hs1
          refine tr_eff3 rfl ?_
          intro J2 hJ2
          have QA2 := (K1 q (fun e => NE e.symm)).trans QA.out
          obtain ⟨x2, hs2, R2, B2, K2⟩ := store18 (w0 := W) LNB ONEB.out QA2 QZ B1
          go_wp2_with fail
          refine ⟨fun h => absurd rfl h, ?_⟩
          clear hs2
          refine tr_nil3 (hJ0 _ _ ?_)
          go_wp2_with fail
          go_meet
          exact ⟨p, q, rfl, rfl, PZ, QZ, rangeAt_keep R1 (K2 p NE), R2, B2⟩
      · intro J hJ
        go_wp2_with fail
        refine ⟨fun _ => ext_trans Q.out (ext_alloc _ _), ?_⟩
        obtain ⟨v23, hu⟩ : ∃ u, u = World.alloc v17 (.cells #[.int .i64 0, .int .i64 0, .int .i64 0, .int .i64 0, .int .i64 0, .int .i64 0, .int .i64 0, .int .i64 0, .int .i64 0, .int .i64 0, .int .i64 0, .int .i64 0, .int .i64 0, .int .i64 0, .int .i64 0, .int .i64 0, .int .i64 0, .int .i64 0] 42) := ⟨_, rfl⟩
        rw [← hu]
        obtain ⟨q, hp⟩ : ∃ p, p = (v17).heap.size := ⟨_, rfl⟩
        have hpd : (v17).heap.size = q := hp.symm
        rw [hpd]
        have QA : Hid (v23.heap[q]? = some (.cells #[.int .i64 0, .int .i64 0, .int .i64 0, .int .i64 0, .int .i64 0, .int .i64 0, .int .i64 0, .int .i64 0, .int .i64 0, .int .i64 0, .int .i64 0, .int .i64 0, .int .i64 0, .int .i64 0, .int .i64 0, .int .i64 0, .int .i64 0, .int .i64 0] 42 (0, 0))) := by rw [hu, hp]; exact Go.heap_alloc_new _ _
        have QZ : W.heap.size ≤ q := by rw [hp]; exact Q.out.size
        have NE : p ≠ q := by have := (Array.getElem?_eq_some_iff.1 PA.out).1; omega
        have PA := Lib.hid (by rw [hu]; exact keepA PA.out : v23.heap[p]? = some (.cells #[.int .i64 0, .int .i64 0, .int .i64 0, .int .i64 0, .int .i64 0, .int .i64 0, .int .i64 0, .int .i64 0, .int .i64 0, .int .i64 0, .int .i64 0, .int .i64 0, .int .i64 0, .int .i64 0, .int .i64 0, .int .i64 0, .int .i64 0, .int .i64 0] 42 (0, 0)))
        have Q : Hid (Below W.heap.size W v23) := by rw [hu]; exact ext_trans Q.out (ext_alloc _ _)
        clear hu hp hpd
        refine tr_eff3 rfl ?_
        intro J hJ
        go_wp2_with fail
        try rw [← show digV a = .agg #[.int .u8 (byt a 0), .int .u8 (byt a 1), .int .u8 (byt a 2), .int .u8 (byt a 3), .int .u8 (byt a 4), .int .u8 (byt a 5), .int .u8 (byt a 6), .int .u8 (byt a 7)] from rfl]
        refine (reach_c _ a).mono ?_
        rw [HVA.out]
        rintro e v24 ⟨rfl, hb⟩
        have PA := Lib.hid (keepB hb PA.out)
        have QA := Lib.hid (keepB hb QA.out)
        have Q : Hid (Below W.heap.size W v24) := Lib.hid (ext_trans Q.out hb)
        clear hb
        go_wp2_with fail
        refine ⟨fun _ => Q.out, ?_⟩
        refine tr_eff3 rfl ?_
        intro J hJ
        go_wp2_with fail
        try rw [← show digV b = .agg #[.int .u8 (byt b 0), .int .u8 (byt b 1), .int .u8 (byt b 2), .int .u8 (byt b 3), .int .u8 (byt b 4), .int .u8 (byt b 5), .int .u8 (byt b 6), .int .u8 (byt b 7)] from rfl]
        refine (reach_c _ b).mono ?_
        rw [HVB.out]
        rintro e v25 ⟨rfl, hb⟩
        have PA := Lib.hid (keepB hb PA.out)
        have QA := Lib.hid (keepB hb QA.out)
        have Q : Hid (Below W.heap.size W v25) := Lib.hid (ext_trans Q.out hb)
        clear hb
        go_wp2_with fail
        refine ⟨fun _ => Q.out, ?_⟩
        refine tr_eff3 rfl ?_
        intro J hJ
        obtain ⟨x1, hs1, R1, B1, K1⟩ := store18 (w0 := W) LNA ONEA.out PA.out PZ Q.out
        go_wp2_with fail
        refine ⟨fun _ => B1, ?_⟩
        clear hs1
        refine tr_eff3 rfl ?_
        intro J2 hJ2
        have QA2 := (K1 q (fun e => NE e.symm)).trans QA.out
        obtain ⟨x2, hs2, R2, B2, K2⟩ := store18 (w0 := W) LNB ONEB.out QA2 QZ B1
        go_wp2_with fail
        refine ⟨fun h => absurd rfl h, ?_⟩
        clear hs2
        refine tr_nil3 (hJ0 _ _ ?_)
        go_wp2_with fail
        go_meet
        exact ⟨p, q, rfl, rfl, PZ, QZ, rangeAt_keep R1 (K2 p NE), R2, B2⟩
    · intro J hJ
      go_wp2_with fail
      refine ⟨fun _ => ext_trans Q.out (ext_alloc _ _), ?_⟩
      obtain ⟨v26, hu⟩ : ∃ u, u = World.alloc V0 (.cells #[.int .i64 0, .int .i64 0, .int .i64 0, .int .i64 0, .int .i64 0, .int .i64 0, .int .i64 0, .int .i64 0, .int .i64 0, .int .i64 0, .int .i64 0, .int .i64 0, .int .i64 0, .int .i64 0, .int .i64 0, .int .i64 0, .int .i64 0, .int .i64 0] 42) := ⟨_, rfl⟩
      rw [← hu]
      obtain ⟨q, hp⟩ : ∃ p, p = (V0).heap.size := ⟨_, rfl⟩
      have hpd : (V0).heap.size = q := hp.symm
      rw [hpd]
      have QA : Hid (v26.heap[q]? = some (.cells #[.int .i64 0, .int .i64 0, .int .i64 0, .int .i64 0, .int .i64 0, .int .i64 0, .int .i64 0, .int .i64 0, .int .i64 0, .int .i64 0, .int .i64 0, .int .i64 0, .int .i64 0, .int .i64 0, .int .i64 0, .int .i64 0, .int .i64 0, .int .i64 0] 42 (0, 0))) := by rw [hu, hp]; exact Go.heap_alloc_new _ _
      have QZ : W.heap.size ≤ q := by rw [hp]; exact Q.out.size
      have Q : Hid (Below W.heap.size W v26) := by rw [hu]; exact ext_trans Q.out (ext_alloc _ _)
      clear hu hp hpd
      refine tr_two3 rfl rfl ?_ ?_
      · intro J hJ
        go_wp2_with fail
        try rw [← show digV a = .agg #[.int .u8 (byt a 0), .int .u8 (byt a 1), .int .u8 (byt a 2), .int .u8 (byt a 3), .int .u8 (byt a 4), .int .u8 (byt a 5), .int .u8 (byt a 6), .int .u8 (byt a 7)] from rfl]
        refine (reach_c _ a).mono ?_
        rw [HVA.out]
        rintro e v27 ⟨rfl, hb⟩
        have QA := Lib.hid (keepB hb QA.out)
        have Q : Hid (Below W.heap.size W v27) := Lib.hid (ext_trans Q.out hb)
        clear hb
        go_wp2_with fail
        refine ⟨fun _ => Q.out, ?_⟩
        refine tr_two3 rfl rfl ?_ ?_
        · intro J hJ
          go_wp2_with fail
          try rw [← show digV b = .agg #[.int .u8 (byt b 0), .int .u8 (byt b 1), .int .u8 (byt b 2), .int .u8 (byt b 3), .int .u8 (byt b 4), .int .u8 (byt b 5), .int .u8 (byt b 6), .int .u8 (byt b 7)] from rfl]
          refine (reach_c _ b).mono ?_
          rw [HVB.out]
          rintro e v28 ⟨rfl, hb⟩
          have QA := Lib.hid (keepB hb QA.out)
          have Q : Hid (Below W.heap.size W v28) := Lib.hid (ext_trans Q.out hb)
          clear hb
          go_wp2_with fail
          refine ⟨fun _ => Q.out, ?_⟩
          refine tr_eff3 rfl ?_
          intro J hJ
          go_wp2_with fail
          refine ⟨fun _ => ext_trans Q.out (ext_alloc _ _), ?_⟩
          obtain ⟨v29, hu⟩ : ∃ u, u = World.alloc v28 (.cells #[.int .i64 0, .int .i64 0, .int .i64 0, .int .i64 0, .int .i64 0, .int .i64 0, .int .i64 0, .int .i64 0, .int .i64 0, .int .i64 0, .int .i64 0, .int .i64 0, .int .i64 0, .int .i64 0, .int .i64 0, .int .i64 0, .int .i64 0, .int .i64 0] 42) := ⟨_, rfl⟩
          rw [← hu]
          obtain ⟨p, hp⟩ : ∃ p, p = (v28).heap.size := ⟨_, rfl⟩
          have hpd : (v28).heap.size = p := hp.symm
          rw [hpd]
          have PA : Hid (v29.heap[p]? = some (.cells #[.int .i64 0, .int .i64 0, .int .i64 0, .int .i64 0, .int .i64 0, .int .i64 0, .int .i64 0, .int .i64 0, .int .i64 0, .int .i64 0, .int .i64 0, .int .i64 0, .int .i64 0, .int .i64 0, .int .i64 0, .int .i64 0, .int .i64 0, .int .i64 0] 42 (0, 0))) := by rw [hu, hp]; exact Go.heap_alloc_new _ _
          have PZ : W.heap.size ≤ p := by rw [hp]; exact Q.out.size
          have NE : p ≠ q := by have := (Array.getElem?_eq_some_iff.1 QA.out).1; omega
          have QA := Lib.hid (by rw [hu]; exact keepA QA.out : v29.heap[q]? = some (.cells #[.int .i64 0, .int .i64 0, .int .i64 0, .int .i64 0, .int .i64 0, .int .i64 0, .int .i64 0, .int .i64 0, .int .i64 0, .int .i64 0, .int .i64 0, .int .i64 0, .int .i64 0, .int .i64 0, .int .i64 0, .int .i64 0, .int .i64 0, .int .i64 0] 42 (0, 0)))
          have Q : Hid (Below W.heap.size W v29) := by rw [hu]; exact ext_trans Q.out (ext_alloc _ _)
          clear hu hp hpd
          refine tr_eff3 rfl ?_
          intro J hJ
          obtain ⟨x1, hs1, R1, B1, K1⟩ := store18 (w0 := W) LNA ONEA.out PA.out PZ Q.out
          go_wp2_with fail
          refine ⟨fun _ => B1, ?_⟩
          clear hs1
          refine tr_eff3 rfl ?_
          intro J2 hJ2
          have QA2 := (K1 q (fun e => NE e.symm)).trans QA.out
          obtain ⟨x2, hs2, R2, B2, K2⟩ := store18 (w0 := W) LNB ONEB.out QA2 QZ B1
          go_wp2_with fail
          refine ⟨fun h => absurd rfl h, ?_⟩
          clear hs2
          refine tr_nil3 (hJ0 _ _ ?_)
          go_wp2_with fail
          go_meet
          exact ⟨p, q, rfl, rfl, PZ, QZ, rangeAt_keep R1 (K2 p NE), R2, B2⟩
        · intro J hJ
          go_wp2_with fail
          refine ⟨fun _ => ext_trans Q.out (ext_alloc _ _), ?_⟩
          obtain ⟨v30, hu⟩ : ∃ u, u = World.alloc v27 (.cells #[.int .i64 0, .int .i64 0, .int .i64 0, .int .i64 0, .int .i64 0, .int .i64 0, .int .i64 0, .int .i64 0, .int .i64 0, .int .i64 0, .int .i64 0, .int .i64 0, .int .i64 0, .int .i64 0, .int .i64 0, .int .i64 0, .int .i64 0, .int .i64 0] 42) := ⟨_, rfl⟩
          rw [← hu]
          obtain ⟨p, hp⟩ : ∃ p, p = (v27).heap.size := ⟨_, rfl⟩
          have hpd : (v27).heap.size = p := hp.symm
          rw [hpd]
          have PA : Hid (v30.heap[p]? = some (.cells #[.int .i64 0, .int .i64 0, .int .i64 0, .int .i64 0, .int .i64 0, .int .i64 0, .int .i64 0, .int .i64 0, .int .i64 0, .int .i64 0, .int .i64 0, .int .i64 0, .int .i64 0, .int .i64 0, .int .i64 0, .int .i64 0, .int .i64 0, .int .i64 0] 42 (0, 0))) := by rw [hu, hp]; exact Go.heap_alloc_new _ _
          have PZ : W.heap.size ≤ p := by rw [hp]; exact Q.out.size
          have NE : p ≠ q := by have := (Array.getElem?_eq_some_iff.1 QA.out).1; omega
          have QA := Lib.hid (by rw [hu]; exact keepA QA.out : v30.heap[q]? = some (.cells #[.int .i64 0, .int .i64 0, .int .i64 0, .int .i64 0, .int .i64 0, .int .i64 0, .int .i64 0, .int .i64 0, .int .i64 0, .int .i64 0, .int .i64 0, .int .i64 0, .int .i64 0, .int .i64 0, .int .i64 0, .int .i64 0, .int .i64 0, .int .i64 0] 42 (0, 0)))
          have Q : Hid (Below W.heap.size W v30) := by rw [hu]; exact ext_trans Q.out (ext_alloc _ _)
          clear hu hp hpd
          refine tr_eff3 rfl ?_
          intro J hJ
          go_wp2_with fail
          try rw [← show digV b = .agg #[.int .u8 (byt b 0), .int .u8 (byt b 1), .int .u8 (byt b 2), .int .u8 (byt b 3), .int .u8 (byt b 4), .int .u8 (byt b 5), .int .u8 (byt b 6), .int .u8 (byt b 7)] from rfl]
          refine (reach_c _ b).mono ?_
          rw [HVB.out]
          rintro e v31 ⟨rfl, hb⟩
          have PA := Lib.hid (keepB hb PA.out)
          have QA := Lib.hid (keepB hb QA.out)
          have Q : Hid (Below W.heap.size W v31) := Lib.hid (ext_trans Q.out hb)
          clear hb
          go_wp2_with fail
          refine ⟨fun _ => Q.out, ?_⟩
          refine tr_eff3 rfl ?_
          intro J hJ
          obtain ⟨x1, hs1, R1, B1, K1⟩ := store18 (w0 := W) LNA ONEA.out PA.out PZ Q.out
          go_wp2_with fail
          refine ⟨fun _ => B1, ?_⟩
          clear hs1
          refine tr_eff3 rfl ?_
          intro J2 hJ2
          have QA2 := (K1 q (fun e => NE e.symm)).trans QA.out
          obtain ⟨x2, hs2, R2, B2, K2⟩ := store18 (w0 := W) LNB ONEB.out QA2 QZ B1
          go_wp2_with fail
          refine ⟨fun h => absurd rfl h, ?_⟩
          clear hs2
          refine tr_nil3 (hJ0 _ _ ?_)
          go_wp2_with fail
          go_meet
          exact ⟨p, q, rfl, rfl, PZ, QZ, rangeAt_keep R1 (K2 p NE), R2, B2⟩
      · intro J hJ
        go_wp2_with fail
        refine ⟨fun _ => ext_trans Q.out (ext_alloc _ _), ?_⟩
        obtain ⟨v32, hu⟩ : ∃ u, u = World.alloc v26 (.cells #[.int .i64 0, .int .i64 0, .int .i64 0, .int .i64 0, .int .i64 0, .int .i64 0, .int .i64 0, .int .i64 0, .int .i64 0, .int .i64 0, .int .i64 0, .int .i64 0, .int .i64 0, .int .i64 0, .int .i64 0, .int .i64 0, .int .i64 0, .int .i64 0] 42) := ⟨_, rfl⟩
        rw [← hu]
        obtain ⟨p, hp⟩ : ∃ p, p = (v26).heap.size := ⟨_, rfl⟩
        have hpd : (v26).heap.size = p := hp.symm
        rw [hpd]
        have PA : Hid (v32.heap[p]? = some (.cells #[.int .i64 0, .int .i64 0, .int .i64 0, .int .i64 0, .int .i64 0, .int .i64 0, .int .i64 0, .int .i64 0, .int .i64 0, .int .i64 0, .int .i64 0, .int .i64 0, .int .i64 0, .int .i64 0, .int .i64 0, .int .i64 0, .int .i64 0, .int .i64 0] 42 (0, 0))) := by rw [hu, hp]; exact Go.heap_alloc_new _ _
        have PZ : W.heap.size ≤ p := by rw [hp]; exact Q.out.size
        have NE : p ≠ q := by have := (Array.getElem?_eq_some_iff.1 QA.out).1; omega
        have QA := Lib.hid (by rw [hu]; exact keepA QA.out : v32.heap[q]? = some (.cells #[.int .i64 0, .int .i64 0, .int .i64 0, .int .i64 0, .int .i64 0, .int .i64 0, .int .i64 0, .int .i64 0, .int .i64 0, .int .i64 0, .int .i64 0, .int .i64 0, .int .i64 0, .int .i64 0, .int .i64 0, .int .i64 0, .int .i64 0, .int .i64 0] 42 (0, 0)))
        have Q : Hid (Below W.heap.size W v32) := by rw [hu]; exact ext_trans Q.out (ext_alloc _ _)
        clear hu hp hpd
        refine tr_eff3 rfl ?_
        intro J hJ
        go_wp2_with fail
        try rw [← show digV a = .agg #[.int .u8 (byt a 0), .int .u8 (byt a 1), .int .u8 (byt a 2), .int .u8 (byt a 3), .int .u8 (byt a 4), .int .u8 (byt a 5), .int .u8 (byt a 6), .int .u8 (byt a 7)] from rfl]
        refine (reach_c _ a).mono ?_
        rw [HVA.out]
        rintro e v33 ⟨rfl, hb⟩
        have PA := Lib.hid (keepB hb PA.out)
        have QA := Lib.hid (keepB hb QA.out)
        have Q : Hid (Below W.heap.size W v33) := Lib.hid (ext_trans Q.out hb)
        clear hb
        go_wp2_with fail
        refine ⟨fun _ => Q.out, ?_⟩
        refine tr_eff3 rfl ?_
        intro J hJ
        go_wp2_with fail
        try rw [← show digV b = .agg #[.int .u8 (byt b 0), .int .u8 (byt b 1), .int .u8 (byt b 2), .int .u8 (byt b 3), .int .u8 (byt b 4), .int .u8 (byt b 5), .int .u8 (byt b 6), .int .u8 (byt b 7)] from rfl]
        refine (reach_c _ b).mono ?_
        rw [HVB.out]
        rintro e v34 ⟨rfl, hb⟩
        have PA := Lib.hid (keepB hb PA.out)
        have QA := Lib.hid (keepB hb QA.out)
        have Q : Hid (Below W.heap.size W v34) := Lib.hid (ext_trans Q.out hb)
        clear hb
        go_wp2_with fail
        refine ⟨fun _ => Q.out, ?_⟩
        refine tr_eff3 rfl ?_
        intro J hJ
        obtain ⟨x1, hs1, R1, B1, K1⟩ := store18 (w0 := W) LNA ONEA.out PA.out PZ Q.out
        go_wp2_with fail
        refine ⟨fun _ => B1, ?_⟩
        clear hs1
        refine tr_eff3 rfl ?_
        intro J2 hJ2
        have QA2 := (K1 q (fun e => NE e.symm)).trans QA.out
        obtain ⟨x2, hs2, R2, B2, K2⟩ := store18 (w0 := W) LNB ONEB.out QA2 QZ B1
        go_wp2_with fail
        refine ⟨fun h => absurd rfl h, ?_⟩
        clear hs2
        refine tr_nil3 (hJ0 _ _ ?_)
        go_wp2_with fail
        go_meet
        exact ⟨p, q, rfl, rfl, PZ, QZ, rangeAt_keep R1 (K2 p NE), R2, B2⟩
  case rest =>
    obtain ⟨p, q, rfl, rfl, _, _, RA, RB, hbw⟩ := hcut
    rename World => V
    have zp : p < V.heap.size := rangeAt_lt RA (by omega)
    have zq : q < V.heap.size := rangeAt_lt RB (by omega)
    have c1 : V.cell? ⟨p, kx, none⟩ = some (.int .i64 x1) := by have := RA kx _ PX.out; rwa [Nat.zero_add] at this
    have c2 : V.cell? ⟨p, ky, none⟩ = some (.int .i64 x2) := by have := RA ky _ PY.out; rwa [Nat.zero_add] at this
    have c3 : V.cell? ⟨q, kx, none⟩ = some (.int .i64 y1) := by have := RB kx _ QX.out; rwa [Nat.zero_add] at this
    have c4 : V.cell? ⟨q, ky, none⟩ = some (.int .i64 y2) := by have := RB ky _ QY.out; rwa [Nat.zero_add] at this
    replace B := Lib.hid (ext_trans B.out hbw)
    clear hbw RA RB PX PY QX QY GETA GETB ONEA ONEB HVA HVB LNA LNB DA DB
    go_wp2_with fail
    refine wp_region_schedC (fun v => Below V.heap.size V v) [(false, 0), (true, 1), (true, 2), (true, 3), (true, 4), (true, 5), (true, 6), (true, 7), (true, 8), (true, 9), (true, 10), (true, 11), (true, 12), (true, 13), (true, 14), (true, 15), (true, 16), (true, 17), (true, 18), (true, 19), (true, 20), (true, 21), (true, 22), (true, 23), (true, 24), (true, 25), (true, 26), (true, 27), (true, 28), (true, 29), (true, 30), (true, 31), (true, 32), (true, 33), (true, 34), (true, 35), (true, 36), (true, 37), (true, 38), (true, 39), (true, 40)] (by kernel_rfl) rfl (by kernel_rfl) (by kernel_rfl) (fun _ _ d _ _ h => by cases d <;> exact h) (ext_drew V) ?_
    intro J0 hJ0
    refine schedC_eff rfl ?_
    intro J hJ
    go_wp2_with fail
    refine (known_c _).mono ?_
    try unfold digV
    rintro e w7 ⟨rfl, hb⟩
    have CC : Hid (Below V.heap.size V w7) := Lib.hid (ext_trans (ext_drew V) hb)
    clear hb
    go_wp2_with fail
    refine ⟨CC.out, ?_⟩
    iterate 40 (refine schedC_pure (v := ?_) rfl (by rfl) ?_ ?_; rotate_left; (focus (intro v hC; have d1 := (hC.cell (p := ⟨p, kx, none⟩) zp).trans c1; have d2 := (hC.cell (p := ⟨p, ky, none⟩) zp).trans c2; have d3 := (hC.cell (p := ⟨q, kx, none⟩) zq).trans c3; have d4 := (hC.cell (p := ⟨q, ky, none⟩) zq).trans c4; go_simp; try with_reducible rfl)); try go_simp)
    refine schedC_nil (hJ0 _ _ ?_)
    clear hJ0
    go_wp2_with fail
    go_ret
    exact ⟨rfl, ext_trans B.out CC.out⟩

theorem walkOnceAhead (w : World) (a b : Nat) (la : a < 18446744073709551616) (lb : b < 18446744073709551616) :
    Calls Try.prog 9 #[digV a, digV b] w (Holds w) := by
  by_cases hab : a = b
  · subst hab; exact ahead_alike w a la
  · exact ahead_unlike w a b la lb hab
#print axioms walkOnceAhead
end Go.Proofs.Ytbhibfdlkahagaa
