/-
  OnceShows: the walk.
-/
import Derived.Test.YtbhibfdlkahagaaOAhead0
import Derived.Test.YtbhibfdlkahagaaSchedT3
import Derived.Test.YtbhibfdlkahagaaOShown
import Derived.Test.YtbhibfdlkahagaaOVer
import Derived.Test.YtbhibfdlkahagaaOSame
import Derived.Test.YtbhibfdlkahagaaHOpen
import Derived.Deep.DeepCutAuto
namespace Go.Proofs.Ytbhibfdlkahagaa
open Go.RowKit

theorem schedC_skip3 {P : Program} {ops : Array Oper} {C : World → Prop} {K : Act → World → Prop} {i : Nat} {s : List (Bool × Nat)} {o : Oper} {a : Act} {w : World} (hi : ops[i]? = some o) (hw : Region.wanted o (yielded ops a.tmps) = false)
    (h : wpSchedC P ops C K s (a.put o.dst undef) w) : wpSchedC P ops C K ((true, i) :: s) a w := ⟨o, undef, hi, .inr ⟨hw, rfl⟩, h⟩
theorem chainI_add (n a b : Nat) (ha : a < 16) (hb : b < 16) : chainI (chainI n a) b = chainI n ((a + b : Nat) : Int) := by
  rw [chainI_small n _ (by omega), chainI_small _ _ (by omega), chainI_small n _ (by omega)]
  exact chainN_more n a b
theorem shown_sign {s m : Nat} (hs : s < 18446744073709551616) (k : Nat) (hk : k < 18) : shownR (signB s m) (k : Int) = (chainI (begN s k) (dg m k), true) := by
  unfold shownR
  rw [if_pos ⟨signB_len s m, by omega, by omega⟩, Int.toNat_natCast]
  refine congrArg (fun x => (x, true)) ?_
  exact sign_part hs hk

set_option maxRecDepth 100000 in
set_option maxHeartbeats 4000000 in
theorem walkOnceShows (w : World) (s a b : Nat) (hs : s < 18446744073709551616) (_ha : a < 18446744073709551616) (_hb : b < 18446744073709551616) :
    Calls Try.prog 10 #[digV s, digV a, digV b] w (Holds w) := by
  obtain ⟨SA, hSA⟩ : ∃ x, x = signB s a := ⟨_, rfl⟩
  obtain ⟨SB, hSB⟩ : ∃ x, x = signB s b := ⟨_, rfl⟩
  have LA : SA.length = 144 := by rw [hSA]; exact signB_len s a
  have LB : SB.length = 144 := by rw [hSB]; exact signB_len s b
  have HSA : Hid (signB s a = SA) := hSA.symm
  have HSB : Hid (signB s b = SB) := hSB.symm
  have SHA : Hid (∀ k : Nat, k < 18 → shownR SA (k : Int) = (chainI (begN s k) (dg a k), true)) := by rw [hSA]; exact fun k hk => shown_sign hs k hk
  have SHB : Hid (∀ k : Nat, k < 18 → shownR SB (k : Int) = (chainI (begN s k) (dg b k), true)) := by rw [hSB]; exact fun k hk => shown_sign hs k hk
  clear hSA hSB
  obtain ⟨DLA, hDLA⟩ : ∃ l : List Value, l = (digA18 a).toList := ⟨_, rfl⟩
  have HVA : Hid (digV18 a = .agg DLA.toArray) := by rw [hDLA]; exact rfl
  have LNA : DLA.length = 18 := by rw [hDLA]; rfl
  have ONEA : Hid (∀ v ∈ DLA, v.oneCell' = true) := by rw [hDLA]; exact digs_one a
  have GETA : Hid (∀ c, c < 18 → DLA[c]? = some (.int .i64 (dg a c))) := by rw [hDLA]; exact digA18_get a
  clear hDLA
  obtain ⟨DLB, hDLB⟩ : ∃ l : List Value, l = (digA18 b).toList := ⟨_, rfl⟩
  have HVB : Hid (digV18 b = .agg DLB.toArray) := by rw [hDLB]; exact rfl
  have LNB : DLB.length = 18 := by rw [hDLB]; rfl
  have ONEB : Hid (∀ v ∈ DLB, v.oneCell' = true) := by rw [hDLB]; exact digs_one b
  have GETB : Hid (∀ c, c < 18 → DLB[c]? = some (.int .i64 (dg b c))) := by rw [hDLB]; exact digA18_get b
  clear hDLB
  unfold digV
  go_enter Try.func10, Try.ntmps10
  go_upto_region 1 with fail
  generalize hW : World.alloc (World.alloc (World.alloc w (.cells #[.int .u8 (byt s 0), .int .u8 (byt s 1), .int .u8 (byt s 2), .int .u8 (byt s 3), .int .u8 (byt s 4), .int .u8 (byt s 5), .int .u8 (byt s 6), .int .u8 (byt s 7)] 30)) (.cells #[.int .u8 (byt a 0), .int .u8 (byt a 1), .int .u8 (byt a 2), .int .u8 (byt a 3), .int .u8 (byt a 4), .int .u8 (byt a 5), .int .u8 (byt a 6), .int .u8 (byt a 7)] 30)) (.cells #[.int .u8 (byt b 0), .int .u8 (byt b 1), .int .u8 (byt b 2), .int .u8 (byt b 3), .int .u8 (byt b 4), .int .u8 (byt b 5), .int .u8 (byt b 6), .int .u8 (byt b 7)] 30) = W0
  have DS : Hid (W0.heap[w.heap.size]? = some (.cells #[.int .u8 (byt s 0), .int .u8 (byt s 1), .int .u8 (byt s 2), .int .u8 (byt s 3), .int .u8 (byt s 4), .int .u8 (byt s 5), .int .u8 (byt s 6), .int .u8 (byt s 7)] 30 (0, 0))) := by rw [← hW]; exact keepA (keepA (Go.heap_alloc_new w _))
  have DA : Hid (W0.heap[w.heap.size + 1]? = some (.cells #[.int .u8 (byt a 0), .int .u8 (byt a 1), .int .u8 (byt a 2), .int .u8 (byt a 3), .int .u8 (byt a 4), .int .u8 (byt a 5), .int .u8 (byt a 6), .int .u8 (byt a 7)] 30 (0, 0))) := by rw [← hW]; exact keepA (heap_alloc_newest (w := World.alloc _ _) (by simp))
  have DB : Hid (W0.heap[w.heap.size + 2]? = some (.cells #[.int .u8 (byt b 0), .int .u8 (byt b 1), .int .u8 (byt b 2), .int .u8 (byt b 3), .int .u8 (byt b 4), .int .u8 (byt b 5), .int .u8 (byt b 6), .int .u8 (byt b 7)] 30 (0, 0))) := by rw [← hW]; exact heap_alloc_newest (w := World.alloc (World.alloc _ _) _) (by simp)
  have B : Hid (Below w.heap.size w W0) := by rw [← hW]; exact ext_trans (ext_trans (ext_alloc _ _) (ext_alloc _ _)) (ext_alloc _ _)
  clear hW
  go_wp2_with fail
  refine wp_region_schedC (fun v => Below W0.heap.size W0 v) [(true, 0), (true, 1), (true, 3), (true, 4), (false, 2), (false, 5), (true, 6), (true, 7)] (by kernel_rfl) rfl (by kernel_rfl) (by kernel_rfl) (fun _ _ d _ _ h => by cases d <;> exact h) (ext_drew W0) ?_
  intro J0 hJ0
  have CC : Hid (Below W0.heap.size W0 W0.drew) := Lib.hid (ext_drew W0)
  iterate 4 (refine schedC_pure (v := ?_) rfl (by rfl) ?_ ?_; rotate_left; (focus (intro v hC; obtain ⟨s0, s1, s2, s3, s4, s5, s6, s7, _, _, _, _, _, _, _, _⟩ := full8 (keepB hC DS.out); obtain ⟨a0, a1, a2, a3, a4, a5, a6, a7, _, _, _, _, _, _, _, _⟩ := full8 (keepB hC DA.out); obtain ⟨b0, b1, b2, b3, b4, b5, b6, b7, _, _, _, _, _, _, _, _⟩ := full8 (keepB hC DB.out); go_simp; try with_reducible rfl)); try go_simp)
  refine schedC_eff rfl ?_
  intro J hJ
  go_wp2_with fail
  refine (sign_c _ s a hs).mono ?_
  rw [HSA.out]
  unfold Rows8
  rintro e w1 ⟨A1, n1, c1, rfl, hO1, hb⟩
  replace CC : Hid (Below W0.heap.size W0 w1) := Lib.hid (ext_trans CC.out hb)
  have O1 := Lib.hid hO1.rd
  obtain ⟨g1, X1, rfl, _, _, _, _⟩ := hO1.block (by have := hO1.len; omega)
  obtain rfl : n1 = 144 := by have := hO1.len; omega
  clear hO1
  clear hb
  go_wp2_with fail
  refine ⟨CC.out, ?_⟩
  refine schedC_eff rfl ?_
  intro J hJ
  go_wp2_with fail
  refine (sign_c _ s b hs).mono ?_
  rw [HSB.out]
  unfold Rows8
  rintro e W ⟨A2, n2, c2, rfl, hO2, hb⟩
  replace CC : Hid (Below W0.heap.size W0 W) := Lib.hid (ext_trans CC.out hb)
  replace O1 := Lib.hid (O1.out.ext hb)
  have O2 := Lib.hid hO2.rd
  obtain ⟨g2, X2, rfl, _, _, _, _⟩ := hO2.block (by have := hO2.len; omega)
  obtain rfl : n2 = 144 := by have := hO2.len; omega
  clear hO2
  clear hb
  go_wp2_with fail
  refine ⟨CC.out, ?_⟩
  iterate 2 (refine schedC_pure (v := ?_) rfl (by rfl) ?_ ?_; rotate_left; (focus (intro v hC; go_simp; try with_reducible rfl)); try go_simp)
  refine schedC_nil (hJ0 _ _ ?_)
  clear hJ0
  replace DA := Lib.hid (keepB CC.out DA.out)
  replace DB := Lib.hid (keepB CC.out DB.out)
  replace B := Lib.hid (ext_trans B.out CC.out)
  clear CC DS
  go_upto_region 2 with fail
  go_cut [9, 10] (fun x y wx => DRows DLA DLB W x y wx)
  case first =>
    refine wp_region_tr3 (fin := 7) (fun v => Below W.heap.size W v) (.pure 0 (.pure 2 (.three 1 (.three 3 (.two 4 (.eff 5 (.eff 6 (.eff 7 .nil))) 5 (.eff 4 (.eff 6 (.eff 7 .nil)))) 4 (.two 3 (.eff 5 (.eff 6 (.eff 7 .nil))) 5 (.eff 3 (.eff 6 (.eff 7 .nil)))) 5 (.two 3 (.eff 4 (.eff 6 (.eff 7 .nil))) 4 (.eff 3 (.eff 6 (.eff 7 .nil))))) 4 (.two 1 (.two 3 (.eff 5 (.eff 6 (.eff 7 .nil))) 5 (.eff 3 (.eff 6 (.eff 7 .nil)))) 5 (.eff 1 (.eff 3 (.eff 6 (.eff 7 .nil))))) 5 (.two 1 (.two 3 (.eff 4 (.eff 6 (.eff 7 .nil))) 4 (.eff 3 (.eff 6 (.eff 7 .nil)))) 4 (.eff 1 (.eff 3 (.eff 6 (.eff 7 .nil)))))))) (by kernel_rfl) (by kernel_rfl) (by kernel_rfl) (fun _ _ d _ _ h => by cases d <;> exact h) (ext_drew W) ?_
    intro J0 hJ0
    refine tr_pure3 (v := digV a) rfl (by rfl) (fun v hC => ?_) ?_
    · obtain ⟨s0, s1, s2, s3, s4, s5, s6, s7, _, _, _, _, _, _, _, _⟩ := full8 (keepB hC DA.out)
      unfold digV
      go_simp
    try go_simp
    refine tr_pure3 (v := digV b) rfl (by rfl) (fun v hC => ?_) ?_
    · obtain ⟨s0, s1, s2, s3, s4, s5, s6, s7, _, _, _, _, _, _, _, _⟩ := full8 (keepB hC DB.out)
      unfold digV
      go_simp
    try go_simp
    have Q : Hid (Below W.heap.size W W.drew) := Lib.hid (ext_drew W)
    generalize W.drew = V0 at *
    refine tr_three3 rfl rfl rfl ?_ ?_ ?_
    · intro J hJ
      go_wp2_with fail
      try rw [← show digV a = .agg #[.int .u8 (byt a 0), .int .u8 (byt a 1), .int .u8 (byt a 2), .int .u8 (byt a 3), .int .u8 (byt a 4), .int .u8 (byt a 5), .int .u8 (byt a 6), .int .u8 (byt a 7)] from rfl]
      refine (reach_c _ a).mono ?_
      rw [HVA.out]
      rintro e v1 ⟨rfl, hb⟩
      have Q : Hid (Below W.heap.size W v1) := Lib.hid (ext_trans Q.out hb)
      clear hb
      go_wp2_with fail
      refine ⟨fun _ => Q.out, ?_⟩
      refine tr_three3 rfl rfl rfl ?_ ?_ ?_
      · intro J hJ
        go_wp2_with fail
        try rw [← show digV b = .agg #[.int .u8 (byt b 0), .int .u8 (byt b 1), .int .u8 (byt b 2), .int .u8 (byt b 3), .int .u8 (byt b 4), .int .u8 (byt b 5), .int .u8 (byt b 6), .int .u8 (byt b 7)] from rfl]
        refine (reach_c _ b).mono ?_
        rw [HVB.out]
        rintro e v2 ⟨rfl, hb⟩
        have Q : Hid (Below W.heap.size W v2) := Lib.hid (ext_trans Q.out hb)
        clear hb
        go_wp2_with fail
        refine ⟨fun _ => Q.out, ?_⟩
        refine tr_two3 rfl rfl ?_ ?_
        · intro J hJ
          go_wp2_with fail
          refine ⟨fun _ => ext_trans Q.out (ext_alloc _ _), ?_⟩
          obtain ⟨v3, hu⟩ : ∃ u, u = World.alloc v2 (.cells #[.int .i64 0, .int .i64 0, .int .i64 0, .int .i64 0, .int .i64 0, .int .i64 0, .int .i64 0, .int .i64 0, .int .i64 0, .int .i64 0, .int .i64 0, .int .i64 0, .int .i64 0, .int .i64 0, .int .i64 0, .int .i64 0, .int .i64 0, .int .i64 0] 42) := ⟨_, rfl⟩
          rw [← hu]
          obtain ⟨p, hp⟩ : ∃ p, p = (v2).heap.size := ⟨_, rfl⟩
          have hpd : (v2).heap.size = p := hp.symm
          rw [hpd]
          have PA : Hid (v3.heap[p]? = some (.cells #[.int .i64 0, .int .i64 0, .int .i64 0, .int .i64 0, .int .i64 0, .int .i64 0, .int .i64 0, .int .i64 0, .int .i64 0, .int .i64 0, .int .i64 0, .int .i64 0, .int .i64 0, .int .i64 0, .int .i64 0, .int .i64 0, .int .i64 0, .int .i64 0] 42 (0, 0))) := by rw [hu, hp]; exact Go.heap_alloc_new _ _
          have PZ : W.heap.size ≤ p := by rw [hp]; exact Q.out.size
          have Q : Hid (Below W.heap.size W v3) := by rw [hu]; exact ext_trans Q.out (ext_alloc _ _)
          clear hu hp hpd
          refine tr_eff3 rfl ?_
          intro J hJ
          go_wp2_with fail
          refine ⟨fun _ => ext_trans Q.out (ext_alloc _ _), ?_⟩
          obtain ⟨v4, hu⟩ : ∃ u, u = World.alloc v3 (.cells #[.int .i64 0, .int .i64 0, .int .i64 0, .int .i64 0, .int .i64 0, .int .i64 0, .int .i64 0, .int .i64 0, .int .i64 0, .int .i64 0, .int .i64 0, .int .i64 0, .int .i64 0, .int .i64 0, .int .i64 0, .int .i64 0, .int .i64 0, .int .i64 0] 42) := ⟨_, rfl⟩
          rw [← hu]
          obtain ⟨q, hp⟩ : ∃ p, p = (v3).heap.size := ⟨_, rfl⟩
          have hpd : (v3).heap.size = q := hp.symm
          rw [hpd]
          have QA : Hid (v4.heap[q]? = some (.cells #[.int .i64 0, .int .i64 0, .int .i64 0, .int .i64 0, .int .i64 0, .int .i64 0, .int .i64 0, .int .i64 0, .int .i64 0, .int .i64 0, .int .i64 0, .int .i64 0, .int .i64 0, .int .i64 0, .int .i64 0, .int .i64 0, .int .i64 0, .int .i64 0] 42 (0, 0))) := by rw [hu, hp]; exact Go.heap_alloc_new _ _
          have QZ : W.heap.size ≤ q := by rw [hp]; exact Q.out.size
          have NE : p ≠ q := by have := (Array.getElem?_eq_some_iff.1 PA.out).1; omega
          have PA := Lib.hid (by rw [hu]; exact keepA PA.out : v4.heap[p]? = some (.cells #[.int .i64 0, .int .i64 0, .int .i64 0, .int .i64 0, .int .i64 0, .int .i64 0, .int .i64 0, .int .i64 0, .int .i64 0, .int .i64 0, .int .i64 0, .int .i64 0, .int .i64 0, .int .i64 0, .int .i64 0, .int .i64 0, .int .i64 0, .int .i64 0] 42 (0, 0)))
          have Q : Hid (Below W.heap.size W v4) := by rw [hu]; exact ext_trans Q.out (ext_alloc _ _)
          clear hu hp hpd
          refine tr_eff3 rfl ?_
          intro J hJ
          obtain ⟨x1, hs1, R1, B1, K1⟩ := store18 (w0 := W) LNA ONEA.out PA.out PZ Q.out
          go_wp2_with fail
          refine ⟨fun _ => B1, ?_⟩
          clear hs1
          refine tr_eff3 rfl ?_
          intro J2 hJ2
          have QA2 := (K1 q (fun e => NE e.symm)).trans QA.out
          obtain ⟨x2, hs2, R2, B2, K2⟩ := store18 (w0 := W) LNB ONEB.out QA2 QZ B1
          go_wp2_with fail
          refine ⟨fun h => absurd rfl h, ?_⟩
          clear hs2
          refine tr_nil3 (hJ0 _ _ ?_)
          go_wp2_with fail
          go_meet
          exact ⟨p, q, rfl, rfl, PZ, QZ, rangeAt_keep R1 (K2 p NE), R2, B2⟩
        · intro J hJ
          go_wp2_with fail
          refine ⟨fun _ => ext_trans Q.out (ext_alloc _ _), ?_⟩
          obtain ⟨v5, hu⟩ : ∃ u, u = World.alloc v2 (.cells #[.int .i64 0, .int .i64 0, .int .i64 0, .int .i64 0, .int .i64 0, .int .i64 0, .int .i64 0, .int .i64 0, .int .i64 0, .int .i64 0, .int .i64 0, .int .i64 0, .int .i64 0, .int .i64 0, .int .i64 0, .int .i64 0, .int .i64 0, .int .i64 0] 42) := ⟨_, rfl⟩
          rw [← hu]
          obtain ⟨q, hp⟩ : ∃ p, p = (v2).heap.size := ⟨_, rfl⟩
          have hpd : (v2).heap.size = q := hp.symm
          rw [hpd]
          have QA : Hid (v5.heap[q]? = some (.cells #[.int .i64 0, .int .i64 0, .int .i64 0, .int .i64 0, .int .i64 0, .int .i64 0, .int .i64 0, .int .i64 0, .int .i64 0, .int .i64 0, .int .i64 0, .int .i64 0, .int .i64 0, .int .i64 0, .int .i64 0, .int .i64 0, .int .i64 0, .int .i64 0] 42 (0, 0))) := by rw [hu, hp]; exact Go.heap_alloc_new _ _
          have QZ : W.heap.size ≤ q := by rw [hp]; exact Q.out.size
          have Q : Hid (Below W.heap.size W v5) := by rw [hu]; exact ext_trans Q.out (ext_alloc _ _)
          clear hu hp hpd
          refine tr_eff3 rfl ?_
          intro J hJ
          go_wp2_with fail
          refine ⟨fun _ => ext_trans Q.out (ext_alloc _ _), ?_⟩
          obtain ⟨v6, hu⟩ : ∃ u, u = World.alloc v5 (.cells #[.int .i64 0, .int .i64 0, .int .i64 0, .int .i64 0, .int .i64 0, .int .i64 0, .int .i64 0, .int .i64 0, .int .i64 0, .int .i64 0, .int .i64 0, .int .i64 0, .int .i64 0, .int .i64 0, .int .i64 0, .int .i64 0, .int .i64 0, .int .i64 0] 42) := ⟨_, rfl⟩
          rw [← hu]
          obtain ⟨p, hp⟩ : ∃ p, p = (v5).heap.size := ⟨_, rfl⟩
          have hpd : (v5).heap.size = p := hp.symm
          rw [hpd]
          have PA : Hid (v6.heap[p]? = some (.cells #[.int .i64 0, .int .i64 0, .int .i64 0, .int .i64 0, .int .i64 0, .int .i64 0, .int .i64 0, .int .i64 0, .int .i64 0, .int .i64 0, .int .i64 0, .int .i64 0, .int .i64 0, .int .i64 0, .int .i64 0, .int .i64 0, .int .i64 0, .int .i64 0] 42 (0, 0))) := by rw [hu, hp]; exact Go.heap_alloc_new _ _
          have PZ : W.heap.size ≤ p := by rw [hp]; exact Q.out.size
          have NE : p ≠ q := by have := (Array.getElem?_eq_some_iff.1 QA.out).1; omega
          have QA := Lib.hid (by rw [hu]; exact keepA QA.out : v6.heap[q]? = some (.cells #[.int .i64 0, .int .i64 0, .int .i64 0, .int .i64 0, .int .i64 0, .int .i64 0, .int .i64 0, .int .i64 0, .int .i64 0, .int .i64 0, .int .i64 0, .int .i64 0, .int .i64 0, .int .i64 0, .int .i64 0, .int .i64 0, .int .i64 0, .int .i64 0] 42 (0, 0)))
          have Q : Hid (Below W.heap.size W v6) := by rw [hu]; exact ext_trans Q.out (ext_alloc _ _)
          clear hu hp hpd
          refine tr_eff3 rfl ?_
          intro J hJ
          obtain ⟨x1, hs1, R1, B1, K1⟩ := store18 (w0 := W) LNA ONEA.out PA.out PZ Q.out
          go_wp2_with fail
          refine ⟨fun _ => B1, ?_⟩
          clear hs1
          refine tr_eff3 rfl ?_
          intro J2 hJ2
          have QA2 := (K1 q (fun e => NE e.symm)).trans QA.out
          obtain ⟨x2, hs2, R2, B2, K2⟩ := store18 (w0 := W) LNB ONEB.out QA2 QZ B1
          go_wp2_with fail
          refine ⟨fun h => absurd rfl h, ?_⟩
          clear hs2
          refine tr_nil3 (hJ0 _ _ ?_)
          go_wp2_with fail
          go_meet
          exact ⟨p, q, rfl, rfl, PZ, QZ, rangeAt_keep R1 (K2 p NE), R2, B2⟩
      · intro J hJ
        go_wp2_with fail
        refine ⟨fun _ => ext_trans Q.out (ext_alloc _ _), ?_⟩
        obtain ⟨v7, hu⟩ : ∃ u, u = World.alloc v1 (.cells #[.int .i64 0, .int .i64 0, .int .i64 0, .int .i64 0, .int .i64 0, .int .i64 0, .int .i64 0, .int .i64 0, .int .i64 0, .int .i64 0, .int .i64 0, .int .i64 0, .int .i64 0, .int .i64 0, .int .i64 0, .int .i64 0, .int .i64 0, .int .i64 0] 42) := ⟨_, rfl⟩
        rw [← hu]
        obtain ⟨p, hp⟩ : ∃ p, p = (v1).heap.size := ⟨_, rfl⟩
        have hpd : (v1).heap.size = p := hp.symm
        rw [hpd]
        have PA : Hid (v7.heap[p]? = some (.cells #[.int .i64 0, .int .i64 0, .int .i64 0, .int .i64 0, .int .i64 0, .int .i64 0, .int .i64 0, .int .i64 0, .int .i64 0, .int .i64 0, .int .i64 0, .int .i64 0, .int .i64 0, .int .i64 0, .int .i64 0, .int .i64 0, .int .i64 0, .int .i64 0] 42 (0, 0))) := by rw [hu, hp]; exact Go.heap_alloc_new _ _
        have PZ : W.heap.size ≤ p := by rw [hp]; exact Q.out.size
        have Q : Hid (Below W.heap.size W v7) := by rw [hu]; exact ext_trans Q.out (ext_alloc _ _)
        clear hu hp hpd
        refine tr_two3 rfl rfl ?_ ?_
        · intro J hJ
          go_wp2_with fail
          try rw [← show digV b = .agg #[.int .u8 (byt b 0), .int .u8 (byt b 1), .int .u8 (byt b 2), .int .u8 (byt b 3), .int .u8 (byt b 4), .int .u8 (byt b 5), .int .u8 (byt b 6), .int .u8 (byt b 7)] from rfl]
          refine (reach_c _ b).mono ?_
          rw [HVB.out]
          rintro e v8 ⟨rfl, hb⟩
          have PA := Lib.hid (keepB hb PA.out)
          have Q : Hid (Below W.heap.size W v8) := Lib.hid (ext_trans Q.out hb)
          clear hb
          go_wp2_with fail
          refine ⟨fun _ => Q.out, ?_⟩
          refine tr_eff3 rfl ?_
          intro J hJ
          go_wp2_with fail
          refine ⟨fun _ => ext_trans Q.out (ext_alloc _ _), ?_⟩
          obtain ⟨v9, hu⟩ : ∃ u, u = World.alloc v8 (.cells #[.int .i64 0, .int .i64 0, .int .i64 0, .int .i64 0, .int .i64 0, .int .i64 0, .int .i64 0, .int .i64 0, .int .i64 0, .int .i64 0, .int .i64 0, .int .i64 0, .int .i64 0, .int .i64 0, .int .i64 0, .int .i64 0, .int .i64 0, .int .i64 0] 42) := ⟨_, rfl⟩
          rw [← hu]
          obtain ⟨q, hp⟩ : ∃ p, p = (v8).heap.size := ⟨_, rfl⟩
          have hpd : (v8).heap.size = q := hp.symm
          rw [hpd]
          have QA : Hid (v9.heap[q]? = some (.cells #[.int .i64 0, .int .i64 0, .int .i64 0, .int .i64 0, .int .i64 0, .int .i64 0, .int .i64 0, .int .i64 0, .int .i64 0, .int .i64 0, .int .i64 0, .int .i64 0, .int .i64 0, .int .i64 0, .int .i64 0, .int .i64 0, .int .i64 0, .int .i64 0] 42 (0, 0))) := by rw [hu, hp]; exact Go.heap_alloc_new _ _
          have QZ : W.heap.size ≤ q := by rw [hp]; exact Q.out.size
          have NE : p ≠ q := by have := (Array.getElem?_eq_some_iff.1 PA.out).1; omega
          have PA := Lib.hid (by rw [hu]; exact keepA PA.out : v9.heap[p]? = some (.cells #[.int .i64 0, .int .i64 0, .int .i64 0, .int .i64 0, .int .i64 0, .int .i64 0, .int .i64 0, .int .i64 0, .int .i64 0, .int .i64 0, .int .i64 0, .int .i64 0, .int .i64 0, .int .i64 0, .int .i64 0, .int .i64 0, .int .i64 0, .int .i64 0] 42 (0, 0)))
          have Q : Hid (Below W.heap.size W v9) := by rw [hu]; exact ext_trans Q.out (ext_alloc _ _)
          clear hu hp hpd
          refine tr_eff3 rfl ?_
          intro J hJ
          obtain ⟨x1, hs1, R1, B1, K1⟩ := store18 (w0 := W) LNA ONEA.out PA.out PZ Q.out
          go_wp2_with fail
          refine ⟨fun _ => B1, ?_⟩
          clear hs1
          refine tr_eff3 rfl ?_
          intro J2 hJ2
          have QA2 := (K1 q (fun e => NE e.symm)).trans QA.out
          obtain ⟨x2, hs2, R2, B2, K2⟩ := store18 (w0 := W) LNB ONEB.out QA2 QZ B1
          go_wp2_with fail
          refine ⟨fun h => absurd rfl h, ?_⟩
          clear hs2
          refine tr_nil3 (hJ0 _ _ ?_)
          go_wp2_with fail
          go_meet
          exact ⟨p, q, rfl, rfl, PZ, QZ, rangeAt_keep R1 (K2 p NE), R2, B2⟩
        · intro J hJ
          go_wp2_with fail
          refine ⟨fun _ => ext_trans Q.out (ext_alloc _ _), ?_⟩
          obtain ⟨v10, hu⟩ : ∃ u, u = World.alloc v7 (.cells #[.int .i64 0, .int .i64 0, .int .i64 0, .int .i64 0, .int .i64 0, .int .i64 0, .int .i64 0, .int .i64 0, .int .i64 0, .int .i64 0, .int .i64 0, .int .i64 0, .int .i64 0, .int .i64 0, .int .i64 0, .int .i64 0, .int .i64 0, .int .i64 0] 42) := ⟨_, rfl⟩
          rw [← hu]
          obtain ⟨q, hp⟩ : ∃ p, p = (v7).heap.size := ⟨_, rfl⟩
          have hpd : (v7).heap.size = q := hp.symm
          rw [hpd]
          have QA : Hid (v10.heap[q]? = some (.cells #[.int .i64 0, .int .i64 0, .int .i64 0, .int .i64 0, .int .i64 0, .int .i64 0, .int .i64 0, .int .i64 0, .int .i64 0, .int .i64 0, .int .i64 0, .int .i64 0, .int .i64 0, .int .i64 0, .int .i64 0, .int .i64 0, .int .i64 0, .int .i64 0] 42 (0, 0))) := by rw [hu, hp]; exact Go.heap_alloc_new _ _
          have QZ : W.heap.size ≤ q := by rw [hp]; exact Q.out.size
          have NE : p ≠ q := by have := (Array.getElem?_eq_some_iff.1 PA.out).1; omega
          have PA := Lib.hid (by rw [hu]; exact keepA PA.out : v10.heap[p]? = some (.cells #[.int .i64 0, .int .i64 0, .int .i64 0, .int .i64 0, .int .i64 0, .int .i64 0, .int .i64 0, .int .i64 0, .int .i64 0, .int .i64 0, .int .i64 0, .int .i64 0, .int .i64 0, .int .i64 0, .int .i64 0, .int .i64 0, .int .i64 0, .int .i64 0] 42 (0, 0)))
          have Q : Hid (Below W.heap.size W v10) := by rw [hu]; exact ext_trans Q.out (ext_alloc _ _)
          clear hu hp hpd
          refine tr_eff3 rfl ?_
          intro J hJ
          go_wp2_with fail
          try rw [← show digV b = .agg #[.int .u8 (byt b 0), .int .u8 (byt b 1), .int .u8 (byt b 2), .int .u8 (byt b 3), .int .u8 (byt b 4), .int .u8 (byt b 5), .int .u8 (byt b 6), .int .u8 (byt b 7)] from rfl]
          refine (reach_c _ b).mono ?_
          rw [HVB.out]
          rintro e v11 ⟨rfl, hb⟩
          have PA := Lib.hid (keepB hb PA.out)
          have QA := Lib.hid (keepB hb QA.out)
          have Q : Hid (Below W.heap.size W v11) := Lib.hid (ext_trans Q.out hb)
          clear hb
          go_wp2_with fail
          refine ⟨fun _ => Q.out, ?_⟩
          refine tr_eff3 rfl ?_
          intro J hJ
          obtain ⟨x1, hs1, R1, B1, K1⟩ := store18 (w0 := W) LNA ONEA.out PA.out PZ Q.out
          go_wp2_with fail
          refine ⟨fun _ => B1, ?_⟩
          clear hs1
          refine tr_eff3 rfl ?_
          intro J2 hJ2
          have QA2 := (K1 q (fun e => NE e.symm)).trans QA.out
          obtain ⟨x2, hs2, R2, B2, K2⟩ := store18 (w0 := W) LNB ONEB.out QA2 QZ B1
          go_wp2_with fail
          refine ⟨fun h => absurd rfl h, ?_⟩
          clear hs2
          refine tr_nil3 (hJ0 _ _ ?_)
          go_wp2_with fail
          go_meet
          exact ⟨p, q, rfl, rfl, PZ, QZ, rangeAt_keep R1 (K2 p NE), R2, B2⟩
      · intro J hJ
        go_wp2_with fail
        refine ⟨fun _ => ext_trans Q.out (ext_alloc _ _), ?_⟩
        obtain ⟨v12, hu⟩ : ∃ u, u = World.alloc v1 (.cells #[.int .i64 0, .int .i64 0, .int .i64 0, .int .i64 0, .int .i64 0, .int .i64 0, .int .i64 0, .int .i64 0, .int .i64 0, .int .i64 0, .int .i64 0, .int .i64 0, .int .i64 0, .int .i64 0, .int .i64 0, .int .i64 0, .int .i64 0, .int .i64 0] 42) := ⟨_, rfl⟩
        rw [← hu]
        obtain ⟨q, hp⟩ : ∃ p, p = (v1).heap.size := ⟨_, rfl⟩
        have hpd : (v1).heap.size = q := hp.symm
        rw [hpd]
        have QA : Hid (v12.heap[q]? = some (.cells #[.int .i64 0, .int .i64 0, .int .i64 0, .int .i64 0, .int .i64 0, .int .i64 0, .int .i64 0, .int .i64 0, .int .i64 0, .int .i64 0, .int .i64 0, .int .i64 0, .int .i64 0, .int .i64 0, .int .i64 0, .int .i64 0, .int .i64 0, .int .i64 0] 42 (0, 0))) := by rw [hu, hp]; exact Go.heap_alloc_new _ _
        have QZ : W.heap.size ≤ q := by rw [hp]; exact Q.out.size
        have Q : Hid (Below W.heap.size W v12) := by rw [hu]; exact ext_trans Q.out (ext_alloc _ _)
        clear hu hp hpd
        refine tr_two3 rfl rfl ?_ ?_
        · intro J hJ
          go_wp2_with fail
          try rw [← show digV b = .agg #[.int .u8 (byt b 0), .int .u8 (byt b 1), .int .u8 (byt b 2), .int .u8 (byt b 3), .int .u8 (byt b 4), .int .u8 (byt b 5), .int .u8 (byt b 6), .int .u8 (byt b 7)] from rfl]
          refine (reach_c _ b).mono ?_
          rw [HVB.out]
          rintro e v13 ⟨rfl, hb⟩
          have QA := Lib.hid (keepB hb QA.out)
          have Q : Hid (Below W.heap.size W v13) := Lib.hid (ext_trans Q.out hb)
          clear hb
          go_wp2_with fail
          refine ⟨fun _ => Q.out, ?_⟩
          refine tr_eff3 rfl ?_
          intro J hJ
          go_wp2_with fail
          refine ⟨fun _ => ext_trans Q.out (ext_alloc _ _), ?_⟩
          obtain ⟨v14, hu⟩ : ∃ u, u = World.alloc v13 (.cells #[.int .i64 0, .int .i64 0, .int .i64 0, .int .i64 0, .int .i64 0, .int .i64 0, .int .i64 0, .int .i64 0, .int .i64 0, .int .i64 0, .int .i64 0, .int .i64 0, .int .i64 0, .int .i64 0, .int .i64 0, .int .i64 0, .int .i64 0, .int .i64 0] 42) := ⟨_, rfl⟩
          rw [← hu]
          obtain ⟨p, hp⟩ : ∃ p, p = (v13).heap.size := ⟨_, rfl⟩
          have hpd : (v13).heap.size = p := hp.symm
          rw [hpd]
          have PA : Hid (v14.heap[p]? = some (.cells #[.int .i64 0, .int .i64 0, .int .i64 0, .int .i64 0, .int .i64 0, .int .i64 0, .int .i64 0, .int .i64 0, .int .i64 0, .int .i64 0, .int .i64 0, .int .i64 0, .int .i64 0, .int .i64 0, .int .i64 0, .int .i64 0, .int .i64 0, .int .i64 0] 42 (0, 0))) := by rw [hu, hp]; exact Go.heap_alloc_new _ _
          have PZ : W.heap.size ≤ p := by rw [hp]; exact Q.out.size
          have NE : p ≠ q := by have := (Array.getElem?_eq_some_iff.1 QA.out).1; omega
          have QA := Lib.hid (by rw [hu]; exact keepA QA.out : v14.heap[q]? = some (.cells #[.int .i64 0, .int .i64 0, .int .i64 0, .int .i64 0, .int .i64 0, .int .i64 0, .int .i64 0, .int .i64 0, .int .i64 0, .int .i64 0, .int .i64 0, .int .i64 0, .int .i64 0, .int .i64 0, .int .i64 0, .int .i64 0, .int .i64 0, .int .i64 0] 42 (0, 0)))
          have Q : Hid (Below W.heap.size W v14) := by rw [hu]; exact ext_trans Q.out (ext_alloc _ _)
          clear hu hp hpd
          refine tr_eff3 rfl ?_
          intro J hJ
          obtain ⟨x1, hs1, R1, B1, K1⟩ := store18 (w0 := W) LNA ONEA.out PA.out PZ Q.out
          go_wp2_with fail
          refine ⟨fun _ => B1, ?_⟩
          clear hs1
          refine tr_eff3 rfl ?_
          intro J2 hJ2
          have QA2 := (K1 q (fun e => NE e.symm)).trans QA.out
          obtain ⟨x2, hs2, R2, B2, K2⟩ := store18 (w0 := W) LNB ONEB.out QA2 QZ B1
          go_wp2_with fail
          refine ⟨fun h => absurd rfl h, ?_⟩
          clear hs2
          refine tr_nil3 (hJ0 _ _ ?_)
          go_wp2_with fail
          go_meet
          exact ⟨p, q, rfl, rfl, PZ, QZ, rangeAt_keep R1 (K2 p NE), R2, B2⟩
        · intro J hJ
          go_wp2_with fail
          refine ⟨fun _ => ext_trans Q.out (ext_alloc _ _), ?_⟩
          obtain ⟨v15, hu⟩ : ∃ u, u = World.alloc v12 (.cells #[.int .i64 0, .int .i64 0, .int .i64 0, .int .i64 0, .int .i64 0, .int .i64 0, .int .i64 0, .int .i64 0, .int .i64 0, .int .i64 0, .int .i64 0, .int .i64 0, .int .i64 0, .int .i64 0, .int .i64 0, .int .i64 0, .int .i64 0, .int .i64 0] 42) := ⟨_, rfl⟩
          rw [← hu]
          obtain ⟨p, hp⟩ : ∃ p, p = (v12).heap.size := ⟨_, rfl⟩
          have hpd : (v12).heap.size = p := hp.symm
          rw [hpd]
          have PA : Hid (v15.heap[p]? = some (.cells #[.int .i64 0, .int .i64 0, .int .i64 0, .int .i64 0, .int .i64 0, .int .i64 0, .int .i64 0, .int .i64 0, .int .i64 0, .int .i64 0, .int .i64 0, .int .i64 0, .int .i64 0, .int .i64 0, .int .i64 0, .int .i64 0, .int .i64 0, .int .i64 0] 42 (0, 0))) := by rw [hu, hp]; exact Go.heap_alloc_new _ _
          have PZ : W.heap.size ≤ p := by rw [hp]; exact Q.out.size
          have NE : p ≠ q := by have := (Array.getElem?_eq_some_iff.1 QA.out).1; omega
          have QA := Lib.hid (by rw [hu]; exact keepA QA.out : v15.heap[q]? = some (.cells #[.int .i64 0, .int .i64 0, .int .i64 0, .int .i64 0, .int .i64 0, .int .i64 0, .int .i64 0, .int .i64 0, .int .i64 0, .int .i64 0, .int .i64 0, .int .i64 0, .int .i64 0, .int .i64 0, .int .i64 0, .int .i64 0, .int .i64 0, .int .i64 0] 42 (0, 0)))
          have Q : Hid (Below W.heap.size W v15) := by rw [hu]; exact ext_trans Q.out (ext_alloc _ _)
          clear hu hp hpd
          refine tr_eff3 rfl ?_
          intro J hJ
          go_wp2_with fail
          try rw [← show digV b = .agg #[.int .u8 (byt b 0), .int .u8 (byt b 1), .int .u8 (byt b 2), .int .u8 (byt b 3), .int .u8 (byt b 4), .int .u8 (byt b 5), .int .u8 (byt b 6), .int .u8 (byt b 7)] from rfl]
          refine (reach_c _ b).mono ?_
          rw [HVB.out]
          rintro e v16 ⟨rfl, hb⟩
          have PA := Lib.hid (keepB hb PA.out)
          have QA := Lib.hid (keepB hb QA.out)
          have Q : Hid (Below W.heap.size W v16) := Lib.hid (ext_trans Q.out hb)
          clear hb
          go_wp2_with fail
          refine ⟨fun _ => Q.out, ?_⟩
          refine tr_eff3 rfl ?_
          intro J hJ
          obtain ⟨x1, hs1, R1, B1, K1⟩ := store18 (w0 := W) LNA ONEA.out PA.out PZ Q.out
          go_wp2_with fail
          refine ⟨fun _ => B1, ?_⟩
          clear hs1
          refine tr_eff3 rfl ?_
          intro J2 hJ2
          have QA2 := (K1 q (fun e => NE e.symm)).trans QA.out
          obtain ⟨x2, hs2, R2, B2, K2⟩ := store18 (w0 := W) LNB ONEB.out QA2 QZ B1
          go_wp2_with fail
          refine ⟨fun h => absurd rfl h, ?_⟩
          clear hs2
          refine tr_nil3 (hJ0 _ _ ?_)
          go_wp2_with fail
          go_meet
          exact ⟨p, q, rfl, rfl, PZ, QZ, rangeAt_keep R1 (K2 p NE), R2, B2⟩
    · intro J hJ
      go_wp2_with fail
      refine ⟨fun _ => ext_trans Q.out (ext_alloc _ _), ?_⟩
      obtain ⟨v17, hu⟩ : ∃ u, u = World.alloc V0 (.cells #[.int .i64 0, .int .i64 0, .int .i64 0, .int .i64 0, .int .i64 0, .int .i64 0, .int .i64 0, .int .i64 0, .int .i64 0, .int .i64 0, .int .i64 0, .int .i64 0, .int .i64 0, .int .i64 0, .int .i64 0, .int .i64 0, .int .i64 0, .int .i64 0] 42) := ⟨_, rfl⟩
      rw [← hu]
      obtain ⟨p, hp⟩ : ∃ p, p = (V0).heap.size := ⟨_, rfl⟩
      have hpd : (V0).heap.size = p := hp.symm
      rw [hpd]
      have PA : Hid (v17.heap[p]? = some (.cells #[.int .i64 0, .int .i64 0, .int .i64 0, .int .i64 0, .int .i64 0, .int .i64 0, .int .i64 0, .int .i64 0, .int .i64 0, .int .i64 0, .int .i64 0, .int .i64 0, .int .i64 0, .int .i64 0, .int .i64 0, .int .i64 0, .int .i64 0, .int .i64 0] 42 (0, 0))) := by rw [hu, hp]; exact Go.heap_alloc_new _ _
      have PZ : W.heap.size ≤ p := by rw [hp]; exact Q.out.size
      have Q : Hid (Below W.heap.size W v17) := by rw [hu]; exact ext_trans Q.out (ext_alloc _ _)
      clear hu hp hpd
      refine tr_two3 rfl rfl ?_ ?_
      · intro J hJ
        go_wp2_with fail
        try rw [← show digV a = .agg #[.int .u8 (byt a 0), .int .u8 (byt a 1), .int .u8 (byt a 2), .int .u8 (byt a 3), .int .u8 (byt a 4), .int .u8 (byt a 5), .int .u8 (byt a 6), .int .u8 (byt a 7)] from rfl]
        refine (reach_c _ a).mono ?_
        rw [HVA.out]
        rintro e v18 ⟨rfl, hb⟩
        have PA := Lib.hid (keepB hb PA.out)
        have Q : Hid (Below W.heap.size W v18) := Lib.hid (ext_trans Q.out hb)
        clear hb
        go_wp2_with fail
        refine ⟨fun _ => Q.out, ?_⟩
        refine tr_two3 rfl rfl ?_ ?_
        · intro J hJ
          go_wp2_with fail
          try rw [← show digV b = .agg #[.int .u8 (byt b 0), .int .u8 (byt b 1), .int .u8 (byt b 2), .int .u8 (byt b 3), .int .u8 (byt b 4), .int .u8 (byt b 5), .int .u8 (byt b 6), .int .u8 (byt b 7)] from rfl]
          refine (reach_c _ b).mono ?_
          rw [HVB.out]
          rintro e v19 ⟨rfl, hb⟩
          have PA := Lib.hid (keepB hb PA.out)
          have Q : Hid (Below W.heap.size W v19) := Lib.hid (ext_trans Q.out hb)
          clear hb
          go_wp2_with fail
          refine ⟨fun _ => Q.out, ?_⟩
          refine tr_eff3 rfl ?_
          intro J hJ
          go_wp2_with fail
          refine ⟨fun _ => ext_trans Q.out (ext_alloc _ _), ?_⟩
          obtain ⟨v20, hu⟩ : ∃ u, u = World.alloc v19 (.cells #[.int .i64 0, .int .i64 0, .int .i64 0, .int .i64 0, .int .i64 0, .int .i64 0, .int .i64 0, .int .i64 0, .int .i64 0, .int .i64 0, .int .i64 0, .int .i64 0, .int .i64 0, .int .i64 0, .int .i64 0, .int .i64 0, .int .i64 0, .int .i64 0] 42) := ⟨_, rfl⟩
          rw [← hu]
          obtain ⟨q, hp⟩ : ∃ p, p = (v19).heap.size := ⟨_, rfl⟩
          have hpd : (v19).heap.size = q := hp.symm
          rw [hpd]
          have QA : Hid (v20.heap[q]? = some (.cells #[.int .i64 0, .int .i64 0, .int .i64 0, .int .i64 0, .int .i64 0, .int .i64 0, .int .i64 0, .int .i64 0, .int .i64 0, .int .i64 0, .int .i64 0, .int .i64 0, .int .i64 0, .int .i64 0, .int .i64 0, .int .i64 0, .int .i64 0, .int .i64 0] 42 (0, 0))) := by rw [hu, hp]; exact Go.heap_alloc_new _ _
          have QZ : W.heap.size ≤ q := by rw [hp]; exact Q.out.size
          have NE : p ≠ q := by have := (Array.getElem?_eq_some_iff.1 PA.out).1; omega
          have PA := Lib.hid (by rw [hu]; exact keepA PA.out : v20.heap[p]? = some (.cells #[.int .i64 0, .int .i64 0, .int .i64 0, .int .i64 0, .int .i64 0, .int .i64 0, .int .i64 0, .int .i64 0, .int .i64 0, .int .i64 0, .int .i64 0, .int .i64 0, .int .i64 0, .int .i64 0, .int .i64 0, .int .i64 0, .int .i64 0, .int .i64 0] 42 (0, 0)))
          have Q : Hid (Below W.heap.size W v20) := by rw [hu]; exact ext_trans Q.out (ext_alloc _ _)
          clear hu hp hpd
          refine tr_eff3 rfl ?_
          intro J hJ
          obtain ⟨x1, hs1, R1, B1, K1⟩ := store18 (w0 := W) LNA ONEA.out PA.out PZ Q.out
          go_wp2_with fail
          refine ⟨fun _ => B1, ?_⟩
          clear hs1
          refine tr_eff3 rfl ?_
          intro J2 hJ2
          have QA2 := (K1 q (fun e => NE e.symm)).trans QA.out
          obtain ⟨x2, hs2, R2, B2, K2⟩ := store18 (w0 := W) LNB ONEB.out QA2 QZ B1
          go_wp2_with fail
          refine ⟨fun h => absurd rfl h, ?_⟩
          clear hs2
          refine tr_nil3 (hJ0 _ _ ?_)
          go_wp2_with fail
          go_meet
          exact ⟨p, q, rfl, rfl, PZ, QZ, rangeAt_keep R1 (K2 p NE), R2, B2⟩
        · intro J hJ
          go_wp2_with fail
          refine ⟨fun _ => ext_trans Q.out (ext_alloc _ _), ?_⟩
          obtain ⟨v21, hu⟩ : ∃ u, u = World.alloc v18 (.cells #[.int .i64 0, .int .i64 0, .int .i64 0, .int .i64 0, .int .i64 0, .int .i64 0, .int .i64 0, .int .i64 0, .int .i64 0, .int .i64 0, .int .i64 0, .int .i64 0, .int .i64 0, .int .i64 0, .int .i64 0, .int .i64 0, .int .i64 0, .int .i64 0] 42) := ⟨_, rfl⟩
          rw [← hu]
          obtain ⟨q, hp⟩ : ∃ p, p = (v18).heap.size := ⟨_, rfl⟩
          have hpd : (v18).heap.size = q := hp.symm
          rw [hpd]
          have QA : Hid (v21.heap[q]? = some (.cells #[.int .i64 0, .int .i64 0, .int .i64 0, .int .i64 0, .int .i64 0, .int .i64 0, .int .i64 0, .int .i64 0, .int .i64 0, .int .i64 0, .int .i64 0, .int .i64 0, .int .i64 0, .int .i64 0, .int .i64 0, .int .i64 0, .int .i64 0, .int .i64 0] 42 (0, 0))) := by rw [hu, hp]; exact Go.heap_alloc_new _ _
          have QZ : W.heap.size ≤ q := by rw [hp]; exact Q.out.size
          have NE : p ≠ q := by have := (Array.getElem?_eq_some_iff.1 PA.out).1; omega
          have PA := Lib.hid (by rw [hu]; exact keepA PA.out : v21.heap[p]? = some (.cells #[.int .i64 0, .int .i64 0, .int .i64 0, .int .i64 0, .int .i64 0, .int .i64 0, .int .i64 0, .int .i64 0, .int .i64 0, .int .i64 0, .int .i64 0, .int .i64 0, .int .i64 0, .int .i64 0, .int .i64 0, .int .i64 0, .int .i64 0, .int .i64 0] 42 (0, 0)))
          have Q : Hid (Below W.heap.size W v21) := by rw [hu]; exact ext_trans Q.out (ext_alloc _ _)
          clear hu hp hpd
          refine tr_eff3 rfl ?_
          intro J hJ
          go_wp2_with fail
          try rw [← show digV b = .agg #[.int .u8 (byt b 0), .int .u8 (byt b 1), .int .u8 (byt b 2), .int .u8 (byt b 3), .int .u8 (byt b 4), .int .u8 (byt b 5), .int .u8 (byt b 6), .int .u8 (byt b 7)] from rfl]
          refine (reach_c _ b).mono ?_
          rw [HVB.out]
          rintro e v22 ⟨rfl, hb⟩
          have PA := Lib.hid (keepB hb PA.out)
          have QA := Lib.hid (keepB hb QA.out)
          have Q : Hid (Below W.heap.size W v22) := Lib.hid (ext_trans Q.out hb)
          clear hb
          go_wp2_with fail
          refine ⟨fun _ => Q.out, ?_⟩
          refine tr_eff3 rfl ?_
          intro J hJ
          obtain ⟨x1, hs1, R1, B1, K1⟩ := store18 (w0 := W) LNA ONEA.out PA.out PZ Q.out
          go_wp2_with fail
          refine ⟨fun _ => B1, ?_⟩
          clear hs1
          refine tr_eff3 rfl ?_
          intro J2 hJ2
          have QA2 := (K1 q (fun e => NE e.symm)).trans QA.out
          obtain ⟨x2, hs2, R2, B2, K2⟩ := store18 (w0 := W) LNB ONEB.out QA2 QZ B1
          go_wp2_with fail
          refine ⟨fun h => absurd rfl h, ?_⟩
          clear hs2
          refine tr_nil3 (hJ0 _ _ ?_)
          go_wp2_with fail
          go_meet
          exact ⟨p, q, rfl, rfl, PZ, QZ, rangeAt_keep R1 (K2 p NE), R2, B2⟩
      · intro J hJ
        go_wp2_with fail
        refine ⟨fun _ => ext_trans Q.out (ext_alloc _ _), ?_⟩
        obtain ⟨v23, hu⟩ : ∃ u, u = World.alloc v17 (.cells #[.int .i64 0, .int .i64 0, .int .i64 0, .int .i64 0, .int .i64 0, .int .i64 0, .int .i64 0, .int .i64 0, .int .i64 0, .int .i64 0, .int .i64 0, .int .i64 0, .int .i64 0, .int .i64 0, .int .i64 0, .int .i64 0, .int .i64 0, .int .i64 0] 42) := ⟨_, rfl⟩
        rw [← hu]
        obtain ⟨q, hp⟩ : ∃ p, p = (v17).heap.size := ⟨_, rfl⟩
        have hpd : (v17).heap.size = q := hp.symm
        rw [hpd]
        have QA : Hid (v23.heap[q]? = some (.cells #[.int .i64 0, .int .i64 0, .int .i64 0, .int .i64 0, .int .i64 0, .int .i64 0, .int .i64 0, .int .i64 0, .int .i64 0, .int .i64 0, .int .i64 0, .int .i64 0, .int .i64 0, .int .i64 0, .int .i64 0, .int .i64 0, .int .i64 0, .int .i64 0] 42 (0, 0))) := by rw [hu, hp]; exact Go.heap_alloc_new _ _
        have QZ : W.heap.size ≤ q := by rw [hp]; exact Q.out.size
        have NE : p ≠ q := by have := (Array.getElem?_eq_some_iff.1 PA.out).1; omega
        have PA := Lib.hid (by rw [hu]; exact keepA PA.out : v23.heap[p]? = some (.cells #[.int .i64 0, .int .i64 0, .int .i64 0, .int .i64 0, .int .i64 0, .int .i64 0, .int .i64 0, .int .i64 0, .int .i64 0, .int .i64 0, .int .i64 0, .int .i64 0, .int .i64 0, .int .i64 0, .int .i64 0, .int .i64 0, .int .i64 0, .int .i64 0] 42 (0, 0)))
        have Q : Hid (Below W.heap.size W v23) := by rw [hu]; exact ext_trans Q.out (ext_alloc _ _)
        clear hu hp hpd
        refine tr_eff3 rfl ?_
        intro J hJ
        go_wp2_with fail
        try rw [← show digV a = .agg #[.int .u8 (byt a 0), .int .u8 (byt a 1), .int .u8 (byt a 2), .int .u8 (byt a 3), .int .u8 (byt a 4), .int .u8 (byt a 5), .int .u8 (byt a 6), .int .u8 (byt a 7)] from rfl]
        refine (reach_c _ a).mono ?_
        rw [HVA.out]
        rintro e v24 ⟨rfl, hb⟩
        have PA := Lib.hid (keepB hb PA.out)
        have QA := Lib.hid (keepB hb QA.out)
        have Q : Hid (Below W.heap.size W v24) := Lib.hid (ext_trans Q.out hb)
        clear hb
        go_wp2_with fail
        refine ⟨fun _ => Q.out, ?_⟩
        refine tr_eff3 rfl ?_
        intro J hJ
        go_wp2_with fail
        try rw [← show digV b = .agg #[.int .u8 (byt b 0), .int .u8 (byt b 1), .int .u8 (byt b 2), .int .u8 (byt b 3), .int .u8 (byt b 4), .int .u8 (byt b 5), .int .u8 (byt b 6), .int .u8 (byt b 7)] from rfl]
        refine (reach_c _ b).mono ?_
        rw [HVB.out]
        rintro e v25 ⟨rfl, hb⟩
        have PA := Lib.hid (keepB hb PA.out)
        have QA := Lib.hid (keepB hb QA.out)
        have Q : Hid (Below W.heap.size W v25) := Lib.hid (ext_trans Q.out hb)
        clear hb
        go_wp2_with fail
        refine ⟨fun _ => Q.out, ?_⟩
        refine tr_eff3 rfl ?_
        intro J hJ
        obtain ⟨x1, hs1, R1, B1, K1⟩ := store18 (w0 := W) LNA ONEA.out PA.out PZ Q.out
        go_wp2_with fail
        refine ⟨fun _ => B1, ?_⟩
        clear hs1
        refine tr_eff3 rfl ?_
        intro J2 hJ2
        have QA2 := (K1 q (fun e => NE e.symm)).trans QA.out
        obtain ⟨x2, hs2, R2, B2, K2⟩ := store18 (w0 := W) LNB ONEB.out QA2 QZ B1
        go_wp2_with fail
        refine ⟨fun h => absurd rfl h, ?_⟩
        clear hs2
        refine tr_nil3 (hJ0 _ _ ?_)
        go_wp2_with fail
        go_meet
        exact ⟨p, q, rfl, rfl, PZ, QZ, rangeAt_keep R1 (K2 p NE), R2, B2⟩
    · intro J hJ
      go_wp2_with fail
      refine ⟨fun _ => ext_trans Q.out (ext_alloc _ _), ?_⟩
      obtain ⟨v26, hu⟩ : ∃ u, u = World.alloc V0 (.cells #[.int .i64 0, .int .i64 0, .int .i64 0, .int .i64 0, .int .i64 0, .int .i64 0, .int .i64 0, .int .i64 0, .int .i64 0, .int .i64 0, .int .i64 0, .int .i64 0, .int .i64 0, .int .i64 0, .int .i64 0, .int .i64 0, .int .i64 0, .int .i64 0] 42) := ⟨_, rfl⟩
      rw [← hu]
      obtain ⟨q, hp⟩ : ∃ p, p = (V0).heap.size := ⟨_, rfl⟩
      have hpd : (V0).heap.size = q := hp.symm
      rw [hpd]
      have QA : Hid (v26.heap[q]? = some (.cells #[.int .i64 0, .int .i64 0, .int .i64 0, .int .i64 0, .int .i64 0, .int .i64 0, .int .i64 0, .int .i64 0, .int .i64 0, .int .i64 0, .int .i64 0, .int .i64 0, .int .i64 0, .int .i64 0, .int .i64 0, .int .i64 0, .int .i64 0, .int .i64 0] 42 (0, 0))) := by rw [hu, hp]; exact Go.heap_alloc_new _ _
      have QZ : W.heap.size ≤ q := by rw [hp]; exact Q.out.size
      have Q : Hid (Below W.heap.size W v26) := by rw [hu]; exact ext_trans Q.out (ext_alloc _ _)
      clear hu hp hpd
      refine tr_two3 rfl rfl ?_ ?_
      · intro J hJ
        go_wp2_with fail
        try rw [← show digV a = .agg #[.int .u8 (byt a 0), .int .u8 (byt a 1), .int .u8 (byt a 2), .int .u8 (byt a 3), .int .u8 (byt a 4), .int .u8 (byt a 5), .int .u8 (byt a 6), .int .u8 (byt a 7)] from rfl]
        refine (reach_c _ a).mono ?_
        rw [HVA.out]
        rintro e v27 ⟨rfl, hb⟩
        have QA := Lib.hid (keepB hb QA.out)
        have Q : Hid (Below W.heap.size W v27) := Lib.hid (ext_trans Q.out hb)
        clear hb
        go_wp2_with fail
        refine ⟨fun _ => Q.out, ?_⟩
        refine tr_two3 rfl rfl ?_ ?_
        · intro J hJ
          go_wp2_with fail
          try rw [← show digV b = .agg #[.int .u8 (byt b 0), .int .u8 (byt b 1), .int .u8 (byt b 2), .int .u8 (byt b 3), .int .u8 (byt b 4), .int .u8 (byt b 5), .int .u8 (byt b 6), .int .u8 (byt b 7)] from rfl]
          refine (reach_c _ b).mono ?_
          rw [HVB.out]
          rintro e v28 ⟨rfl, hb⟩
          have QA := Lib.hid (keepB hb QA.out)
          have Q : Hid (Below W.heap.size W v28) := Lib.hid (ext_trans Q.out hb)
          clear hb
          go_wp2_with fail
          refine ⟨fun _ => Q.out, ?_⟩
          refine tr_eff3 rfl ?_
          intro J hJ
          go_wp2_with fail
          refine ⟨fun _ => ext_trans Q.out (ext_alloc _ _), ?_⟩
          obtain ⟨v29, hu⟩ : ∃ u, u = World.alloc v28 (.cells #[.int .i64 0, .int .i64 0, .int .i64 0, .int .i64 0, .int .i64 0, .int .i64 0, .int .i64 0, .int .i64 0, .int .i64 0, .int .i64 0, .int .i64 0, .int .i64 0, .int .i64 0, .int .i64 0, .int .i64 0, .int .i64 0, .int .i64 0, .int .i64 0] 42) := ⟨_, rfl⟩
          rw [← hu]
          obtain ⟨p, hp⟩ : ∃ p, p = (v28).heap.size := ⟨_, rfl⟩
          have hpd : (v28).heap.size = p := hp.symm
          rw [hpd]
          have PA : Hid (v29.heap[p]? = some (.cells #[.int .i64 0, .int .i64 0, .int .i64 0, .int .i64 0, .int .i64 0, .int .i64 0, .int .i64 0, .int .i64 0, .int .i64 0, .int .i64 0, .int .i64 0, .int .i64 0, .int .i64 0, .int .i64 0, .int .i64 0, .int .i64 0, .int .i64 0, .int .i64 0] 42 (0, 0))) := by rw [hu, hp]; exact Go.heap_alloc_new _ _
          have PZ : W.heap.size ≤ p := by rw [hp]; exact Q.out.size
          have NE : p ≠ q := by have := (Array.getElem?_eq_some_iff.1 QA.out).1; omega
          have QA := Lib.hid (by rw [hu]; exact keepA QA.out : v29.heap[q]? = some (.cells #[.int .i64 0, .int .i64 0, .int .i64 0, .int .i64 0, .int .i64 0, .int .i64 0, .int .i64 0, .int .i64 0, .int .i64 0, .int .i64 0, .int .i64 0, .int .i64 0, .int .i64 0, .int .i64 0, .int .i64 0, .int .i64 0, .int .i64 0, .int .i64 0] 42 (0, 0)))
          have Q : Hid (Below W.heap.size W v29) := by rw [hu]; exact ext_trans Q.out (ext_alloc _ _)
          clear hu hp hpd
          refine tr_eff3 rfl ?_
          intro J hJ
          obtain ⟨x1, hs1, R1, B1, K1⟩ := store18 (w0 := W) LNA ONEA.out PA.out PZ Q.out
          go_wp2_with fail
          refine ⟨fun _ => B1, ?_⟩
          clear hs1
          refine tr_eff3 rfl ?_
          intro J2 hJ2
          have QA2 := (K1 q (fun e => NE e.symm)).trans QA.out
          obtain ⟨x2, hs2, R2, B2, K2⟩ := store18 (w0 := W) LNB ONEB.out QA2 QZ B1
          go_wp2_with fail
          refine ⟨fun h => absurd rfl h, ?_⟩
          clear hs2
          refine tr_nil3 (hJ0 _ _ ?_)
          go_wp2_with fail
          go_meet
          exact ⟨p, q, rfl, rfl, PZ, QZ, rangeAt_keep R1 (K2 p NE), R2, B2⟩
        · intro J hJ
          go_wp2_with fail
          refine ⟨fun _ => ext_trans Q.out (ext_alloc _ _), ?_⟩
          obtain ⟨v30, hu⟩ : ∃ u, u = World.alloc v27 (.cells #[.int .i64 0, .int .i64 0, .int .i64 0, .int .i64 0, .int .i64 0, .int .i64 0, .int .i64 0, .int .i64 0, .int .i64 0, .int .i64 0, .int .i64 0, .int .i64 0, .int .i64 0, .int .i64 0, .int .i64 0, .int .i64 0, .int .i64 0, .int .i64 0] 42) := ⟨_, rfl⟩
          rw [← hu]
          obtain ⟨p, hp⟩ : ∃ p, p = (v27).heap.size := ⟨_, rfl⟩
          have hpd : (v27).heap.size = p := hp.symm
          rw [hpd]
          have PA : Hid (v30.heap[p]? = some (.cells #[.int .i64 0, .int .i64 0, .int .i64 0, .int .i64 0, .int .i64 0, .int .i64 0, .int .i64 0, .int .i64 0, .int .i64 0, .int .i64 0, .int .i64 0, .int .i64 0, .int .i64 0, .int .i64 0, .int .i64 0, .int .i64 0, .int .i64 0, .int .i64 0] 42 (0, 0))) := by rw [hu, hp]; exact Go.heap_alloc_new _ _
          have PZ : W.heap.size ≤ p := by rw [hp]; exact Q.out.size
          have NE : p ≠ q := by have := (Array.getElem?_eq_some_iff.1 QA.out).1; omega
          have QA := Lib.hid (by rw [hu]; exact keepA QA.out : v30.heap[q]? = some (.cells #[.int .i64 0, .int .i64 0, .int .i64 0, .int .i64 0, .int .i64 0, .int .i64 0, .int .i64 0, .int .i64 0, .int .i64 0, .int .i64 0, .int .i64 0, .int .i64 0, .int .i64 0, .int .i64 0, .int .i64 0, .int .i64 0, .int .i64 0, .int .i64 0] 42 (0, 0)))
          have Q : Hid (Below W.heap.size W v30) := by rw [hu]; exact ext_trans Q.out (ext_alloc _ _)
          clear hu hp hpd
          refine tr_eff3 rfl ?_
          intro J hJ
          go_wp2_with fail
          try rw [← show digV b = .agg #[.int .u8 (byt b 0), .int .u8 (byt b 1), .int .u8 (byt b 2), .int .u8 (byt b 3), .int .u8 (byt b 4), .int .u8 (byt b 5), .int .u8 (byt b 6), .int .u8 (byt b 7)] from rfl]
          refine (reach_c _ b).mono ?_
          rw [HVB.out]
          rintro e v31 ⟨rfl, hb⟩
          have PA := Lib.hid (keepB hb PA.out)
          have QA := Lib.hid (keepB hb QA.out)
          have Q : Hid (Below W.heap.size W v31) := Lib.hid (ext_trans Q.out hb)
          clear hb
          go_wp2_with fail
          refine ⟨fun _ => Q.out, ?_⟩
          refine tr_eff3 rfl ?_
          intro J hJ
          obtain ⟨x1, hs1, R1, B1, K1⟩ := store18 (w0 := W) LNA ONEA.out PA.out PZ Q.out
          go_wp2_with fail
          refine ⟨fun _ => B1, ?_⟩
          clear hs1
          refine tr_eff3 rfl ?_
          intro J2 hJ2
          have QA2 := (K1 q (fun e => NE e.symm)).trans QA.out
          obtain ⟨x2, hs2, R2, B2, K2⟩ := store18 (w0 := W) LNB ONEB.out QA2 QZ B1
          go_wp2_with fail
          refine ⟨fun h => absurd rfl h, ?_⟩
          clear hs2
          refine tr_nil3 (hJ0 _ _ ?_)
          go_wp2_with fail
          go_meet
          exact ⟨p, q, rfl, rfl, PZ, QZ, rangeAt_keep R1 (K2 p NE), R2, B2⟩
      · intro J hJ
        go_wp2_with fail
        refine ⟨fun _ => ext_trans Q.out (ext_alloc _ _), ?_⟩
        obtain ⟨v32, hu⟩ : ∃ u, u = World.alloc v26 (.cells #[.int .i64 0, .int .i64 0, .int .i64 0, .int .i64 0, .int .i64 0, .int .i64 0, .int .i64 0, .int .i64 0, .int .i64 0, .int .i64 0, .int .i64 0, .int .i64 0, .int .i64 0, .int .i64 0, .int .i64 0, .int .i64 0, .int .i64 0, .int .i64 0] 42) := ⟨_, rfl⟩
        rw [← hu]
        obtain ⟨p, hp⟩ : ∃ p, p = (v26).heap.size := ⟨_, rfl⟩
        have hpd : (v26).heap.size = p := hp.symm
        rw [hpd]
        have PA : Hid (v32.heap[p]? = some (.cells #[.int .i64 0, .int .i64 0, .int .i64 0, .int .i64 0, .int .i64 0, .int .i64 0, .int .i64 0, .int .i64 0, .int .i64 0, .int .i64 0, .int .i64 0, .int .i64 0, .int .i64 0, .int .i64 0, .int .i64 0, .int .i64 0, .int .i64 0, .int .i64 0] 42 (0, 0))) := by rw [hu, hp]; exact Go.heap_alloc_new _ _
        have PZ : W.heap.size ≤ p := by rw [hp]; exact Q.out.size
        have NE : p ≠ q := by have := (Array.getElem?_eq_some_iff.1 QA.out).1; omega
        have QA := Lib.hid (by rw [hu]; exact keepA QA.out : v32.heap[q]? = some (.cells #[.int .i64 0, .int .i64 0, .int .i64 0, .int .i64 0, .int .i64 0, .int .i64 0, .int .i64 0, .int .i64 0, .int .i64 0, .int .i64 0, .int .i64 0, .int .i64 0, .int .i64 0, .int .i64 0, .int .i64 0, .int .i64 0, .int .i64 0, .int .i64 0] 42 (0, 0)))
        have Q : Hid (Below W.heap.size W v32) := by rw [hu]; exact ext_trans Q.out (ext_alloc _ _)
        clear hu hp hpd
        refine tr_eff3 rfl ?_
        intro J hJ
        go_wp2_with fail
        try rw [← show digV a = .agg #[.int .u8 (byt a 0), .int .u8 (byt a 1), .int .u8 (byt a 2), .int .u8 (byt a 3), .int .u8 (byt a 4), .int .u8 (byt a 5), .int .u8 (byt a 6), .int .u8 (byt a 7)] from rfl]
        refine (reach_c _ a).mono ?_
        rw [HVA.out]
        rintro e v33 ⟨rfl, hb⟩
        have PA := Lib.hid (keepB hb PA.out)
        have QA := Lib.hid (keepB hb QA.out)
        have Q : Hid (Below W.heap.size W v33) := Lib.hid (ext_trans Q.out hb)
        clear hb
        go_wp2_with fail
        refine ⟨fun _ => Q.out, ?_⟩
        refine tr_eff3 rfl ?_
        intro J hJ
        go_wp2_with fail
        try rw [← show digV b = .agg #[.int .u8 (byt b 0), .int .u8 (byt b 1), .int .u8 (byt b 2), .int .u8 (byt b 3), .int .u8 (byt b 4), .int .u8 (byt b 5), .int .u8 (byt b 6), .int .u8 (byt b 7)] from rfl]
        refine (reach_c _ b).mono ?_
        rw [HVB.out]
        rintro e v34 ⟨rfl, hb⟩
        have PA := Lib.hid (keepB hb PA.out)
        have QA := Lib.hid (keepB hb QA.out)
        have Q : Hid (Below W.heap.size W v34) := Lib.hid (ext_trans Q.out hb)
        clear hb
        go_wp2_with fail
        refine ⟨fun _ => Q.out, ?_⟩
        refine tr_eff3 rfl ?_
        intro J hJ
        obtain ⟨x1, hs1, R1, B1, K1⟩ := store18 (w0 := W) LNA ONEA.out PA.out PZ Q.out
        go_wp2_with fail
        refine ⟨fun _ => B1, ?_⟩
        clear hs1
        refine tr_eff3 rfl ?_
        intro J2 hJ2
        have QA2 := (K1 q (fun e => NE e.symm)).trans QA.out
        obtain ⟨x2, hs2, R2, B2, K2⟩ := store18 (w0 := W) LNB ONEB.out QA2 QZ B1
        go_wp2_with fail
        refine ⟨fun h => absurd rfl h, ?_⟩
        clear hs2
        refine tr_nil3 (hJ0 _ _ ?_)
        go_wp2_with fail
        go_meet
        exact ⟨p, q, rfl, rfl, PZ, QZ, rangeAt_keep R1 (K2 p NE), R2, B2⟩
  case rest =>
    obtain ⟨p, q, rfl, rfl, hp, hq, RA', RB', hbw⟩ := hcut
    rename World => V
    have RA := Lib.hid RA'
    have RB := Lib.hid RB'
    have zp : p < V.heap.size := rangeAt_lt RA' (by omega)
    have zq : q < V.heap.size := rangeAt_lt RB' (by omega)
    replace O1 := Lib.hid (O1.out.ext hbw)
    replace O2 := Lib.hid (O2.out.ext hbw)
    replace B := Lib.hid (ext_trans B.out hbw)
    clear hbw RA' RB' DA DB
    go_wp2_with fail
    go_loopw [11] (fun iv wr => ∃ k : Nat, k ≤ 18 ∧ iv = .int .i64 k ∧ Hid (Below V.heap.size V wr)) (fun iv _ => 18 - (intOf iv).toNat)
    case atStart => exact ⟨0, by omega, rfl, Below.refl _ _⟩
    case round =>
      rename World => W3
      obtain ⟨k, hk, rfl, BW⟩ := hrel
      by_cases hlt : k < 18
      · have hltI : (k : Int) < 18 := by omega
        have hkI : (0 : Int) ≤ (k : Int) := by omega
        have Lg : begN s k < 18446744073709551616 := begN_lt hs (by omega)
        obtain ⟨d, hd⟩ : ∃ d, d = dg a k := ⟨_, rfl⟩
        obtain ⟨f, hf⟩ : ∃ f, f = dg b k := ⟨_, rfl⟩
        have ld : d < 16 := by rw [hd]; exact dg_lt a k
        have lf : f < 16 := by rw [hf]; exact dg_lt b k
        obtain ⟨x, hx⟩ : ∃ x, x = chainI (begN s k) (d : Int) := ⟨_, rfl⟩
        obtain ⟨y, hy⟩ : ∃ y, y = chainI (begN s k) (f : Int) := ⟨_, rfl⟩
        have Lx : x < 18446744073709551616 := by rw [hx]; exact chainI_lt Lg _
        have Ly : y < 18446744073709551616 := by rw [hy]; exact chainI_lt Lg _
        have S1 : Hid (shownR SA (k : Int) = (x, true)) := by show _ = _; rw [SHA.out k hlt, hx, hd]
        have S2 : Hid (shownR SB (k : Int) = (y, true)) := by show _ = _; rw [SHB.out k hlt, hy, hf]
        have ca0 : V.cell? ⟨p, k, none⟩ = some (.int .i64 d) := by
          have := RA.out k _ (GETA.out k hlt)
          rwa [Nat.zero_add, ← hd] at this
        have cb0 : V.cell? ⟨q, k, none⟩ = some (.int .i64 f) := by
          have := RB.out k _ (GETB.out k hlt)
          rwa [Nat.zero_add, ← hf] at this
        have E1 := neq_d Lx Lx
        rw [decide_eq_true rfl] at E1
        have G1 := guard_d .neq x x
        have E2 := neq_d Ly Ly
        rw [decide_eq_true rfl] at E2
        have G2 := guard_d .neq y y
        have U1 : Hid (f ≤ d → chainI y ((d : Int) - (f : Int)) = x) := fun h => by
          rw [hy, hx, show (d : Int) - (f : Int) = ((d - f : Nat) : Int) by omega, chainI_add _ _ _ lf (by omega), show f + (d - f) = d by omega]
        have U2 : Hid (d < f → chainI x ((f : Int) - (d : Int)) = y) := fun h => by
          rw [hy, hx, show (f : Int) - (d : Int) = ((f - d : Nat) : Int) by omega, chainI_add _ _ _ ld (by omega), show d + (f - d) = f by omega]
        clear hx hy hd hf
        unfold digV at E1 E2 G1 G2
        go_wp2_with fail
        refine (shown_c _ _ 144 c1 SA (Lib.hid (O1.out.ext BW.out)) k).mono ?_
        unfold Shows
        rw [S1.out]
        unfold digV
        rintro e w4 ⟨rfl, hb⟩
        replace hb := ext_trans hb (ext_alloc w4 (.cells #[.int .u8 (byt x 0), .int .u8 (byt x 1), .int .u8 (byt x 2), .int .u8 (byt x 3), .int .u8 (byt x 4), .int .u8 (byt x 5), .int .u8 (byt x 6), .int .u8 (byt x 7)] 31))
        have DX : Hid ((World.alloc w4 (.cells #[.int .u8 (byt x 0), .int .u8 (byt x 1), .int .u8 (byt x 2), .int .u8 (byt x 3), .int .u8 (byt x 4), .int .u8 (byt x 5), .int .u8 (byt x 6), .int .u8 (byt x 7)] 31)).heap[w4.heap.size]? = some (.cells #[.int .u8 (byt x 0), .int .u8 (byt x 1), .int .u8 (byt x 2), .int .u8 (byt x 3), .int .u8 (byt x 4), .int .u8 (byt x 5), .int .u8 (byt x 6), .int .u8 (byt x 7)] 31 (0, 0))) := Go.heap_alloc_new w4 _
        replace BW := Lib.hid (ext_trans BW.out hb)
        clear hb
        go_upto_region 7 with fail
        generalize World.alloc w4 (.cells #[.int .u8 (byt x 0), .int .u8 (byt x 1), .int .u8 (byt x 2), .int .u8 (byt x 3), .int .u8 (byt x 4), .int .u8 (byt x 5), .int .u8 (byt x 6), .int .u8 (byt x 7)] 31) = U1w at *
        go_wp2_with fail
        refine (shown_c _ _ 144 c2 SB (Lib.hid (O2.out.ext BW.out)) k).mono ?_
        unfold Shows
        rw [S2.out]
        unfold digV
        rintro e w5 ⟨rfl, hb⟩
        replace hb := ext_trans hb (ext_alloc w5 (.cells #[.int .u8 (byt y 0), .int .u8 (byt y 1), .int .u8 (byt y 2), .int .u8 (byt y 3), .int .u8 (byt y 4), .int .u8 (byt y 5), .int .u8 (byt y 6), .int .u8 (byt y 7)] 31))
        have DY : Hid ((World.alloc w5 (.cells #[.int .u8 (byt y 0), .int .u8 (byt y 1), .int .u8 (byt y 2), .int .u8 (byt y 3), .int .u8 (byt y 4), .int .u8 (byt y 5), .int .u8 (byt y 6), .int .u8 (byt y 7)] 31)).heap[w5.heap.size]? = some (.cells #[.int .u8 (byt y 0), .int .u8 (byt y 1), .int .u8 (byt y 2), .int .u8 (byt y 3), .int .u8 (byt y 4), .int .u8 (byt y 5), .int .u8 (byt y 6), .int .u8 (byt y 7)] 31 (0, 0))) := Go.heap_alloc_new w5 _
        replace DX := Lib.hid (keepB hb DX.out)
        replace BW := Lib.hid (ext_trans BW.out hb)
        clear hb
        go_upto_region 8 with fail
        generalize World.alloc w5 (.cells #[.int .u8 (byt y 0), .int .u8 (byt y 1), .int .u8 (byt y 2), .int .u8 (byt y 3), .int .u8 (byt y 4), .int .u8 (byt y 5), .int .u8 (byt y 6), .int .u8 (byt y 7)] 31) = U at *
        have zp2 : p < U.heap.size := Nat.lt_of_lt_of_le zp BW.out.size
        have zq2 : q < U.heap.size := Nat.lt_of_lt_of_le zq BW.out.size
        have ca : U.cell? ⟨p, k, none⟩ = some (.int .i64 d) := (BW.out.cell (p := ⟨p, k, none⟩) zp).trans ca0
        have cb : U.cell? ⟨q, k, none⟩ = some (.int .i64 f) := (BW.out.cell (p := ⟨q, k, none⟩) zq).trans cb0
        clear ca0 cb0 S1 S2
        by_cases hdf : f ≤ d
        · have h1 : (f : Int) ≤ (d : Int) := by omega
          have h2 : ¬ (d : Int) < (f : Int) := by omega
          have wr : IntKind.i64.wrap ((d : Int) - (f : Int)) = (d : Int) - (f : Int) := IntWalk.i64_in _ (by omega)
          have U3 := Lib.hid (U1.out hdf)
          clear U1 U2
          refine wp_region_schedC (fun v => Below U.heap.size U v) [(true, 0), (true, 1), (true, 2), (true, 3), (true, 4), (true, 5), (true, 6), (true, 7), (true, 8), (true, 9), (true, 10), (true, 11), (true, 12), (true, 13), (true, 14), (true, 15), (true, 16), (true, 17), (true, 18), (true, 19), (true, 20), (true, 21), (true, 22), (true, 24), (false, 23), (true, 25), (true, 26), (true, 27), (true, 28), (true, 29), (true, 30), (true, 31), (true, 32), (true, 33), (true, 34), (true, 35), (true, 36), (true, 37), (true, 38), (true, 39), (true, 40), (true, 41), (true, 42), (true, 43), (true, 44), (true, 46), (false, 45), (true, 47), (true, 48), (true, 49)] (by kernel_rfl) rfl (by kernel_rfl) (by kernel_rfl) (fun _ _ d _ _ h => by cases d <;> exact h) (ext_drew U) ?_
          intro J0 hJ0
          have CC : Hid (Below U.heap.size U U.drew) := Lib.hid (ext_drew U)
          iterate 24 ((first | refine schedC_skip3 rfl (by rfl) ?_ | (refine schedC_pure (v := ?_) rfl (by rfl) ?_ ?_; rotate_left; (focus (intro v hC; obtain ⟨x0, x1, x2, x3, x4, x5, x6, x7, _, _, _, _, _, _, _, _⟩ := full8 (keepB hC DX.out); obtain ⟨y0, y1, y2, y3, y4, y5, y6, y7, _, _, _, _, _, _, _, _⟩ := full8 (keepB hC DY.out); have d1 := (hC.cell (p := ⟨p, k, none⟩) zp2).trans ca; have d2 := (hC.cell (p := ⟨q, k, none⟩) zq2).trans cb; have h2 : ¬ (d : Int) < (f : Int) := (by omega); go_simp; try with_reducible rfl)))); try go_simp)
          refine schedC_eff rfl ?_
          intro J hJ
          go_wp2_with fail
          refine (chain_c _ y Ly _).mono ?_
          rw [U3.out]
          try unfold digV
          rintro e w6 ⟨rfl, hb⟩
          replace CC : Hid (Below U.heap.size U w6) := Lib.hid (ext_trans CC.out hb)
          clear hb
          go_wp2_with fail
          refine ⟨CC.out, ?_⟩
          iterate 21 ((first | refine schedC_skip3 rfl (by rfl) ?_ | (refine schedC_pure (v := ?_) rfl (by rfl) ?_ ?_; rotate_left; (focus (intro v hC; obtain ⟨x0, x1, x2, x3, x4, x5, x6, x7, _, _, _, _, _, _, _, _⟩ := full8 (keepB hC DX.out); obtain ⟨y0, y1, y2, y3, y4, y5, y6, y7, _, _, _, _, _, _, _, _⟩ := full8 (keepB hC DY.out); have d1 := (hC.cell (p := ⟨p, k, none⟩) zp2).trans ca; have d2 := (hC.cell (p := ⟨q, k, none⟩) zq2).trans cb; have h2 : ¬ (d : Int) < (f : Int) := (by omega); go_simp; try with_reducible rfl)))); try go_simp)
          refine schedC_eff rfl ?_
          intro J hJ
          go_wp2_with fail
          refine ⟨CC.out, ?_⟩
          iterate 3 ((first | refine schedC_skip3 rfl (by rfl) ?_ | (refine schedC_pure (v := ?_) rfl (by rfl) ?_ ?_; rotate_left; (focus (intro v hC; obtain ⟨x0, x1, x2, x3, x4, x5, x6, x7, _, _, _, _, _, _, _, _⟩ := full8 (keepB hC DX.out); obtain ⟨y0, y1, y2, y3, y4, y5, y6, y7, _, _, _, _, _, _, _, _⟩ := full8 (keepB hC DY.out); have d1 := (hC.cell (p := ⟨p, k, none⟩) zp2).trans ca; have d2 := (hC.cell (p := ⟨q, k, none⟩) zq2).trans cb; have h2 : ¬ (d : Int) < (f : Int) := (by omega); go_simp; try with_reducible rfl)))); try go_simp)
          refine schedC_nil (hJ0 _ _ ?_)
          clear hJ0
          replace BW := Lib.hid (ext_trans BW.out CC.out)
          go_wp2_with fail
          exact ⟨⟨k + 1, by omega, by go_num, BW.out⟩, by simp [intOf]; omega⟩
        · have h1 : ¬ (f : Int) ≤ (d : Int) := by omega
          have h2 : (d : Int) < (f : Int) := by omega
          have wr : IntKind.i64.wrap ((f : Int) - (d : Int)) = (f : Int) - (d : Int) := IntWalk.i64_in _ (by omega)
          have U3 := Lib.hid (U2.out (by omega))
          clear U1 U2
          refine wp_region_schedC (fun v => Below U.heap.size U v) [(true, 0), (true, 1), (true, 2), (true, 3), (true, 4), (true, 5), (true, 6), (true, 7), (true, 8), (true, 9), (true, 10), (true, 11), (true, 12), (true, 13), (true, 14), (true, 15), (true, 16), (true, 17), (true, 18), (true, 19), (true, 20), (true, 21), (true, 22), (true, 24), (false, 23), (true, 25), (true, 26), (true, 27), (true, 28), (true, 29), (true, 30), (true, 31), (true, 32), (true, 33), (true, 34), (true, 35), (true, 36), (true, 37), (true, 38), (true, 39), (true, 40), (true, 41), (true, 42), (true, 43), (true, 44), (true, 46), (false, 45), (true, 47), (true, 48), (true, 49)] (by kernel_rfl) rfl (by kernel_rfl) (by kernel_rfl) (fun _ _ d _ _ h => by cases d <;> exact h) (ext_drew U) ?_
          intro J0 hJ0
          have CC : Hid (Below U.heap.size U U.drew) := Lib.hid (ext_drew U)
          iterate 24 ((first | refine schedC_skip3 rfl (by rfl) ?_ | (refine schedC_pure (v := ?_) rfl (by rfl) ?_ ?_; rotate_left; (focus (intro v hC; obtain ⟨x0, x1, x2, x3, x4, x5, x6, x7, _, _, _, _, _, _, _, _⟩ := full8 (keepB hC DX.out); obtain ⟨y0, y1, y2, y3, y4, y5, y6, y7, _, _, _, _, _, _, _, _⟩ := full8 (keepB hC DY.out); have d1 := (hC.cell (p := ⟨p, k, none⟩) zp2).trans ca; have d2 := (hC.cell (p := ⟨q, k, none⟩) zq2).trans cb; have h1 : ¬ (f : Int) ≤ (d : Int) := (by omega); go_simp; try with_reducible rfl)))); try go_simp)
          refine schedC_eff rfl ?_
          intro J hJ
          go_wp2_with fail
          refine ⟨CC.out, ?_⟩
          iterate 21 ((first | refine schedC_skip3 rfl (by rfl) ?_ | (refine schedC_pure (v := ?_) rfl (by rfl) ?_ ?_; rotate_left; (focus (intro v hC; obtain ⟨x0, x1, x2, x3, x4, x5, x6, x7, _, _, _, _, _, _, _, _⟩ := full8 (keepB hC DX.out); obtain ⟨y0, y1, y2, y3, y4, y5, y6, y7, _, _, _, _, _, _, _, _⟩ := full8 (keepB hC DY.out); have d1 := (hC.cell (p := ⟨p, k, none⟩) zp2).trans ca; have d2 := (hC.cell (p := ⟨q, k, none⟩) zq2).trans cb; have h1 : ¬ (f : Int) ≤ (d : Int) := (by omega); go_simp; try with_reducible rfl)))); try go_simp)
          refine schedC_eff rfl ?_
          intro J hJ
          go_wp2_with fail
          refine (chain_c _ x Lx _).mono ?_
          rw [U3.out]
          try unfold digV
          rintro e w6 ⟨rfl, hb⟩
          replace CC : Hid (Below U.heap.size U w6) := Lib.hid (ext_trans CC.out hb)
          clear hb
          go_wp2_with fail
          refine ⟨CC.out, ?_⟩
          iterate 3 ((first | refine schedC_skip3 rfl (by rfl) ?_ | (refine schedC_pure (v := ?_) rfl (by rfl) ?_ ?_; rotate_left; (focus (intro v hC; obtain ⟨x0, x1, x2, x3, x4, x5, x6, x7, _, _, _, _, _, _, _, _⟩ := full8 (keepB hC DX.out); obtain ⟨y0, y1, y2, y3, y4, y5, y6, y7, _, _, _, _, _, _, _, _⟩ := full8 (keepB hC DY.out); have d1 := (hC.cell (p := ⟨p, k, none⟩) zp2).trans ca; have d2 := (hC.cell (p := ⟨q, k, none⟩) zq2).trans cb; have h1 : ¬ (f : Int) ≤ (d : Int) := (by omega); go_simp; try with_reducible rfl)))); try go_simp)
          refine schedC_nil (hJ0 _ _ ?_)
          clear hJ0
          replace BW := Lib.hid (ext_trans BW.out CC.out)
          go_wp2_with fail
          exact ⟨⟨k + 1, by omega, by go_num, BW.out⟩, by simp [intOf]; omega⟩
      · obtain rfl : k = 18 := by omega
        go_wp2_with fail
        refine (known_c _).mono ?_
        rintro e w7 ⟨rfl, hb⟩
        replace BW := Lib.hid (ext_trans BW.out hb)
        clear hb
        go_wp2_with fail
        go_ret
        exact ⟨rfl, ext_trans B.out BW.out⟩
#print axioms walkOnceShows
end Go.Proofs.Ytbhibfdlkahagaa
