/-
  once: baize/once.Ahead: contract.
-/
import Derived.Test.YtbhibfdlkahagaaOAhead0
import Derived.Test.YtbhibfdlkahagaaSchedT3
import Derived.WalkMore
import Derived.Deep.DeepCutAuto
import Derived.Test.YtbhibfdlkahagaaHPushG
namespace Go.Proofs.Ytbhibfdlkahagaa
open Go.RowKit

set_option maxRecDepth 100000 in
set_option maxHeartbeats 4000000 in
theorem ahead_c (w : World) (a b : Nat) (ha : a < 18446744073709551616) (hb : b < 18446744073709551616) : Calls Try.prog 37 #[digV a, digV b] w (Hands (.int .i64 (aheadI a b)) w) := by
  obtain ⟨DLA, hDLA⟩ : ∃ l : List Value, l = (digA18 a).toList := ⟨_, rfl⟩
  have HVA : Hid (digV18 a = .agg DLA.toArray) := by rw [hDLA]; exact rfl
  have LNA : DLA.length = 18 := by rw [hDLA]; rfl
  have ONEA : Hid (∀ v ∈ DLA, v.oneCell' = true) := by rw [hDLA]; exact digs_one a
  have GETA : Hid (∀ c, c < 18 → DLA[c]? = some (.int .i64 (dg a c))) := by rw [hDLA]; exact digA18_get a
  have EQ : ∀ (DLB : List Value), DLB = (digA18 b).toList → ∀ w : World, (binOp .eql 42 (.agg DLA.toArray) (.agg DLB.toArray)).run Try.prog w = .ok (.bool (decide (a = b))) w := fun DLB e w => by rw [e, hDLA, ← all_digs ha hb]; exact eql_digs a b w
  clear hDLA
  obtain ⟨DLB, hDLB⟩ : ∃ l : List Value, l = (digA18 b).toList := ⟨_, rfl⟩
  have HVB : Hid (digV18 b = .agg DLB.toArray) := by rw [hDLB]; exact rfl
  have LNB : DLB.length = 18 := by rw [hDLB]; rfl
  have ONEB : Hid (∀ v ∈ DLB, v.oneCell' = true) := by rw [hDLB]; exact digs_one b
  have GETB : Hid (∀ c, c < 18 → DLB[c]? = some (.int .i64 (dg b c))) := by rw [hDLB]; exact digA18_get b
  replace EQ := EQ DLB hDLB
  clear hDLB
  unfold digV
  go_enter Try.func37, Try.ntmps37
  go_upto_region 1 with fail
  generalize hW : World.alloc (World.alloc w (.cells #[.int .u8 (byt a 0), .int .u8 (byt a 1), .int .u8 (byt a 2), .int .u8 (byt a 3), .int .u8 (byt a 4), .int .u8 (byt a 5), .int .u8 (byt a 6), .int .u8 (byt a 7)] 31)) (.cells #[.int .u8 (byt b 0), .int .u8 (byt b 1), .int .u8 (byt b 2), .int .u8 (byt b 3), .int .u8 (byt b 4), .int .u8 (byt b 5), .int .u8 (byt b 6), .int .u8 (byt b 7)] 31) = W
  have DA : Hid (W.heap[w.heap.size]? = some (.cells #[.int .u8 (byt a 0), .int .u8 (byt a 1), .int .u8 (byt a 2), .int .u8 (byt a 3), .int .u8 (byt a 4), .int .u8 (byt a 5), .int .u8 (byt a 6), .int .u8 (byt a 7)] 31 (0, 0))) := by rw [← hW]; exact keepA (Go.heap_alloc_new w _)
  have DB : Hid (W.heap[w.heap.size + 1]? = some (.cells #[.int .u8 (byt b 0), .int .u8 (byt b 1), .int .u8 (byt b 2), .int .u8 (byt b 3), .int .u8 (byt b 4), .int .u8 (byt b 5), .int .u8 (byt b 6), .int .u8 (byt b 7)] 31 (0, 0))) := by rw [← hW]; exact heap_alloc_newest (w := World.alloc _ _) (by simp)
  have B : Hid (Below w.heap.size w W) := by rw [← hW]; exact ext_trans (ext_alloc _ _) (ext_alloc _ _)
  clear hW
  go_step3
  go_upto_region 1 with fail
  go_cut [5, 6] (fun x y wx => DRows DLA DLB W x y wx)
  case first =>
    refine wp_region_tr3 (fin := 7) (fun v => Below W.heap.size W v) (.pure 0 (.pure 2 (.three 1 (.three 3 (.two 4 (.eff 5 (.eff 6 (.eff 7 .nil))) 5 (.eff 4 (.eff 6 (.eff 7 .nil)))) 4 (.two 3 (.eff 5 (.eff 6 (.eff 7 .nil))) 5 (.eff 3 (.eff 6 (.eff 7 .nil)))) 5 (.two 3 (.eff 4 (.eff 6 (.eff 7 .nil))) 4 (.eff 3 (.eff 6 (.eff 7 .nil))))) 4 (.two 1 (.two 3 (.eff 5 (.eff 6 (.eff 7 .nil))) 5 (.eff 3 (.eff 6 (.eff 7 .nil)))) 5 (.eff 1 (.eff 3 (.eff 6 (.eff 7 .nil))))) 5 (.two 1 (.two 3 (.eff 4 (.eff 6 (.eff 7 .nil))) 4 (.eff 3 (.eff 6 (.eff 7 .nil)))) 4 (.eff 1 (.eff 3 (.eff 6 (.eff 7 .nil)))))))) (by kernel_rfl) (by kernel_rfl) (by kernel_rfl) (fun _ _ d _ _ h => by cases d <;> exact h) (ext_drew W) ?_
    intro J0 hJ0
    refine tr_pure3 (v := digV a) rfl (by rfl) (fun v hC => ?_) ?_
    · obtain ⟨s0, s1, s2, s3, s4, s5, s6, s7, _, _, _, _, _, _, _, _⟩ := full8 (keepB hC DA.out)
      unfold digV
      go_simp
    try go_simp
    refine tr_pure3 (v := digV b) rfl (by rfl) (fun v hC => ?_) ?_
    · obtain ⟨s0, s1, s2, s3, s4, s5, s6, s7, _, _, _, _, _, _, _, _⟩ := full8 (keepB hC DB.out)
      unfold digV
      go_simp
    try go_simp
    have Q : Hid (Below W.heap.size W W.drew) := Lib.hid (ext_drew W)
    generalize W.drew = V0 at *
    refine tr_three3 rfl rfl rfl ?_ ?_ ?_
    · intro J hJ
      go_wp2_with fail
      try rw [← show digV a = .agg #[.int .u8 (byt a 0), .int .u8 (byt a 1), .int .u8 (byt a 2), .int .u8 (byt a 3), .int .u8 (byt a 4), .int .u8 (byt a 5), .int .u8 (byt a 6), .int .u8 (byt a 7)] from rfl]
      refine (reach_c _ a).mono ?_
      rw [HVA.out]
      rintro e v1 ⟨rfl, hb⟩
      have Q : Hid (Below W.heap.size W v1) := Lib.hid (ext_trans Q.out hb)
      clear hb
      go_wp2_with fail
      refine ⟨fun _ => Q.out, ?_⟩
      refine tr_three3 rfl rfl rfl ?_ ?_ ?_
      · intro J hJ
        go_wp2_with fail
        try rw [← show digV b = .agg #[.int .u8 (byt b 0), .int .u8 (byt b 1), .int .u8 (byt b 2), .int .u8 (byt b 3), .int .u8 (byt b 4), .int .u8 (byt b 5), .int .u8 (byt b 6), .int .u8 (byt b 7)] from rfl]
        refine (reach_c _ b).mono ?_
        rw [HVB.out]
        rintro e v2 ⟨rfl, hb⟩
        have Q : Hid (Below W.heap.size W v2) := Lib.hid (ext_trans Q.out hb)
        clear hb
        go_wp2_with fail
        refine ⟨fun _ => Q.out, ?_⟩
        refine tr_two3 rfl rfl ?_ ?_
        · intro J hJ
          go_wp2_with fail
          refine ⟨fun _ => ext_trans Q.out (ext_alloc _ _), ?_⟩
          obtain ⟨v3, hu⟩ : ∃ u, u = World.alloc v2 (.cells #[.int .i64 0, .int .i64 0, .int .i64 0, .int .i64 0, .int .i64 0, .int .i64 0, .int .i64 0, .int .i64 0, .int .i64 0, .int .i64 0, .int .i64 0, .int .i64 0, .int .i64 0, .int .i64 0, .int .i64 0, .int .i64 0, .int .i64 0, .int .i64 0] 42) := ⟨_, rfl⟩
          rw [← hu]
          obtain ⟨p, hp⟩ : ∃ p, p = (v2).heap.size := ⟨_, rfl⟩
          have hpd : (v2).heap.size = p := hp.symm
          rw [hpd]
          have PA : Hid (v3.heap[p]? = some (.cells #[.int .i64 0, .int .i64 0, .int .i64 0, .int .i64 0, .int .i64 0, .int .i64 0, .int .i64 0, .int .i64 0, .int .i64 0, .int .i64 0, .int .i64 0, .int .i64 0, .int .i64 0, .int .i64 0, .int .i64 0, .int .i64 0, .int .i64 0, .int .i64 0] 42 (0, 0))) := by rw [hu, hp]; exact Go.heap_alloc_new _ _
          have PZ : W.heap.size ≤ p := by rw [hp]; exact Q.out.size
          have Q : Hid (Below W.heap.size W v3) := by rw [hu]; exact ext_trans Q.out (ext_alloc _ _)
          clear hu hp hpd
          refine tr_eff3 rfl ?_
          intro J hJ
          go_wp2_with fail
          refine ⟨fun _ => ext_trans Q.out (ext_alloc _ _), ?_⟩
          obtain ⟨v4, hu⟩ : ∃ u, u = World.alloc v3 (.cells #[.int .i64 0, .int .i64 0, .int .i64 0, .int .i64 0, .int .i64 0, .int .i64 0, .int .i64 0, .int .i64 0, .int .i64 0, .int .i64 0, .int .i64 0, .int .i64 0, .int .i64 0, .int .i64 0, .int .i64 0, .int .i64 0, .int .i64 0, .int .i64 0] 42) := ⟨_, rfl⟩
          rw [← hu]
          obtain ⟨q, hp⟩ : ∃ p, p = (v3).heap.size := ⟨_, rfl⟩
          have hpd : (v3).heap.size = q := hp.symm
          rw [hpd]
          have QA : Hid (v4.heap[q]? = some (.cells #[.int .i64 0, .int .i64 0, .int .i64 0, .int .i64 0, .int .i64 0, .int .i64 0, .int .i64 0, .int .i64 0, .int .i64 0, .int .i64 0, .int .i64 0, .int .i64 0, .int .i64 0, .int .i64 0, .int .i64 0, .int .i64 0, .int .i64 0, .int .i64 0] 42 (0, 0))) := by rw [hu, hp]; exact Go.heap_alloc_new _ _
          have QZ : W.heap.size ≤ q := by rw [hp]; exact Q.out.size
          have NE : p ≠ q := by have := (Array.getElem?_eq_some_iff.1 PA.out).1; omega
          have PA := Lib.hid (by rw [hu]; exact keepA PA.out : v4.heap[p]? = some (.cells #[.int .i64 0, .int .i64 0, .int .i64 0, .int .i64 0, .int .i64 0, .int .i64 0, .int .i64 0, .int .i64 0, .int .i64 0, .int .i64 0, .int .i64 0, .int .i64 0, .int .i64 0, .int .i64 0, .int .i64 0, .int .i64 0, .int .i64 0, .int .i64 0] 42 (0, 0)))
          have Q : Hid (Below W.heap.size W v4) := by rw [hu]; exact ext_trans Q.out (ext_alloc _ _)
          clear hu hp hpd
          refine tr_eff3 rfl ?_
          intro J hJ
          obtain ⟨x1, hs1, R1, B1, K1⟩ := store18 (w0 := W) LNA ONEA.out PA.out PZ Q.out
          go_wp2_with fail
          refine ⟨fun _ => B1, ?_⟩
          clear hs1
          refine tr_eff3 rfl ?_
          intro J2 hJ2
          have QA2 := (K1 q (fun e => NE e.symm)).trans QA.out
          obtain ⟨x2, hs2, R2, B2, K2⟩ := store18 (w0 := W) LNB ONEB.out QA2 QZ B1
          go_wp2_with fail
          refine ⟨fun h => absurd rfl h, ?_⟩
          clear hs2
          refine tr_nil3 (hJ0 _ _ ?_)
          go_wp2_with fail
          go_meet
          exact ⟨p, q, rfl, rfl, PZ, QZ, rangeAt_keep R1 (K2 p NE), R2, B2⟩
        · intro J hJ
          go_wp2_with fail
          refine ⟨fun _ => ext_trans Q.out (ext_alloc _ _), ?_⟩
          obtain ⟨v5, hu⟩ : ∃ u, u = World.alloc v2 (.cells #[.int .i64 0, .int .i64 0, .int .i64 0, .int .i64 0, .int .i64 0, .int .i64 0, .int .i64 0, .int .i64 0, .int .i64 0, .int .i64 0, .int .i64 0, .int .i64 0, .int .i64 0, .int .i64 0, .int .i64 0, .int .i64 0, .int .i64 0, .int .i64 0] 42) := ⟨_, rfl⟩
          rw [← hu]
          obtain ⟨q, hp⟩ : ∃ p, p = (v2).heap.size := ⟨_, rfl⟩
          have hpd : (v2).heap.size = q := hp.symm
          rw [hpd]
          have QA : Hid (v5.heap[q]? = some (.cells #[.int .i64 0, .int .i64 0, .int .i64 0, .int .i64 0, .int .i64 0, .int .i64 0, .int .i64 0, .int .i64 0, .int .i64 0, .int .i64 0, .int .i64 0, .int .i64 0, .int .i64 0, .int .i64 0, .int .i64 0, .int .i64 0, .int .i64 0, .int .i64 0] 42 (0, 0))) := by rw [hu, hp]; exact Go.heap_alloc_new _ _
          have QZ : W.heap.size ≤ q := by rw [hp]; exact Q.out.size
          have Q : Hid (Below W.heap.size W v5) := by rw [hu]; exact ext_trans Q.out (ext_alloc _ _)
          clear hu hp hpd
          refine tr_eff3 rfl ?_
          intro J hJ
          go_wp2_with fail
          refine ⟨fun _ => ext_trans Q.out (ext_alloc _ _), ?_⟩
          obtain ⟨v6, hu⟩ : ∃ u, u = World.alloc v5 (.cells #[.int .i64 0, .int .i64 0, .int .i64 0, .int .i64 0, .int .i64 0, .int .i64 0, .int .i64 0, .int .i64 0, .int .i64 0, .int .i64 0, .int .i64 0, .int .i64 0, .int .i64 0, .int .i64 0, .int .i64 0, .int .i64 0, .int .i64 0, .int .i64 0] 42) := ⟨_, rfl⟩
          rw [← hu]
          obtain ⟨p, hp⟩ : ∃ p, p = (v5).heap.size := ⟨_, rfl⟩
          have hpd : (v5).heap.size = p := hp.symm
          rw [hpd]
          have PA : Hid (v6.heap[p]? = some (.cells #[.int .i64 0, .int .i64 0, .int .i64 0, .int .i64 0, .int .i64 0, .int .i64 0, .int .i64 0, .int .i64 0, .int .i64 0, .int .i64 0, .int .i64 0, .int .i64 0, .int .i64 0, .int .i64 0, .int .i64 0, .int .i64 0, .int .i64 0, .int .i64 0] 42 (0, 0))) := by rw [hu, hp]; exact Go.heap_alloc_new _ _
          have PZ : W.heap.size ≤ p := by rw [hp]; exact Q.out.size
          have NE : p ≠ q := by have := (Array.getElem?_eq_some_iff.1 QA.out).1; omega
          have QA := Lib.hid (by rw [hu]; exact keepA QA.out : v6.heap[q]? = some (.cells #[.int .i64 0, .int .i64 0, .int .i64 0, .int .i64 0, .int .i64 0, .int .i64 0, .int .i64 0, .int .i64 0, .int .i64 0, .int .i64 0, .int .i64 0, .int .i64 0, .int .i64 0, .int .i64 0, .int .i64 0, .int .i64 0, .int .i64 0, .int .i64 0] 42 (0, 0)))
          have Q : Hid (Below W.heap.size W v6) := by rw [hu]; exact ext_trans Q.out (ext_alloc _ _)
          clear hu hp hpd
          refine tr_eff3 rfl ?_
          intro J hJ
          obtain ⟨x1, hs1, R1, B1, K1⟩ := store18 (w0 := W) LNA ONEA.out PA.out PZ Q.out
          go_wp2_with fail
          refine ⟨fun _ => B1, ?_⟩
          clear hs1
          refine tr_eff3 rfl ?_
          intro J2 hJ2
          have QA2 := (K1 q (fun e => NE e.symm)).trans QA.out
          obtain ⟨x2, hs2, R2, B2, K2⟩ := store18 (w0 := W) LNB ONEB.out QA2 QZ B1
          go_wp2_with fail
          refine ⟨fun h => absurd rfl h, ?_⟩
          clear hs2
          refine tr_nil3 (hJ0 _ _ ?_)
          go_wp2_with fail
          go_meet
          exact ⟨p, q, rfl, rfl, PZ, QZ, rangeAt_keep R1 (K2 p NE), R2, B2⟩
      · intro J hJ
        go_wp2_with fail
        refine ⟨fun _ => ext_trans Q.out (ext_alloc _ _), ?_⟩
        obtain ⟨v7, hu⟩ : ∃ u, u = World.alloc v1 (.cells #[.int .i64 0, .int .i64 0, .int .i64 0, .int .i64 0, .int .i64 0, .int .i64 0, .int .i64 0, .int .i64 0, .int .i64 0, .int .i64 0, .int .i64 0, .int .i64 0, .int .i64 0, .int .i64 0, .int .i64 0, .int .i64 0, .int .i64 0, .int .i64 0] 42) := ⟨_, rfl⟩
        rw [← hu]
        obtain ⟨p, hp⟩ : ∃ p, p = (v1).heap.size := ⟨_, rfl⟩
        have hpd : (v1).heap.size = p := hp.symm
        rw [hpd]
        have PA : Hid (v7.heap[p]? = some (.cells #[.int .i64 0, .int .i64 0, .int .i64 0, .int .i64 0, .int .i64 0, .int .i64 0, .int .i64 0, .int .i64 0, .int .i64 0, .int .i64 0, .int .i64 0, .int .i64 0, .int .i64 0, .int .i64 0, .int .i64 0, .int .i64 0, .int .i64 0, .int .i64 0] 42 (0, 0))) := by rw [hu, hp]; exact Go.heap_alloc_new _ _
        have PZ : W.heap.size ≤ p := by rw [hp]; exact Q.out.size
        have Q : Hid (Below W.heap.size W v7) := by rw [hu]; exact ext_trans Q.out (ext_alloc _ _)
        clear hu hp hpd
        refine tr_two3 rfl rfl ?_ ?_
        · intro J hJ
          go_wp2_with fail
          try rw [← show digV b = .agg #[.int .u8 (byt b 0), .int .u8 (byt b 1), .int .u8 (byt b 2), .int .u8 (byt b 3), .int .u8 (byt b 4), .int .u8 (byt b 5), .int .u8 (byt b 6), .int .u8 (byt b 7)] from rfl]
          refine (reach_c _ b).mono ?_
          rw [HVB.out]
          rintro e v8 ⟨rfl, hb⟩
          have PA := Lib.hid (keepB hb PA.out)
          have Q : Hid (Below W.heap.size W v8) := Lib.hid (ext_trans Q.out hb)
          clear hb
          go_wp2_with fail
          refine ⟨fun _ => Q.out, ?_⟩
          refine tr_eff3 rfl ?_
          intro J hJ
          go_wp2_with fail
          refine ⟨fun _ => ext_trans Q.out (ext_alloc _ _), ?_⟩
          obtain ⟨v9, hu⟩ : ∃ u, u = World.alloc v8 (.cells #[.int .i64 0, .int .i64 0, .int .i64 0, .int .i64 0, .int .i64 0, .int .i64 0, .int .i64 0, .int .i64 0, .int .i64 0, .int .i64 0, .int .i64 0, .int .i64 0, .int .i64 0, .int .i64 0, .int .i64 0, .int .i64 0, .int .i64 0, .int .i64 0] 42) := ⟨_, rfl⟩
          rw [← hu]
          obtain ⟨q, hp⟩ : ∃ p, p = (v8).heap.size := ⟨_, rfl⟩
          have hpd : (v8).heap.size = q := hp.symm
          rw [hpd]
          have QA : Hid (v9.heap[q]? = some (.cells #[.int .i64 0, .int .i64 0, .int .i64 0, .int .i64 0, .int .i64 0, .int .i64 0, .int .i64 0, .int .i64 0, .int .i64 0, .int .i64 0, .int .i64 0, .int .i64 0, .int .i64 0, .int .i64 0, .int .i64 0, .int .i64 0, .int .i64 0, .int .i64 0] 42 (0, 0))) := by rw [hu, hp]; exact Go.heap_alloc_new _ _
          have QZ : W.heap.size ≤ q := by rw [hp]; exact Q.out.size
          have NE : p ≠ q := by have := (Array.getElem?_eq_some_iff.1 PA.out).1; omega
          have PA := Lib.hid (by rw [hu]; exact keepA PA.out : v9.heap[p]? = some (.cells #[.int .i64 0, .int .i64 0, .int .i64 0, .int .i64 0, .int .i64 0, .int .i64 0, .int .i64 0, .int .i64 0, .int .i64 0, .int .i64 0, .int .i64 0, .int .i64 0, .int .i64 0, .int .i64 0, .int .i64 0, .int .i64 0, .int .i64 0, .int .i64 0] 42 (0, 0)))
          have Q : Hid (Below W.heap.size W v9) := by rw [hu]; exact ext_trans Q.out (ext_alloc _ _)
          clear hu hp hpd
          refine tr_eff3 rfl ?_
          intro J hJ
          obtain ⟨x1, hs1, R1, B1, K1⟩ := store18 (w0 := W) LNA ONEA.out PA.out PZ Q.out
          go_wp2_with fail
          refine ⟨fun _ => B1, ?_⟩
          clear hs1
          refine tr_eff3 rfl ?_
          intro J2 hJ2
          have QA2 := (K1 q (fun e => NE e.symm)).trans QA.out
          obtain ⟨x2, hs2, R2, B2, K2⟩ := store18 (w0 := W) LNB ONEB.out QA2 QZ B1
          go_wp2_with fail
          refine ⟨fun h => absurd rfl h, ?_⟩
          clear hs2
          refine tr_nil3 (hJ0 _ _ ?_)
          go_wp2_with fail
          go_meet
          exact ⟨p, q, rfl, rfl, PZ, QZ, rangeAt_keep R1 (K2 p NE), R2, B2⟩
        · intro J hJ
          go_wp2_with fail
          refine ⟨fun _ => ext_trans Q.out (ext_alloc _ _), ?_⟩
          obtain ⟨v10, hu⟩ : ∃ u, u = World.alloc v7 (.cells #[.int .i64 0, .int .i64 0, .int .i64 0, .int .i64 0, .int .i64 0, .int .i64 0, .int .i64 0, .int .i64 0, .int .i64 0, .int .i64 0, .int .i64 0, .int .i64 0, .int .i64 0, .int .i64 0, .int .i64 0, .int .i64 0, .int .i64 0, .int .i64 0] 42) := ⟨_, rfl⟩
          rw [← hu]
          obtain ⟨q, hp⟩ : ∃ p, p = (v7).heap.size := ⟨_, rfl⟩
          have hpd : (v7).heap.size = q := hp.symm
          rw [hpd]
          have QA : Hid (v10.heap[q]? = some (.cells #[.int .i64 0, .int .i64 0, .int .i64 0, .int .i64 0, .int .i64 0, .int .i64 0, .int .i64 0, .int .i64 0, .int .i64 0, .int .i64 0, .int .i64 0, .int .i64 0, .int .i64 0, .int .i64 0, .int .i64 0, .int .i64 0, .int .i64 0, .int .i64 0] 42 (0, 0))) := by rw [hu, hp]; exact Go.heap_alloc_new _ _
          have QZ : W.heap.size ≤ q := by rw [hp]; exact Q.out.size
          have NE : p ≠ q := by have := (Array.getElem?_eq_some_iff.1 PA.out).1; omega
          have PA := Lib.hid (by rw [hu]; exact keepA PA.out : v10.heap[p]? = some (.cells #[.int .i64 0, .int .i64 0, .int .i64 0, .int .i64 0, .int .i64 0, .int .i64 0, .int .i64 0, .int .i64 0, .int .i64 0, .int .i64 0, .int .i64 0, .int .i64 0, .int .i64 0, .int .i64 0, .int .i64 0, .int .i64 0, .int .i64 0, .int .i64 0] 42 (0, 0)))
          have Q : Hid (Below W.heap.size W v10) := by rw [hu]; exact ext_trans Q.out (ext_alloc _ _)
          clear hu hp hpd
          refine tr_eff3 rfl ?_
          intro J hJ
          go_wp2_with fail
          try rw [← show digV b = .agg #[.int .u8 (byt b 0), .int .u8 (byt b 1), .int .u8 (byt b 2), .int .u8 (byt b 3), .int .u8 (byt b 4), .int .u8 (byt b 5), .int .u8 (byt b 6), .int .u8 (byt b 7)] from rfl]
          refine (reach_c _ b).mono ?_
          rw [HVB.out]
          rintro e v11 ⟨rfl, hb⟩
          have PA := Lib.hid (keepB hb PA.out)
          have QA := Lib.hid (keepB hb QA.out)
          have Q : Hid (Below W.heap.size W v11) := Lib.hid (ext_trans Q.out hb)
          clear hb
          go_wp2_with fail
          refine ⟨fun _ => Q.out, ?_⟩
          refine tr_eff3 rfl ?_
          intro J hJ
          obtain ⟨x1, hs1, R1, B1, K1⟩ := store18 (w0 := W) LNA ONEA.out PA.out PZ Q.out
          go_wp2_with fail
          refine ⟨fun _ => B1, ?_⟩
          clear hs1
          refine tr_eff3 rfl ?_
          intro J2 hJ2
          have QA2 := (K1 q (fun e => NE e.symm)).trans QA.out
          obtain ⟨x2, hs2, R2, B2, K2⟩ := store18 (w0 := W) LNB ONEB.out QA2 QZ B1
          go_wp2_with fail
          refine ⟨fun h => absurd rfl h, ?_⟩
          clear hs2
          refine tr_nil3 (hJ0 _ _ ?_)
          go_wp2_with fail
          go_meet
          exact ⟨p, q, rfl, rfl, PZ, QZ, rangeAt_keep R1 (K2 p NE), R2, B2⟩
      · intro J hJ
        go_wp2_with fail
        refine ⟨fun _ => ext_trans Q.out (ext_alloc _ _), ?_⟩
        obtain ⟨v12, hu⟩ : ∃ u, u = World.alloc v1 (.cells #[.int .i64 0, .int .i64 0, .int .i64 0, .int .i64 0, .int .i64 0, .int .i64 0, .int .i64 0, .int .i64 0, .int .i64 0, .int .i64 0, .int .i64 0, .int .i64 0, .int .i64 0, .int .i64 0, .int .i64 0, .int .i64 0, .int .i64 0, .int .i64 0] 42) := ⟨_, rfl⟩
        rw [← hu]
        obtain ⟨q, hp⟩ : ∃ p, p = (v1).heap.size := ⟨_, rfl⟩
        have hpd : (v1).heap.size = q := hp.symm
        rw [hpd]
        have QA : Hid (v12.heap[q]? = some (.cells #[.int .i64 0, .int .i64 0, .int .i64 0, .int .i64 0, .int .i64 0, .int .i64 0, .int .i64 0, .int .i64 0, .int .i64 0, .int .i64 0, .int .i64 0, .int .i64 0, .int .i64 0, .int .i64 0, .int .i64 0, .int .i64 0, .int .i64 0, .int .i64 0] 42 (0, 0))) := by rw [hu, hp]; exact Go.heap_alloc_new _ _
        have QZ : W.heap.size ≤ q := by rw [hp]; exact Q.out.size
        have Q : Hid (Below W.heap.size W v12) := by rw [hu]; exact ext_trans Q.out (ext_alloc _ _)
        clear hu hp hpd
        refine tr_two3 rfl rfl ?_ ?_
        · intro J hJ
          go_wp2_with fail
          try rw [← show digV b = .agg #[.int .u8 (byt b 0), .int .u8 (byt b 1), .int .u8 (byt b 2), .int .u8 (byt b 3), .int .u8 (byt b 4), .int .u8 (byt b 5), .int .u8 (byt b 6), .int .u8 (byt b 7)] from rfl]
          refine (reach_c _ b).mono ?_
          rw [HVB.out]
          rintro e v13 ⟨rfl, hb⟩
          have QA := Lib.hid (keepB hb QA.out)
          have Q : Hid (Below W.heap.size W v13) := Lib.hid (ext_trans Q.out hb)
          clear hb
          go_wp2_with fail
          refine ⟨fun _ => Q.out, ?_⟩
          refine tr_eff3 rfl ?_
          intro J hJ
          go_wp2_with fail
          refine ⟨fun _ => ext_trans Q.out (ext_alloc _ _), ?_⟩
          obtain ⟨v14, hu⟩ : ∃ u, u = World.alloc v13 (.cells #[.int .i64 0, .int .i64 0, .int .i64 0, .int .i64 0, .int .i64 0, .int .i64 0, .int .i64 0, .int .i64 0, .int .i64 0, .int .i64 0, .int .i64 0, .int .i64 0, .int .i64 0, .int .i64 0, .int .i64 0, .int .i64 0, .int .i64 0, .int .i64 0] 42) := ⟨_, rfl⟩
          rw [← hu]
          obtain ⟨p, hp⟩ : ∃ p, p = (v13).heap.size := ⟨_, rfl⟩
          have hpd : (v13).heap.size = p := hp.symm
          rw [hpd]
          have PA : Hid (v14.heap[p]? = some (.cells #[.int .i64 0, .int .i64 0, .int .i64 0, .int .i64 0, .int .i64 0, .int .i64 0, .int .i64 0, .int .i64 0, .int .i64 0, .int .i64 0, .int .i64 0, .int .i64 0, .int .i64 0, .int .i64 0, .int .i64 0, .int .i64 0, .int .i64 0, .int .i64 0] 42 (0, 0))) := by rw [hu, hp]; exact Go.heap_alloc_new _ _
          have PZ : W.heap.size ≤ p := by rw [hp]; exact Q.out.size
          have NE : p ≠ q := by have := (Array.getElem?_eq_some_iff.1 QA.out).1; omega
          have QA := Lib.hid (by rw [hu]; exact keepA QA.out : v14.heap[q]? = some (.cells #[.int .i64 0, .int .i64 0, .int .i64 0, .int .i64 0, .int .i64 0, .int .i64 0, .int .i64 0, .int .i64 0, .int .i64 0, .int .i64 0, .int .i64 0, .int .i64 0, .int .i64 0, .int .i64 0, .int .i64 0, .int .i64 0, .int .i64 0, .int .i64 0] 42 (0, 0)))
          have Q : Hid (Below W.heap.size W v14) := by rw [hu]; exact ext_trans Q.out (ext_alloc _ _)
          clear hu hp hpd
          refine tr_eff3 rfl ?_
          intro J hJ
          obtain ⟨x1, hs1, R1, B1, K1⟩ := store18 (w0 := W) LNA ONEA.out PA.out PZ Q.out
          go_wp2_with fail
          refine ⟨fun _ => B1, ?_⟩
          clear hs1
          refine tr_eff3 rfl ?_
          intro J2 hJ2
          have QA2 := (K1 q (fun e => NE e.symm)).trans QA.out
          obtain ⟨x2, hs2, R2, B2, K2⟩ := store18 (w0 := W) LNB ONEB.out QA2 QZ B1
          go_wp2_with fail
          refine ⟨fun h => absurd rfl h, ?_⟩
          clear hs2
          refine tr_nil3 (hJ0 _ _ ?_)
          go_wp2_with fail
          go_meet
          exact ⟨p, q, rfl, rfl, PZ, QZ, rangeAt_keep R1 (K2 p NE), R2, B2⟩
        · intro J hJ
          go_wp2_with fail
          refine ⟨fun _ => ext_trans Q.out (ext_alloc _ _), ?_⟩
          obtain ⟨v15, hu⟩ : ∃ u, u = World.alloc v12 (.cells #[.int .i64 0, .int .i64 0, .int .i64 0, .int .i64 0, .int .i64 0, .int .i64 0, .int .i64 0, .int .i64 0, .int .i64 0, .int .i64 0, .int .i64 0, .int .i64 0, .int .i64 0, .int .i64 0, .int .i64 0, .int .i64 0, .int .i64 0, .int .i64 0] 42) := ⟨_, rfl⟩
          rw [← hu]
          obtain ⟨p, hp⟩ : ∃ p, p = (v12).heap.size := ⟨_, rfl⟩
          have hpd : (v12).heap.size = p := hp.symm
          rw [hpd]
          have PA : Hid (v15.heap[p]? = some (.cells #[.int .i64 0, .int .i64 0, .int .i64 0, .int .i64 0, .int .i64 0, .int .i64 0, .int .i64 0, .int .i64 0, .int .i64 0, .int .i64 0, .int .i64 0, .int .i64 0, .int .i64 0, .int .i64 0, .int .i64 0, .int .i64 0, .int .i64 0, .int .i64 0] 42 (0, 0))) := by rw [hu, hp]; exact Go.heap_alloc_new _ _
          have PZ : W.heap.size ≤ p := by rw [hp]; exact Q.out.size
          have NE : p ≠ q := by have := (Array.getElem?_eq_some_iff.1 QA.out).1; omega
          have QA := Lib.hid (by rw [hu]; exact keepA QA.out : v15.heap[q]? = some (.cells #[.int .i64 0, .int .i64 0, .int .i64 0, .int .i64 0, .int .i64 0, .int .i64 0, .int .i64 0, .int .i64 0, .int .i64 0, .int .i64 0, .int .i64 0, .int .i64 0, .int .i64 0, .int .i64 0, .int .i64 0, .int .i64 0, .int .i64 0, .int .i64 0] 42 (0, 0)))
          have Q : Hid (Below W.heap.size W v15) := by rw [hu]; exact ext_trans Q.out (ext_alloc _ _)
          clear hu hp hpd
          refine tr_eff3 rfl ?_
          intro J hJ
          go_wp2_with fail
          try rw [← show digV b = .agg #[.int .u8 (byt b 0), .int .u8 (byt b 1), .int .u8 (byt b 2), .int .u8 (byt b 3), .int .u8 (byt b 4), .int .u8 (byt b 5), .int .u8 (byt b 6), .int .u8 (byt b 7)] from rfl]
          refine (reach_c _ b).mono ?_
          rw [HVB.out]
          rintro e v16 ⟨rfl, hb⟩
          have PA := Lib.hid (keepB hb PA.out)
          have QA := Lib.hid (keepB hb QA.out)
          have Q : Hid (Below W.heap.size W v16) := Lib.hid (ext_trans Q.out hb)
          clear hb
          go_wp2_with fail
          refine ⟨fun _ => Q.out, ?_⟩
          refine tr_eff3 rfl ?_
          intro J hJ
          obtain ⟨x1, hs1, R1, B1, K1⟩ := store18 (w0 := W) LNA ONEA.out PA.out PZ Q.out
          go_wp2_with fail
          refine ⟨fun _ => B1, ?_⟩
          clear hs1
          refine tr_eff3 rfl ?_
          intro J2 hJ2
          have QA2 := (K1 q (fun e => NE e.symm)).trans QA.out
          obtain ⟨x2, hs2, R2, B2, K2⟩ := store18 (w0 := W) LNB ONEB.out QA2 QZ B1
          go_wp2_with fail
          refine ⟨fun h => absurd rfl h, ?_⟩
          clear hs2
          refine tr_nil3 (hJ0 _ _ ?_)
          go_wp2_with fail
          go_meet
          exact ⟨p, q, rfl, rfl, PZ, QZ, rangeAt_keep R1 (K2 p NE), R2, B2⟩
    · intro J hJ
      go_wp2_with fail
      refine ⟨fun _ => ext_trans Q.out (ext_alloc _ _), ?_⟩
      obtain ⟨v17, hu⟩ : ∃ u, u = World.alloc V0 (.cells #[.int .i64 0, .int .i64 0, .int .i64 0, .int .i64 0, .int .i64 0, .int .i64 0, .int .i64 0, .int .i64 0, .int .i64 0, .int .i64 0, .int .i64 0, .int .i64 0, .int .i64 0, .int .i64 0, .int .i64 0, .int .i64 0, .int .i64 0, .int .i64 0] 42) := ⟨_, rfl⟩
      rw [← hu]
      obtain ⟨p, hp⟩ : ∃ p, p = (V0).heap.size := ⟨_, rfl⟩
      have hpd : (V0).heap.size = p := hp.symm
      rw [hpd]
      have PA : Hid (v17.heap[p]? = some (.cells #[.int .i64 0, .int .i64 0, .int .i64 0, .int .i64 0, .int .i64 0, .int .i64 0, .int .i64 0, .int .i64 0, .int .i64 0, .int .i64 0, .int .i64 0, .int .i64 0, .int .i64 0, .int .i64 0, .int .i64 0, .int .i64 0, .int .i64 0, .int .i64 0] 42 (0, 0))) := by rw [hu, hp]; exact Go.heap_alloc_new _ _
      have PZ : W.heap.size ≤ p := by rw [hp]; exact Q.out.size
      have Q : Hid (Below W.heap.size W v17) := by rw [hu]; exact ext_trans Q.out (ext_alloc _ _)
      clear hu hp hpd
      refine tr_two3 rfl rfl ?_ ?_
      · intro J hJ
        go_wp2_with fail
        try rw [← show digV a = .agg #[.int .u8 (byt a 0), .int .u8 (byt a 1), .int .u8 (byt a 2), .int .u8 (byt a 3), .int .u8 (byt a 4), .int .u8 (byt a 5), .int .u8 (byt a 6), .int .u8 (byt a 7)] from rfl]
        refine (reach_c _ a).mono ?_
        rw [HVA.out]
        rintro e v18 ⟨rfl, hb⟩
        have PA := Lib.hid (keepB hb PA.out)
        have Q : Hid (Below W.heap.size W v18) := Lib.hid (ext_trans Q.out hb)
        clear hb
        go_wp2_with fail
        refine ⟨fun _ => Q.out, ?_⟩
        refine tr_two3 rfl rfl ?_ ?_
        · intro J hJ
          go_wp2_with fail
          try rw [← show digV b = .agg #[.int .u8 (byt b 0), .int .u8 (byt b 1), .int .u8 (byt b 2), .int .u8 (byt b 3), .int .u8 (byt b 4), .int .u8 (byt b 5), .int .u8 (byt b 6), .int .u8 (byt b 7)] from rfl]
          refine (reach_c _ b).mono ?_
          rw [HVB.out]
          rintro e v19 ⟨rfl, hb⟩
          have PA := Lib.hid (keepB hb PA.out)
          have Q : Hid (Below W.heap.size W v19) := Lib.hid (ext_trans Q.out hb)
          clear hb
          go_wp2_with fail
          refine ⟨fun _ => Q.out, ?_⟩
          refine tr_eff3 rfl ?_
          intro J hJ
          go_wp2_with fail
          refine ⟨fun _ => ext_trans Q.out (ext_alloc _ _), ?_⟩
          obtain ⟨v20, hu⟩ : ∃ u, u = World.alloc v19 (.cells #[.int .i64 0, .int .i64 0, .int .i64 0, .int .i64 0, .int .i64 0, .int .i64 0, .int .i64 0, .int .i64 0, .int .i64 0, .int .i64 0, .int .i64 0, .int .i64 0, .int .i64 0, .int .i64 0, .int .i64 0, .int .i64 0, .int .i64 0, .int .i64 0] 42) := ⟨_, rfl⟩
          rw [← hu]
          obtain ⟨q, hp⟩ : ∃ p, p = (v19).heap.size := ⟨_, rfl⟩
          have hpd : (v19).heap.size = q := hp.symm
          rw [hpd]
          have QA : Hid (v20.heap[q]? = some (.cells #[.int .i64 0, .int .i64 0, .int .i64 0, .int .i64 0, .int .i64 0, .int .i64 0, .int .i64 0, .int .i64 0, .int .i64 0, .int .i64 0, .int .i64 0, .int .i64 0, .int .i64 0, .int .i64 0, .int .i64 0, .int .i64 0, .int .i64 0, .int .i64 0] 42 (0, 0))) := by rw [hu, hp]; exact Go.heap_alloc_new _ _
          have QZ : W.heap.size ≤ q := by rw [hp]; exact Q.out.size
          have NE : p ≠ q := by have := (Array.getElem?_eq_some_iff.1 PA.out).1; omega
          have PA := Lib.hid (by rw [hu]; exact keepA PA.out : v20.heap[p]? = some (.cells #[.int .i64 0, .int .i64 0, .int .i64 0, .int .i64 0, .int .i64 0, .int .i64 0, .int .i64 0, .int .i64 0, .int .i64 0, .int .i64 0, .int .i64 0, .int .i64 0, .int .i64 0, .int .i64 0, .int .i64 0, .int .i64 0, .int .i64 0, .int .i64 0] 42 (0, 0)))
          have Q : Hid (Below W.heap.size W v20) := by rw [hu]; exact ext_trans Q.out (ext_alloc _ _)
          clear hu hp hpd
          refine tr_eff3 rfl ?_
          intro J hJ
          obtain ⟨x1, hs1, R1, B1, K1⟩ := store18 (w0 := W) LNA ONEA.out PA.out PZ Q.out
          go_wp2_with fail
          refine ⟨fun _ => B1, ?_⟩
          clear hs1
          refine tr_eff3 rfl ?_
          intro J2 hJ2
          have QA2 := (K1 q (fun e => NE e.symm)).trans QA.out
          obtain ⟨x2, hs2, R2, B2, K2⟩ := store18 (w0 := W) LNB ONEB.out QA2 QZ B1
          go_wp2_with fail
          refine ⟨fun h => absurd rfl h, ?_⟩
          clear hs2
          refine tr_nil3 (hJ0 _ _ ?_)
          go_wp2_with fail
          go_meet
          exact ⟨p, q, rfl, rfl, PZ, QZ, rangeAt_keep R1 (K2 p NE), R2, B2⟩
        · intro J hJ
          go_wp2_with fail
          refine ⟨fun _ => ext_trans Q.out (ext_alloc _ _), ?_⟩
          obtain ⟨v21, hu⟩ : ∃ u, u = World.alloc v18 (.cells #[.int .i64 0, .int .i64 0, .int .i64 0, .int .i64 0, .int .i64 0, .int .i64 0, .int .i64 0, .int .i64 0, .int .i64 0, .int .i64 0, .int .i64 0, .int .i64 0, .int .i64 0, .int .i64 0, .int .i64 0, .int .i64 0, .int .i64 0, .int .i64 0] 42) := ⟨_, rfl⟩
          rw [← hu]
          obtain ⟨q, hp⟩ : ∃ p, p = (v18).heap.size := ⟨_, rfl⟩
          have hpd : (v18).heap.size = q := hp.symm
          rw [hpd]
          have QA : Hid (v21.heap[q]? = some (.cells #[.int .i64 0, .int .i64 0, .int .i64 0, .int .i64 0, .int .i64 0, .int .i64 0, .int .i64 0, .int .i64 0, .int .i64 0, .int .i64 0, .int .i64 0, .int .i64 0, .int .i64 0, .int .i64 0, .int .i64 0, .int .i64 0, .int .i64 0, .int .i64 0] 42 (0, 0))) := by rw [hu, hp]; exact Go.heap_alloc_new _ _
          have QZ : W.heap.size ≤ q := by rw [hp]; exact Q.out.size
          have NE : p ≠ q := by have := (Array.getElem?_eq_some_iff.1 PA.out).1; omega
          have PA := Lib.hid (by rw [hu]; exact keepA PA.out : v21.heap[p]? = some (.cells #[.int .i64 0, .int .i64 0, .int .i64 0, .int .i64 0, .int .i64 0, .int .i64 0, .int .i64 0, .int .i64 0, .int .i64 0, .int .i64 0, .int .i64 0, .int .i64 0, .int .i64 0, .int .i64 0, .int .i64 0, .int .i64 0, .int .i64 0, .int .i64 0] 42 (0, 0)))
          have Q : Hid (Below W.heap.size W v21) := by rw [hu]; exact ext_trans Q.out (ext_alloc _ _)
          clear hu hp hpd
          refine tr_eff3 rfl ?_
          intro J hJ
          go_wp2_with fail
          try rw [← show digV b = .agg #[.int .u8 (byt b 0), .int .u8 (byt b 1), .int .u8 (byt b 2), .int .u8 (byt b 3), .int .u8 (byt b 4), .int .u8 (byt b 5), .int .u8 (byt b 6), .int .u8 (byt b 7)] from rfl]
          refine (reach_c _ b).mono ?_
          rw [HVB.out]
          rintro e v22 ⟨rfl, hb⟩
          have PA := Lib.hid (keepB hb PA.out)
          have QA := Lib.hid (keepB hb QA.out)
          have Q : Hid (Below W.heap.size W v22) := Lib.hid (ext_trans Q.out hb)
          clear hb
          go_wp2_with fail
          refine ⟨fun _ => Q.out, ?_⟩
          refine tr_eff3 rfl ?_
          intro J hJ
          obtain ⟨x1, hs1, R1, B1, K1⟩ := store18 (w0 := W) LNA ONEA.out PA.out PZ Q.out
          go_wp2_with fail
          refine ⟨fun _ => B1, ?_⟩
          clear hs1
          refine tr_eff3 rfl ?_
          intro J2 hJ2
          have QA2 := (K1 q (fun e => NE e.symm)).trans QA.out
          obtain ⟨x2, hs2, R2, B2, K2⟩ := store18 (w0 := W) LNB ONEB.out QA2 QZ B1
          go_wp2_with fail
          refine ⟨fun h => absurd rfl h, ?_⟩
          clear hs2
          refine tr_nil3 (hJ0 _ _ ?_)
          go_wp2_with fail
          go_meet
          exact ⟨p, q, rfl, rfl, PZ, QZ, rangeAt_keep R1 (K2 p NE), R2, B2⟩
      · intro J hJ
        go_wp2_with fail
        refine ⟨fun _ => ext_trans Q.out (ext_alloc _ _), ?_⟩
        obtain ⟨v23, hu⟩ : ∃ u, u = World.alloc v17 (.cells #[.int .i64 0, .int .i64 0, .int .i64 0, .int .i64 0, .int .i64 0, .int .i64 0, .int .i64 0, .int .i64 0, .int .i64 0, .int .i64 0, .int .i64 0, .int .i64 0, .int .i64 0, .int .i64 0, .int .i64 0, .int .i64 0, .int .i64 0, .int .i64 0] 42) := ⟨_, rfl⟩
        rw [← hu]
        obtain ⟨q, hp⟩ : ∃ p, p = (v17).heap.size := ⟨_, rfl⟩
        have hpd : (v17).heap.size = q := hp.symm
        rw [hpd]
        have QA : Hid (v23.heap[q]? = some (.cells #[.int .i64 0, .int .i64 0, .int .i64 0, .int .i64 0, .int .i64 0, .int .i64 0, .int .i64 0, .int .i64 0, .int .i64 0, .int .i64 0, .int .i64 0, .int .i64 0, .int .i64 0, .int .i64 0, .int .i64 0, .int .i64 0, .int .i64 0, .int .i64 0] 42 (0, 0))) := by rw [hu, hp]; exact Go.heap_alloc_new _ _
        have QZ : W.heap.size ≤ q := by rw [hp]; exact Q.out.size
        have NE : p ≠ q := by have := (Array.getElem?_eq_some_iff.1 PA.out).1; omega
        have PA := Lib.hid (by rw [hu]; exact keepA PA.out : v23.heap[p]? = some (.cells #[.int .i64 0, .int .i64 0, .int .i64 0, .int .i64 0, .int .i64 0, .int .i64 0, .int .i64 0, .int .i64 0, .int .i64 0, .int .i64 0, .int .i64 0, .int .i64 0, .int .i64 0, .int .i64 0, .int .i64 0, .int .i64 0, .int .i64 0, .int .i64 0] 42 (0, 0)))
        have Q : Hid (Below W.heap.size W v23) := by rw [hu]; exact ext_trans Q.out (ext_alloc _ _)
        clear hu hp hpd
        refine tr_eff3 rfl ?_
        intro J hJ
        go_wp2_with fail
        try rw [← show digV a = .agg #[.int .u8 (byt a 0), .int .u8 (byt a 1), .int .u8 (byt a 2), .int .u8 (byt a 3), .int .u8 (byt a 4), .int .u8 (byt a 5), .int .u8 (byt a 6), .int .u8 (byt a 7)] from rfl]
        refine (reach_c _ a).mono ?_
        rw [HVA.out]
        rintro e v24 ⟨rfl, hb⟩
        have PA := Lib.hid (keepB hb PA.out)
        have QA := Lib.hid (keepB hb QA.out)
        have Q : Hid (Below W.heap.size W v24) := Lib.hid (ext_trans Q.out hb)
        clear hb
        go_wp2_with fail
        refine ⟨fun _ => Q.out, ?_⟩
        refine tr_eff3 rfl ?_
        intro J hJ
        go_wp2_with fail
        try rw [← show digV b = .agg #[.int .u8 (byt b 0), .int .u8 (byt b 1), .int .u8 (byt b 2), .int .u8 (byt b 3), .int .u8 (byt b 4), .int .u8 (byt b 5), .int .u8 (byt b 6), .int .u8 (byt b 7)] from rfl]
        refine (reach_c _ b).mono ?_
        rw [HVB.out]
        rintro e v25 ⟨rfl, hb⟩
        have PA := Lib.hid (keepB hb PA.out)
        have QA := Lib.hid (keepB hb QA.out)
        have Q : Hid (Below W.heap.size W v25) := Lib.hid (ext_trans Q.out hb)
        clear hb
        go_wp2_with fail
        refine ⟨fun _ => Q.out, ?_⟩
        refine tr_eff3 rfl ?_
        intro J hJ
        obtain ⟨x1, hs1, R1, B1, K1⟩ := store18 (w0 := W) LNA ONEA.out PA.out PZ Q.out
        go_wp2_with fail
        refine ⟨fun _ => B1, ?_⟩
        clear hs1
        refine tr_eff3 rfl ?_
        intro J2 hJ2
        have QA2 := (K1 q (fun e => NE e.symm)).trans QA.out
        obtain ⟨x2, hs2, R2, B2, K2⟩ := store18 (w0 := W) LNB ONEB.out QA2 QZ B1
        go_wp2_with fail
        refine ⟨fun h => absurd rfl h, ?_⟩
        clear hs2
        refine tr_nil3 (hJ0 _ _ ?_)
        go_wp2_with fail
        go_meet
        exact ⟨p, q, rfl, rfl, PZ, QZ, rangeAt_keep R1 (K2 p NE), R2, B2⟩
    · intro J hJ
      go_wp2_with fail
      refine ⟨fun _ => ext_trans Q.out (ext_alloc _ _), ?_⟩
      obtain ⟨v26, hu⟩ : ∃ u, u = World.alloc V0 (.cells #[.int .i64 0, .int .i64 0, .int .i64 0, .int .i64 0, .int .i64 0, .int .i64 0, .int .i64 0, .int .i64 0, .int .i64 0, .int .i64 0, .int .i64 0, .int .i64 0, .int .i64 0, .int .i64 0, .int .i64 0, .int .i64 0, .int .i64 0, .int .i64 0] 42) := ⟨_, rfl⟩
      rw [← hu]
      obtain ⟨q, hp⟩ : ∃ p, p = (V0).heap.size := ⟨_, rfl⟩
      have hpd : (V0).heap.size = q := hp.symm
      rw [hpd]
      have QA : Hid (v26.heap[q]? = some (.cells #[.int .i64 0, .int .i64 0, .int .i64 0, .int .i64 0, .int .i64 0, .int .i64 0, .int .i64 0, .int .i64 0, .int .i64 0, .int .i64 0, .int .i64 0, .int .i64 0, .int .i64 0, .int .i64 0, .int .i64 0, .int .i64 0, .int .i64 0, .int .i64 0] 42 (0, 0))) := by rw [hu, hp]; exact Go.heap_alloc_new _ _
      have QZ : W.heap.size ≤ q := by rw [hp]; exact Q.out.size
      have Q : Hid (Below W.heap.size W v26) := by rw [hu]; exact ext_trans Q.out (ext_alloc _ _)
      clear hu hp hpd
      refine tr_two3 rfl rfl ?_ ?_
      · intro J hJ
        go_wp2_with fail
        try rw [← show digV a = .agg #[.int .u8 (byt a 0), .int .u8 (byt a 1), .int .u8 (byt a 2), .int .u8 (byt a 3), .int .u8 (byt a 4), .int .u8 (byt a 5), .int .u8 (byt a 6), .int .u8 (byt a 7)] from rfl]
        refine (reach_c _ a).mono ?_
        rw [HVA.out]
        rintro e v27 ⟨rfl, hb⟩
        have QA := Lib.hid (keepB hb QA.out)
        have Q : Hid (Below W.heap.size W v27) := Lib.hid (ext_trans Q.out hb)
        clear hb
        go_wp2_with fail
        refine ⟨fun _ => Q.out, ?_⟩
        refine tr_two3 rfl rfl ?_ ?_
        · intro J hJ
          go_wp2_with fail
          try rw [← show digV b = .agg #[.int .u8 (byt b 0), .int .u8 (byt b 1), .int .u8 (byt b 2), .int .u8 (byt b 3), .int .u8 (byt b 4), .int .u8 (byt b 5), .int .u8 (byt b 6), .int .u8 (byt b 7)] from rfl]
          refine (reach_c _ b).mono ?_
          rw [HVB.out]
          rintro e v28 ⟨rfl, hb⟩
          have QA := Lib.hid (keepB hb QA.out)
          have Q : Hid (Below W.heap.size W v28) := Lib.hid (ext_trans Q.out hb)
          clear hb
          go_wp2_with fail
          refine ⟨fun _ => Q.out, ?_⟩
          refine tr_eff3 rfl ?_
          intro J hJ
          go_wp2_with fail
          refine ⟨fun _ => ext_trans Q.out (ext_alloc _ _), ?_⟩
          obtain ⟨v29, hu⟩ : ∃ u, u = World.alloc v28 (.cells #[.int .i64 0, .int .i64 0, .int .i64 0, .int .i64 0, .int .i64 0, .int .i64 0, .int .i64 0, .int .i64 0, .int .i64 0, .int .i64 0, .int .i64 0, .int .i64 0, .int .i64 0, .int .i64 0, .int .i64 0, .int .i64 0, .int .i64 0, .int .i64 0] 42) := ⟨_, rfl⟩
          rw [← hu]
          obtain ⟨p, hp⟩ : ∃ p, p = (v28).heap.size := ⟨_, rfl⟩
          have hpd : (v28).heap.size = p := hp.symm
          rw [hpd]
          have PA : Hid (v29.heap[p]? = some (.cells #[.int .i64 0, .int .i64 0, .int .i64 0, .int .i64 0, .int .i64 0, .int .i64 0, .int .i64 0, .int .i64 0, .int .i64 0, .int .i64 0, .int .i64 0, .int .i64 0, .int .i64 0, .int .i64 0, .int .i64 0, .int .i64 0, .int .i64 0, .int .i64 0] 42 (0, 0))) := by rw [hu, hp]; exact Go.heap_alloc_new _ _
          have PZ : W.heap.size ≤ p := by rw [hp]; exact Q.out.size
          have NE : p ≠ q := by have := (Array.getElem?_eq_some_iff.1 QA.out).1; omega
          have QA := Lib.hid (by rw [hu]; exact keepA QA.out : v29.heap[q]? = some (.cells #[.int .i64 0, .int .i64 0, .int .i64 0, .int .i64 0, .int .i64 0, .int .i64 0, .int .i64 0, .int .i64 0, .int .i64 0, .int .i64 0, .int .i64 0, .int .i64 0, .int .i64 0, .int .i64 0, .int .i64 0, .int .i64 0, .int .i64 0, .int .i64 0] 42 (0, 0)))
          have Q : Hid (Below W.heap.size W v29) := by rw [hu]; exact ext_trans Q.out (ext_alloc _ _)
          clear hu hp hpd
          refine tr_eff3 rfl ?_
          intro J hJ
          obtain ⟨x1, hs1, R1, B1, K1⟩ := store18 (w0 := W) LNA ONEA.out PA.out PZ Q.out
          go_wp2_with fail
          refine ⟨fun _ => B1, ?_⟩
          clear hs1
          refine tr_eff3 rfl ?_
          intro J2 hJ2
          have QA2 := (K1 q (fun e => NE e.symm)).trans QA.out
          obtain ⟨x2, hs2, R2, B2, K2⟩ := store18 (w0 := W) LNB ONEB.out QA2 QZ B1
          go_wp2_with fail
          refine ⟨fun h => absurd rfl h, ?_⟩
          clear hs2
          refine tr_nil3 (hJ0 _ _ ?_)
          go_wp2_with fail
          go_meet
          exact ⟨p, q, rfl, rfl, PZ, QZ, rangeAt_keep R1 (K2 p NE), R2, B2⟩
        · intro J hJ
          go_wp2_with fail
          refine ⟨fun _ => ext_trans Q.out (ext_alloc _ _), ?_⟩
          obtain ⟨v30, hu⟩ : ∃ u, u = World.alloc v27 (.cells #[.int .i64 0, .int .i64 0, .int .i64 0, .int .i64 0, .int .i64 0, .int .i64 0, .int .i64 0, .int .i64 0, .int .i64 0, .int .i64 0, .int .i64 0, .int .i64 0, .int .i64 0, .int .i64 0, .int .i64 0, .int .i64 0, .int .i64 0, .int .i64 0] 42) := ⟨_, rfl⟩
          rw [← hu]
          obtain ⟨p, hp⟩ : ∃ p, p = (v27).heap.size := ⟨_, rfl⟩
          have hpd : (v27).heap.size = p := hp.symm
          rw [hpd]
          have PA : Hid (v30.heap[p]? = some (.cells #[.int .i64 0, .int .i64 0, .int .i64 0, .int .i64 0, .int .i64 0, .int .i64 0, .int .i64 0, .int .i64 0, .int .i64 0, .int .i64 0, .int .i64 0, .int .i64 0, .int .i64 0, .int .i64 0, .int .i64 0, .int .i64 0, .int .i64 0, .int .i64 0] 42 (0, 0))) := by rw [hu, hp]; exact Go.heap_alloc_new _ _
          have PZ : W.heap.size ≤ p := by rw [hp]; exact Q.out.size
          have NE : p ≠ q := by have := (Array.getElem?_eq_some_iff.1 QA.out).1; omega
          have QA := Lib.hid (by rw [hu]; exact keepA QA.out : v30.heap[q]? = some (.cells #[.int .i64 0, .int .i64 0, .int .i64 0, .int .i64 0, .int .i64 0, .int .i64 0, .int .i64 0, .int .i64 0, .int .i64 0, .int .i64 0, .int .i64 0, .int .i64 0, .int .i64 0, .int .i64 0, .int .i64 0, .int .i64 0, .int .i64 0, .int .i64 0] 42 (0, 0)))
          have Q : Hid (Below W.heap.size W v30) := by rw [hu]; exact ext_trans Q.out (ext_alloc _ _)
          clear hu hp hpd
          refine tr_eff3 rfl ?_
          intro J hJ
          go_wp2_with fail
          try rw [← show digV b = .agg #[.int .u8 (byt b 0), .int .u8 (byt b 1), .int .u8 (byt b 2), .int .u8 (byt b 3), .int .u8 (byt b 4), .int .u8 (byt b 5), .int .u8 (byt b 6), .int .u8 (byt b 7)] from rfl]
          refine (reach_c _ b).mono ?_
          rw [HVB.out]
          rintro e v31 ⟨rfl, hb⟩
          have PA := Lib.hid (keepB hb PA.out)
          have QA := Lib.hid (keepB hb QA.out)
          have Q : Hid (Below W.heap.size W v31) := Lib.hid (ext_trans Q.out hb)
          clear hb
          go_wp2_with fail
          refine ⟨fun _ => Q.out, ?_⟩
          refine tr_eff3 rfl ?_
          intro J hJ
          obtain ⟨x1, hs1, R1, B1, K1⟩ := store18 (w0 := W) LNA ONEA.out PA.out PZ Q.out
          go_wp2_with fail
          refine ⟨fun _ => B1, ?_⟩
          clear hs1
          refine tr_eff3 rfl ?_
          intro J2 hJ2
          have QA2 := (K1 q (fun e => NE e.symm)).trans QA.out
          obtain ⟨x2, hs2, R2, B2, K2⟩ := store18 (w0 := W) LNB ONEB.out QA2 QZ B1
          go_wp2_with fail
          refine ⟨fun h => absurd rfl h, ?_⟩
          clear hs2
          refine tr_nil3 (hJ0 _ _ ?_)
          go_wp2_with fail
          go_meet
          exact ⟨p, q, rfl, rfl, PZ, QZ, rangeAt_keep R1 (K2 p NE), R2, B2⟩
      · intro J hJ
        go_wp2_with fail
        refine ⟨fun _ => ext_trans Q.out (ext_alloc _ _), ?_⟩
        obtain ⟨v32, hu⟩ : ∃ u, u = World.alloc v26 (.cells #[.int .i64 0, .int .i64 0, .int .i64 0, .int .i64 0, .int .i64 0, .int .i64 0, .int .i64 0, .int .i64 0, .int .i64 0, .int .i64 0, .int .i64 0, .int .i64 0, .int .i64 0, .int .i64 0, .int .i64 0, .int .i64 0, .int .i64 0, .int .i64 0] 42) := ⟨_, rfl⟩
        rw [← hu]
        obtain ⟨p, hp⟩ : ∃ p, p = (v26).heap.size := ⟨_, rfl⟩
        have hpd : (v26).heap.size = p := hp.symm
        rw [hpd]
        have PA : Hid (v32.heap[p]? = some (.cells #[.int .i64 0, .int .i64 0, .int .i64 0, .int .i64 0, .int .i64 0, .int .i64 0, .int .i64 0, .int .i64 0, .int .i64 0, .int .i64 0, .int .i64 0, .int .i64 0, .int .i64 0, .int .i64 0, .int .i64 0, .int .i64 0, .int .i64 0, .int .i64 0] 42 (0, 0))) := by rw [hu, hp]; exact Go.heap_alloc_new _ _
        have PZ : W.heap.size ≤ p := by rw [hp]; exact Q.out.size
        have NE : p ≠ q := by have := (Array.getElem?_eq_some_iff.1 QA.out).1; omega
        have QA := Lib.hid (by rw [hu]; exact keepA QA.out : v32.heap[q]? = some (.cells #[.int .i64 0, .int .i64 0, .int .i64 0, .int .i64 0, .int .i64 0, .int .i64 0, .int .i64 0, .int .i64 0, .int .i64 0, .int .i64 0, .int .i64 0, .int .i64 0, .int .i64 0, .int .i64 0, .int .i64 0, .int .i64 0, .int .i64 0, .int .i64 0] 42 (0, 0)))
        have Q : Hid (Below W.heap.size W v32) := by rw [hu]; exact ext_trans Q.out (ext_alloc _ _)
        clear hu hp hpd
        refine tr_eff3 rfl ?_
        intro J hJ
        go_wp2_with fail
        try rw [← show digV a = .agg #[.int .u8 (byt a 0), .int .u8 (byt a 1), .int .u8 (byt a 2), .int .u8 (byt a 3), .int .u8 (byt a 4), .int .u8 (byt a 5), .int .u8 (byt a 6), .int .u8 (byt a 7)] from rfl]
        refine (reach_c _ a).mono ?_
        rw [HVA.out]
        rintro e v33 ⟨rfl, hb⟩
        have PA := Lib.hid (keepB hb PA.out)
        have QA := Lib.hid (keepB hb QA.out)
        have Q : Hid (Below W.heap.size W v33) := Lib.hid (ext_trans Q.out hb)
        clear hb
        go_wp2_with fail
        refine ⟨fun _ => Q.out, ?_⟩
        refine tr_eff3 rfl ?_
        intro J hJ
        go_wp2_with fail
        try rw [← show digV b = .agg #[.int .u8 (byt b 0), .int .u8 (byt b 1), .int .u8 (byt b 2), .int .u8 (byt b 3), .int .u8 (byt b 4), .int .u8 (byt b 5), .int .u8 (byt b 6), .int .u8 (byt b 7)] from rfl]
        refine (reach_c _ b).mono ?_
        rw [HVB.out]
        rintro e v34 ⟨rfl, hb⟩
        have PA := Lib.hid (keepB hb PA.out)
        have QA := Lib.hid (keepB hb QA.out)
        have Q : Hid (Below W.heap.size W v34) := Lib.hid (ext_trans Q.out hb)
        clear hb
        go_wp2_with fail
        refine ⟨fun _ => Q.out, ?_⟩
        refine tr_eff3 rfl ?_
        intro J hJ
        obtain ⟨x1, hs1, R1, B1, K1⟩ := store18 (w0 := W) LNA ONEA.out PA.out PZ Q.out
        go_wp2_with fail
        refine ⟨fun _ => B1, ?_⟩
        clear hs1
        refine tr_eff3 rfl ?_
        intro J2 hJ2
        have QA2 := (K1 q (fun e => NE e.symm)).trans QA.out
        obtain ⟨x2, hs2, R2, B2, K2⟩ := store18 (w0 := W) LNB ONEB.out QA2 QZ B1
        go_wp2_with fail
        refine ⟨fun h => absurd rfl h, ?_⟩
        clear hs2
        refine tr_nil3 (hJ0 _ _ ?_)
        go_wp2_with fail
        go_meet
        exact ⟨p, q, rfl, rfl, PZ, QZ, rangeAt_keep R1 (K2 p NE), R2, B2⟩
  case rest =>
    obtain ⟨p, q, rfl, rfl, hp, hq, RA', RB', hbw⟩ := hcut
    rename World => V
    have RA := Lib.hid RA'
    have RB := Lib.hid RB'
    have zp : p < V.heap.size := rangeAt_lt RA' (by omega)
    have zq : q < V.heap.size := rangeAt_lt RB' (by omega)
    replace B := Lib.hid (ext_trans B.out hbw)
    clear hbw RA' RB' DA DB
    have GD : ∀ (x y : Operand) (w : World), (eqGuard .eql 42 x y (.agg DLA.toArray) (.agg DLB.toArray)).run Try.prog w = .ok () w := fun x y w => run_eqGuard_agg w .eql _ x y _ _ (by kernel_rfl)
    go_upto_region 2 with fail
    by_cases hab : a = b
    · rw [decide_eq_true hab] at EQ
      have HI : Hid (aheadI a b = -1) := by rw [hab]; exact ahead_self b
      go_wp2_with (first | (refine wpList_load_g (op := ⟨some 13, _, _, _, _, _⟩) (by rfl) 42 (.tmp 5) rfl p 0 (by rfl) DLA _ RA.out Try.underlying42 rfl (by rw [LNA]; kernel_rfl) ?_; go_simp) | (refine wpList_load_g (op := ⟨some 14, _, _, _, _, _⟩) (by rfl) 42 (.tmp 6) rfl q 0 (by rfl) DLB _ RB.out Try.underlying42 rfl (by rw [LNB]; kernel_rfl) ?_; go_simp))
      try rw [Exit.noGoto_ret]
      go_ret
      rw [HI.out]
      exact ⟨rfl, B.out⟩
    · rw [decide_eq_false hab] at EQ
      obtain ⟨k0, _, hk0, hd0⟩ := ahead_of ha hb hab
      go_wp2_with (first | (refine wpList_load_g (op := ⟨some 13, _, _, _, _, _⟩) (by rfl) 42 (.tmp 5) rfl p 0 (by rfl) DLA _ RA.out Try.underlying42 rfl (by rw [LNA]; kernel_rfl) ?_; go_simp) | (refine wpList_load_g (op := ⟨some 14, _, _, _, _, _⟩) (by rfl) 42 (.tmp 6) rfl q 0 (by rfl) DLB _ RB.out Try.underlying42 rfl (by rw [LNB]; kernel_rfl) ?_; go_simp))
      go_step3
      go_wp2_with fail
      go_loopw [16] (fun iv wr => ∃ k : Nat, k ≤ 18 ∧ iv = .int .i64 k ∧ (∀ c, c < k → ¬ dg b c < dg a c) ∧ Hid (Below V.heap.size V wr)) (fun iv _ => 18 - (intOf iv).toNat)
      case atStart => exact ⟨0, by omega, rfl, fun c hc => absurd hc (by omega), Below.refl _ _⟩
      case round =>
        rename World => W3
        obtain ⟨k, hk, rfl, hn, BW⟩ := hrel
        by_cases hlt : k < 18
        · have hltI : (k : Int) < 18 := by omega
          have hkI : (0 : Int) ≤ (k : Int) := by omega
          obtain ⟨x, hx⟩ : ∃ x, x = dg a k := ⟨_, rfl⟩
          obtain ⟨y, hy⟩ : ∃ y, y = dg b k := ⟨_, rfl⟩
          have ca0 : W3.cell? ⟨p, k, none⟩ = some (.int .i64 x) := by
            have := (BW.out.cell (p := ⟨p, 0 + k, none⟩) zp).trans (RA.out k _ (GETA.out k hlt))
            rwa [Nat.zero_add, ← hx] at this
          have cb0 : W3.cell? ⟨q, k, none⟩ = some (.int .i64 y) := by
            have := (BW.out.cell (p := ⟨q, 0 + k, none⟩) zq).trans (RB.out k _ (GETB.out k hlt))
            rwa [Nat.zero_add, ← hy] at this
          have zp2 : p < W3.heap.size := Nat.lt_of_lt_of_le zp BW.out.size
          have zq2 : q < W3.heap.size := Nat.lt_of_lt_of_le zq BW.out.size
          by_cases hxy : y < x
          · have hxI : (y : Int) < (x : Int) := by omega
            go_upto_region 8 with fail
            refine wp_region_schedC (fun v => Below W3.heap.size W3 v) [(true, 0), (true, 1), (true, 2), (true, 3), (true, 4), (true, 5), (true, 6), (true, 7)] (by kernel_rfl) rfl (by kernel_rfl) (by kernel_rfl) (fun _ _ d _ _ h => by cases d <;> exact h) (ext_drew W3) ?_
            intro J0 hJ0
            iterate 8 (refine schedC_pure (v := ?_) rfl (by rfl) ?_ ?_; rotate_left; (focus (intro v hC; have ca : v.cell? ⟨p, k, none⟩ = some (.int .i64 x) := (hC.cell (p := ⟨p, k, none⟩) zp2).trans ca0; have cb : v.cell? ⟨q, k, none⟩ = some (.int .i64 y) := (hC.cell (p := ⟨q, k, none⟩) zq2).trans cb0; go_simp; try with_reducible rfl)); try go_simp)
            refine schedC_nil (hJ0 _ _ ?_)
            clear hJ0
            clear ca0 cb0
            replace BW : Hid (Below V.heap.size V W3.drew) := Lib.hid (ext_trans BW.out (ext_drew W3))
            generalize W3.drew = W4 at *
            go_wp2_with fail
            try rw [Exit.noGoto_ret]
            go_ret
            rw [ahead_some hlt hn (by omega)]
            exact ⟨rfl, B.out.trans (BW.out.mono B.out.size)⟩
          · have hxI : ¬ (y : Int) < (x : Int) := by omega
            go_upto_region 8 with fail
            refine wp_region_schedC (fun v => Below W3.heap.size W3 v) [(true, 0), (true, 1), (true, 2), (true, 3), (true, 4), (true, 5), (true, 6), (true, 7)] (by kernel_rfl) rfl (by kernel_rfl) (by kernel_rfl) (fun _ _ d _ _ h => by cases d <;> exact h) (ext_drew W3) ?_
            intro J0 hJ0
            iterate 8 (refine schedC_pure (v := ?_) rfl (by rfl) ?_ ?_; rotate_left; (focus (intro v hC; have ca : v.cell? ⟨p, k, none⟩ = some (.int .i64 x) := (hC.cell (p := ⟨p, k, none⟩) zp2).trans ca0; have cb : v.cell? ⟨q, k, none⟩ = some (.int .i64 y) := (hC.cell (p := ⟨q, k, none⟩) zq2).trans cb0; go_simp; try with_reducible rfl)); try go_simp)
            refine schedC_nil (hJ0 _ _ ?_)
            clear hJ0
            clear ca0 cb0
            replace BW : Hid (Below V.heap.size V W3.drew) := Lib.hid (ext_trans BW.out (ext_drew W3))
            generalize W3.drew = W4 at *
            go_wp2_with fail
            refine ⟨⟨k + 1, by omega, by go_num, fun c hc => ?_, BW.out⟩, by simp [intOf]; omega⟩
            by_cases h1 : c = k
            · subst h1; omega
            · exact hn c (by omega)
        · obtain rfl : k = 18 := by omega
          exact absurd hd0 (hn k0 hk0)
#print axioms ahead_c
end Go.Proofs.Ytbhibfdlkahagaa
