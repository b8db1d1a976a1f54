/-
  once: the document's Sign: contract.
-/
import Derived.Test.YtdejlahgeckobaaORPub
import Derived.Test.YtdejlahgeckobaaOSame
import Derived.Test.YtdejlahgeckobaaODigs
import Derived.Test.YtdejlahgeckobaaSchedT
namespace Go.Proofs.Ytdejlahgeckobaa
open Go.RowKit

def DBlk (y : Nat) (W : World) (x : Value) (v : World) : Prop := ∃ p, x = .pointer (some ⟨p, 0, none⟩) ∧ W.heap.size ≤ p ∧ v.heap[p]? = some (.cells #[.int .u8 (byt y 0), .int .u8 (byt y 1), .int .u8 (byt y 2), .int .u8 (byt y 3), .int .u8 (byt y 4), .int .u8 (byt y 5), .int .u8 (byt y 6), .int .u8 (byt y 7)] 30 (0, 0)) ∧ Below W.heap.size W v

theorem dig8_take (x : Nat) : ∀ k, k < 8 → (dig8 x).take (k + 1) = (dig8 x).take k ++ [UInt8.ofNat (byt x k)]
  | 0, _ => rfl
  | 1, _ => rfl
  | 2, _ => rfl
  | 3, _ => rfl
  | 4, _ => rfl
  | 5, _ => rfl
  | 6, _ => rfl
  | 7, _ => rfl
  | k + 8, h => absurd h (by omega)

set_option maxRecDepth 100000 in
set_option maxHeartbeats 4000000 in
theorem rsign_c (w : World) (s m : Nat) (hs : s < 18446744073709551616) : Calls Try.prog 30 #[digV s, digV m] w (Rows8 w (signB s m)) := by
  obtain ⟨SL, hSL⟩ : ∃ l, l = signL s m := ⟨_, rfl⟩
  have LL : Hid (SL.length = 18) := by rw [hSL]; exact walkL_len _ _
  have SG : Hid (∀ k, k < 18 → SL.getD k 0 = chainI (begN s k) (dg m k)) := by rw [hSL]; exact fun k hk => walkL_get _ _ hk
  rw [show signB s m = bytesL SL by rw [hSL]; rfl]
  clear hSL
  obtain ⟨DL, hDL⟩ : ∃ l : List Value, l = (digA18 m).toList := ⟨_, rfl⟩
  have HV : Hid (digV18 m = .agg DL.toArray) := by rw [hDL]; exact rfl
  have LN : DL.length = 18 := by rw [hDL]; rfl
  have ONE : Hid (∀ v ∈ DL, v.oneCell' = true) := by rw [hDL]; exact digs_one m
  have HGT : Hid (∀ k, k < 18 → DL[k]? = some (.int .i64 (dg m k))) := by rw [hDL]; exact digA18_get m
  clear hDL
  unfold digV
  go_enter Try.func30, Try.ntmps30
  go_upto_region 1 with fail
  generalize hW : World.alloc (World.alloc w (.cells #[.int .u8 (byt s 0), .int .u8 (byt s 1), .int .u8 (byt s 2), .int .u8 (byt s 3), .int .u8 (byt s 4), .int .u8 (byt s 5), .int .u8 (byt s 6), .int .u8 (byt s 7)] 30)) (.cells #[.int .u8 (byt m 0), .int .u8 (byt m 1), .int .u8 (byt m 2), .int .u8 (byt m 3), .int .u8 (byt m 4), .int .u8 (byt m 5), .int .u8 (byt m 6), .int .u8 (byt m 7)] 30) = W0
  have DS : Hid (W0.heap[w.heap.size]? = some (.cells #[.int .u8 (byt s 0), .int .u8 (byt s 1), .int .u8 (byt s 2), .int .u8 (byt s 3), .int .u8 (byt s 4), .int .u8 (byt s 5), .int .u8 (byt s 6), .int .u8 (byt s 7)] 30 (0, 0))) := by rw [← hW]; exact keepA (Go.heap_alloc_new w _)
  have DM : Hid (W0.heap[w.heap.size + 1]? = some (.cells #[.int .u8 (byt m 0), .int .u8 (byt m 1), .int .u8 (byt m 2), .int .u8 (byt m 3), .int .u8 (byt m 4), .int .u8 (byt m 5), .int .u8 (byt m 6), .int .u8 (byt m 7)] 30 (0, 0))) := by rw [← hW]; exact heap_alloc_newest (w := World.alloc _ _) (by simp)
  have B : Hid (Below w.heap.size w W0) := by rw [← hW]; exact ext_trans (ext_alloc _ _) (ext_alloc _ _)
  clear hW
  obtain ⟨m0, m1, m2, m3, m4, m5, m6, m7, _, _, _, _, _, _, _, _⟩ := full8 DM.out; 
  go_wp2_with fail
  rw [← show digV m = .agg #[.int .u8 (byt m 0), .int .u8 (byt m 1), .int .u8 (byt m 2), .int .u8 (byt m 3), .int .u8 (byt m 4), .int .u8 (byt m 5), .int .u8 (byt m 6), .int .u8 (byt m 7)] from rfl]
  refine (rdigits_c _ m).mono ?_
  rw [HV.out]
  rintro e w1 ⟨rfl, hb⟩
  replace DS := Lib.hid (keepB hb DS.out)
  replace B := Lib.hid (ext_trans B.out hb)
  clear hb m0 m1 m2 m3 m4 m5 m6 m7 DM
  have HA : Hid ((World.alloc w1 (.cells #[.int .i64 0, .int .i64 0, .int .i64 0, .int .i64 0, .int .i64 0, .int .i64 0, .int .i64 0, .int .i64 0, .int .i64 0, .int .i64 0, .int .i64 0, .int .i64 0, .int .i64 0, .int .i64 0, .int .i64 0, .int .i64 0, .int .i64 0, .int .i64 0] 42)).heap[w1.heap.size]? = some (.cells #[.int .i64 0, .int .i64 0, .int .i64 0, .int .i64 0, .int .i64 0, .int .i64 0, .int .i64 0, .int .i64 0, .int .i64 0, .int .i64 0, .int .i64 0, .int .i64 0, .int .i64 0, .int .i64 0, .int .i64 0, .int .i64 0, .int .i64 0, .int .i64 0] 42 (0, 0))) := Go.heap_alloc_new w1 _
  obtain ⟨w3, hs3, R3', B3', K3⟩ := store18 (w0 := w1) LN ONE.out HA.out (Nat.le_refl _) (ext_alloc _ _)
  have zs : w.heap.size < w1.heap.size := (Array.getElem?_eq_some_iff.1 DS.out).1
  replace DS := Lib.hid ((K3 _ (by omega)).trans (keepA (x := .cells #[.int .i64 0, .int .i64 0, .int .i64 0, .int .i64 0, .int .i64 0, .int .i64 0, .int .i64 0, .int .i64 0, .int .i64 0, .int .i64 0, .int .i64 0, .int .i64 0, .int .i64 0, .int .i64 0, .int .i64 0, .int .i64 0, .int .i64 0, .int .i64 0] 42) DS.out))
  replace B := Lib.hid (ext_trans B.out B3')
  have RA := Lib.hid R3'
  have zr : w1.heap.size < w3.heap.size := rangeAt_lt RA.out (by omega)
  clear R3' B3' K3 HA
  go_wp2_with fail
  clear hs3
  go_loopw [6, 7] (fun ov iv wr => ∃ (k : Nat) (A : Option Addr) (c : Nat), k ≤ 18 ∧ iv = .int .i64 k ∧ ov = .slice A (8 * k) c ∧ Hid (Own wr 5 w3.heap.size A (8 * k) c (bytesL (SL.take k))) ∧ Hid (Below w3.heap.size w3 wr)) (fun _ iv _ => 18 - (intOf iv).toNat)
  case atStart => exact ⟨0, none, 0, by omega, rfl, rfl, Own.void _ _ _, Below.refl _ _⟩
  case round =>
    rename World => W
    obtain ⟨k, A, c, hk, rfl, rfl, O, BW⟩ := hrel
    have DS2 := Lib.hid (keepB BW.out DS.out)
    by_cases hlt : k < 18
    · have hltI : (k : Int) < 18 := by omega
      have hkI : (0 : Int) ≤ (k : Int) := by omega
      have Lb : begN s k < 18446744073709551616 := begN_lt hs (by omega)
      obtain ⟨y, hy⟩ : ∃ y, y = chainI (begN s k) (dg m k) := ⟨_, rfl⟩
      have HT : Hid (bytesL (SL.take (k + 1)) = bytesL (SL.take k) ++ dig8 y) := by show _ = _; rw [hy, ← SG.out k hlt]; exact bytesL_take SL k (by rw [LL.out]; exact hlt)
      obtain ⟨d, hd⟩ : ∃ d, d = dg m k := ⟨_, rfl⟩
      obtain ⟨g, hg⟩ : ∃ g, g = begN s k := ⟨_, rfl⟩
      have HG : Hid (begN s k = g) := hg.symm
      have HY : Hid (chainI g d = y) := by show _ = _; rw [hy, hg, hd]
      rw [← hg] at Lb
      have cd0 : W.cell? ⟨w1.heap.size, k, none⟩ = some (.int .i64 d) := by
        have := (BW.out.cell (p := ⟨w1.heap.size, 0 + k, none⟩) zr).trans (RA.out k _ (HGT.out k hlt))
        rwa [Nat.zero_add, ← hd] at this
      have ZR : w1.heap.size < W.heap.size := Nat.lt_of_lt_of_le zr BW.out.size
      clear hy hg hd
      go_upto_region 6 with fail
      go_cut [8] (fun x wx => DBlk y W x wx)
      case first =>
        refine wp_region_tr (fin := 8) (fun v => Below W.heap.size W v) (.pure 0 (.pure 1 (.pure 3 (.pure 4 (.pure 5 (.two 2 (.two 6 (.eff 7 (.eff 8 .nil)) 7 (.eff 6 (.eff 8 .nil))) 7 (.eff 2 (.eff 6 (.eff 8 .nil))))))))) (by kernel_rfl) (by kernel_rfl) (by kernel_rfl) (fun _ _ d _ _ h => by cases d <;> exact h) (ext_drew W) ?_
        intro J0 hJ0
        refine tr_pure (v := digV s) rfl (by rfl) (fun v hC => ?_) ?_
        · obtain ⟨s0, s1, s2, s3, s4, s5, s6, s7, _, _, _, _, _, _, _, _⟩ := full8 (keepB hC DS2.out)
          unfold digV
          go_simp
        try go_simp
        refine tr_pure (v := .int .i64 k) rfl (by rfl) (fun v hC => ?_) ?_
        · go_simp
        try go_simp
        refine tr_pure (v := .int .i64 k) rfl (by rfl) (fun v hC => ?_) ?_
        · go_simp
        try go_simp
        refine tr_pure (v := .pointer (some ⟨w1.heap.size, k, none⟩)) rfl (by rfl) (fun v hC => ?_) ?_
        · go_simp
        try go_simp
        refine tr_pure (v := .int .i64 d) rfl (by rfl) (fun v hC => ?_) ?_
        · have cd : v.cell? ⟨w1.heap.size, k, none⟩ = some (.int .i64 d) := (hC.cell (p := ⟨w1.heap.size, k, none⟩) ZR).trans cd0
          go_simp
        try go_simp
        have Q : Hid (Below W.heap.size W W.drew) := Lib.hid (ext_drew W)
        generalize W.drew = V0 at *
        refine tr_two rfl rfl ?_ ?_
        · intro J hJ
          go_wp2_with fail
          rw [← show digV s = .agg #[.int .u8 (byt s 0), .int .u8 (byt s 1), .int .u8 (byt s 2), .int .u8 (byt s 3), .int .u8 (byt s 4), .int .u8 (byt s 5), .int .u8 (byt s 6), .int .u8 (byt s 7)] from rfl]
          refine (rbegin_c _ s k hs hlt).mono ?_
          rw [HG.out]
          rintro e v1 ⟨rfl, hb⟩
          have Q : Hid (Below W.heap.size W v1) := Lib.hid (ext_trans Q.out hb)
          clear hb
          go_wp2_with fail
          refine ⟨fun _ => Q.out, ?_⟩
          refine tr_two rfl rfl ?_ ?_
          · intro J hJ
            go_wp2_with fail
            refine (rchain_c _ g Lb _).mono ?_
            rw [HY.out]
            unfold digV
            rintro e v2 ⟨rfl, hb⟩
            have Q : Hid (Below W.heap.size W v2) := Lib.hid (ext_trans Q.out hb)
            clear hb
            go_wp2_with fail
            refine ⟨fun _ => Q.out, ?_⟩
            refine tr_eff rfl ?_
            intro J hJ
            go_wp2_with fail
            refine ⟨fun _ => ext_trans Q.out (ext_alloc _ _), ?_⟩
            obtain ⟨v3, hu⟩ : ∃ u, u = World.alloc v2 (.cells #[.int .u8 0, .int .u8 0, .int .u8 0, .int .u8 0, .int .u8 0, .int .u8 0, .int .u8 0, .int .u8 0] 30) := ⟨_, rfl⟩
            rw [← hu]
            obtain ⟨p, hp⟩ : ∃ p, p = (v2).heap.size := ⟨_, rfl⟩
            have hpd : (v2).heap.size = p := hp.symm
            try simp only [World.size_drew] at hpd
            try rw [hpd]
            have PA : Hid (v3.heap[p]? = some (.cells #[.int .u8 0, .int .u8 0, .int .u8 0, .int .u8 0, .int .u8 0, .int .u8 0, .int .u8 0, .int .u8 0] 30 (0, 0))) := by rw [hu, hp]; exact Go.heap_alloc_new _ _
            have PZ : W.heap.size ≤ p := by rw [hp]; exact Q.out.size
            have Q : Hid (Below W.heap.size W v3) := by rw [hu]; exact ext_trans Q.out (ext_alloc _ _)
            clear hu hp hpd
            refine tr_eff rfl ?_
            intro J hJ
            obtain ⟨e0, e1, e2, e3, e4, e5, e6, e7, f0, f1, f2, f3, f4, f5, f6, f7⟩ := full8 PA.out
            go_wp2_with fail
            refine ⟨fun h => absurd rfl h, ?_⟩
            refine tr_nil (hJ0 _ _ ?_)
            go_wp2_with fail
            go_meet
            exact ⟨_, rfl, PZ, set8 PA.out _ _ _ _ _ _ _ _, bel8 Q.out (Nat.le_refl _) PZ _ _ _ _ _ _ _ _⟩
          · intro J hJ
            go_wp2_with fail
            refine ⟨fun _ => ext_trans Q.out (ext_alloc _ _), ?_⟩
            obtain ⟨v4, hu⟩ : ∃ u, u = World.alloc v1 (.cells #[.int .u8 0, .int .u8 0, .int .u8 0, .int .u8 0, .int .u8 0, .int .u8 0, .int .u8 0, .int .u8 0] 30) := ⟨_, rfl⟩
            rw [← hu]
            obtain ⟨p, hp⟩ : ∃ p, p = (v1).heap.size := ⟨_, rfl⟩
            have hpd : (v1).heap.size = p := hp.symm
            try simp only [World.size_drew] at hpd
            try rw [hpd]
            have PA : Hid (v4.heap[p]? = some (.cells #[.int .u8 0, .int .u8 0, .int .u8 0, .int .u8 0, .int .u8 0, .int .u8 0, .int .u8 0, .int .u8 0] 30 (0, 0))) := by rw [hu, hp]; exact Go.heap_alloc_new _ _
            have PZ : W.heap.size ≤ p := by rw [hp]; exact Q.out.size
            have Q : Hid (Below W.heap.size W v4) := by rw [hu]; exact ext_trans Q.out (ext_alloc _ _)
            clear hu hp hpd
            refine tr_eff rfl ?_
            intro J hJ
            go_wp2_with fail
            refine (rchain_c _ g Lb _).mono ?_
            rw [HY.out]
            unfold digV
            rintro e v5 ⟨rfl, hb⟩
            have PA := Lib.hid (keepB hb PA.out)
            have Q : Hid (Below W.heap.size W v5) := Lib.hid (ext_trans Q.out hb)
            clear hb
            go_wp2_with fail
            refine ⟨fun _ => Q.out, ?_⟩
            refine tr_eff rfl ?_
            intro J hJ
            obtain ⟨e0, e1, e2, e3, e4, e5, e6, e7, f0, f1, f2, f3, f4, f5, f6, f7⟩ := full8 PA.out
            go_wp2_with fail
            refine ⟨fun h => absurd rfl h, ?_⟩
            refine tr_nil (hJ0 _ _ ?_)
            go_wp2_with fail
            go_meet
            exact ⟨_, rfl, PZ, set8 PA.out _ _ _ _ _ _ _ _, bel8 Q.out (Nat.le_refl _) PZ _ _ _ _ _ _ _ _⟩
        · intro J hJ
          go_wp2_with fail
          refine ⟨fun _ => ext_trans Q.out (ext_alloc _ _), ?_⟩
          obtain ⟨v6, hu⟩ : ∃ u, u = World.alloc V0 (.cells #[.int .u8 0, .int .u8 0, .int .u8 0, .int .u8 0, .int .u8 0, .int .u8 0, .int .u8 0, .int .u8 0] 30) := ⟨_, rfl⟩
          rw [← hu]
          obtain ⟨p, hp⟩ : ∃ p, p = (V0).heap.size := ⟨_, rfl⟩
          have hpd : (V0).heap.size = p := hp.symm
          try simp only [World.size_drew] at hpd
          try rw [hpd]
          have PA : Hid (v6.heap[p]? = some (.cells #[.int .u8 0, .int .u8 0, .int .u8 0, .int .u8 0, .int .u8 0, .int .u8 0, .int .u8 0, .int .u8 0] 30 (0, 0))) := by rw [hu, hp]; exact Go.heap_alloc_new _ _
          have PZ : W.heap.size ≤ p := by rw [hp]; exact Q.out.size
          have Q : Hid (Below W.heap.size W v6) := by rw [hu]; exact ext_trans Q.out (ext_alloc _ _)
          clear hu hp hpd
          refine tr_eff rfl ?_
          intro J hJ
          go_wp2_with fail
          rw [← show digV s = .agg #[.int .u8 (byt s 0), .int .u8 (byt s 1), .int .u8 (byt s 2), .int .u8 (byt s 3), .int .u8 (byt s 4), .int .u8 (byt s 5), .int .u8 (byt s 6), .int .u8 (byt s 7)] from rfl]
          refine (rbegin_c _ s k hs hlt).mono ?_
          rw [HG.out]
          rintro e v7 ⟨rfl, hb⟩
          have PA := Lib.hid (keepB hb PA.out)
          have Q : Hid (Below W.heap.size W v7) := Lib.hid (ext_trans Q.out hb)
          clear hb
          go_wp2_with fail
          refine ⟨fun _ => Q.out, ?_⟩
          refine tr_eff rfl ?_
          intro J hJ
          go_wp2_with fail
          refine (rchain_c _ g Lb _).mono ?_
          rw [HY.out]
          unfold digV
          rintro e v8 ⟨rfl, hb⟩
          have PA := Lib.hid (keepB hb PA.out)
          have Q : Hid (Below W.heap.size W v8) := Lib.hid (ext_trans Q.out hb)
          clear hb
          go_wp2_with fail
          refine ⟨fun _ => Q.out, ?_⟩
          refine tr_eff rfl ?_
          intro J hJ
          obtain ⟨e0, e1, e2, e3, e4, e5, e6, e7, f0, f1, f2, f3, f4, f5, f6, f7⟩ := full8 PA.out
          go_wp2_with fail
          refine ⟨fun h => absurd rfl h, ?_⟩
          refine tr_nil (hJ0 _ _ ?_)
          go_wp2_with fail
          go_meet
          exact ⟨_, rfl, PZ, set8 PA.out _ _ _ _ _ _ _ _, bel8 Q.out (Nat.le_refl _) PZ _ _ _ _ _ _ _ _⟩
      case rest =>
        obtain ⟨p, rfl, hpW, hpd, hbw⟩ := hcut
        have P := Lib.hid hpd
        have NE : Hid (∀ g, (Value.slice A (8 * k) c).ownBlock = some g → g ≠ p) := fun g hg => by
          have := (O.out.row.lt g hg).2
          omega
        replace O := Lib.hid (O.out.ext hbw)
        replace BW := Lib.hid (ext_trans BW.out hbw)
        clear hpd hbw hpW DS2 cd0 ZR
        go_wp2_with fail
        go_loopw [6, 9] (fun ov jv wr => ∃ (j : Nat) (A2 : Option Addr) (c2 : Nat), j ≤ 8 ∧ jv = .int .i64 j ∧ ov = .slice A2 (8 * k + j) c2 ∧ Hid (Own wr 5 w3.heap.size A2 (8 * k + j) c2 (bytesL (SL.take k) ++ (dig8 y).take j)) ∧ Hid (∀ g, (Value.slice A2 (8 * k + j) c2).ownBlock = some g → g ≠ p) ∧ Hid (wr.heap[p]? = some (.cells #[.int .u8 (byt y 0), .int .u8 (byt y 1), .int .u8 (byt y 2), .int .u8 (byt y 3), .int .u8 (byt y 4), .int .u8 (byt y 5), .int .u8 (byt y 6), .int .u8 (byt y 7)] 30 (0, 0))) ∧ Hid (Below w3.heap.size w3 wr)) (fun _ jv _ => 8 - (intOf jv).toNat)
        case atStart => exact ⟨0, A, c, by omega, rfl, rfl, by simpa [Hid] using O.out, NE.out, P.out, BW.out⟩
        case round =>
          clear O NE P BW
          rename World => w5
          obtain ⟨j, A2, c2, hj, rfl, rfl, O, NE, P, BW⟩ := hrel
          by_cases hl : j < 8
          · have i1 : (j : Int) < 8 := by omega
            have i0 : (0 : Int) ≤ (j : Int) := by omega
            have ck : w5.cell? ⟨p, j, none⟩ = some (.int .u8 (byt y j)) := by rw [cell_of_row w5 _ _ _ _ _ P.out]; have := digA_at y j hl; rw [Nat.mul_one] at this; exact this
            have lb := byt_small y j
            go_wp2_with (refine wpList_push1 (o := ⟨some 32, _, _, _, _, _⟩) rfl (.tmp 27) (.tmp 31) 22 rfl 5 Try.underlying22 infoU8 w3.heap.size A2 (8 * k + j) c2 _ (by rfl) O.out _ (UInt8.ofNat (byt y j)) (by rw [byt_nat]) (by rfl) (by omega) BW.out.size ?_; intro A3 c3 w6 ho hb hg hat; have O6 := Lib.hid ho; have B6 := Lib.hid hb; have G6 := Lib.hid hg; have AT := Lib.hid hat; clear ho hb hg hat; go_simp)
            have zx : p < w5.heap.size := (Array.getElem?_eq_some_iff.1 P.out).1
            refine ⟨⟨j + 1, A3, c3, by omega, by go_num, by rw [Nat.add_assoc], ?_, ?_, ?_, ?_⟩, by simp [intOf]; omega⟩
            · have := O6.out
              rw [List.append_assoc, ← dig8_take y j hl] at this
              exact this
            · intro g hg
              rcases AT.out g hg with h1 | h1
              · exact NE.out g h1
              · omega
            · exact (G6.out.block _ zx (fun e => NE.out _ e.symm rfl)).trans P.out
            · exact BW.out.trans (B6.out.mono (by omega))
          · obtain rfl : j = 8 := by omega
            go_wp2_with fail
            exact ⟨⟨k + 1, A2, c2, by omega, by go_num, rfl, by rw [HT.out]; exact O.out, BW.out⟩, by simp [intOf]; omega⟩
    · obtain rfl : k = 18 := by omega
      go_wp2_with fail
      go_ret
      have ho := O.out
      rw [List.take_of_length_le (by rw [LL.out]; omega)] at ho
      exact ⟨_, _, _, rfl, ho.mono (Nat.le_trans (Nat.le_of_lt zs) (Nat.le_of_lt zr)), B.out.trans (BW.out.mono (Nat.le_trans (Nat.le_of_lt zs) (Nat.le_of_lt zr)))⟩
#print axioms rsign_c
end Go.Proofs.Ytdejlahgeckobaa
