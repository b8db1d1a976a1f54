/-
  once: the document's Told: contract.
-/
import Derived.Test.YtbhibfdlkahagaaORShow
import Derived.Test.YtbhibfdlkahagaaORPub
import Derived.Test.YtbhibfdlkahagaaODigs
namespace Go.Proofs.Ytbhibfdlkahagaa
open Go.RowKit

set_option maxRecDepth 100000 in
set_option maxHeartbeats 4000000 in
theorem rtold_c (w : World) (m : Nat) (A : Option Addr) (n c : Nat) (sg : List UInt8) (h : Hid (Rd w A n c sg)) : Calls Try.prog 32 #[digV m, .slice A n c] w (Tolds m sg w) := by
  have hle := h.out.le
  have hmax := h.out.max
  have HL := Lib.hid h.out.len
  unfold Tolds
  by_cases hn : n = 144
  · subst hn
    have HV : toldR m sg = (toldN m sg, true) := by unfold toldR; rw [if_pos HL.out]
    rw [HV]
    show Calls _ _ _ _ (fun e w' => e = .returned (.tuple #[digV (toldN m sg), .bool true]) ∧ Below w.heap.size w w')
    clear HV
    obtain ⟨TL, hTL⟩ : ∃ l, l = walkL (partN sg) (fun c => 15 - dg m c) := ⟨_, rfl⟩
    have LL : TL.length = 18 := by rw [hTL]; exact walkL_len _ _
    have TK : Hid (∀ k, k < 18 → TL.take (k + 1) = TL.take k ++ [chainI (partN sg k) ((15 - dg m k : Nat) : Int)]) := by rw [hTL]; exact fun k hk => walkL_take _ _ hk
    obtain ⟨x, hx⟩ : ∃ x, x = toldN m sg := ⟨_, rfl⟩
    have HX : Hid (manyN TL = x) := by rw [hTL, hx]; exact rfl
    rw [← hx]
    clear hTL hx
    obtain ⟨DL, hDL⟩ : ∃ l : List Value, l = (digA18 m).toList := ⟨_, rfl⟩
    have HV : Hid (digV18 m = .agg DL.toArray) := by rw [hDL]; exact rfl
    have LN : DL.length = 18 := by rw [hDL]; rfl
    have ONE : Hid (∀ v ∈ DL, v.oneCell' = true) := by rw [hDL]; exact digs_one m
    have HGT : Hid (∀ k, k < 18 → DL[k]? = some (.int .i64 (dg m k))) := by rw [hDL]; exact digA18_get m
    clear hDL
    unfold digV
    go_enter Try.func32, Try.ntmps32
    go_upto_region 1 with fail
    generalize hW : World.alloc (World.alloc w (.cells #[.int .u8 (byt m 0), .int .u8 (byt m 1), .int .u8 (byt m 2), .int .u8 (byt m 3), .int .u8 (byt m 4), .int .u8 (byt m 5), .int .u8 (byt m 6), .int .u8 (byt m 7)] 30)) (.cells #[.int .u8 0, .int .u8 0, .int .u8 0, .int .u8 0, .int .u8 0, .int .u8 0, .int .u8 0, .int .u8 0] 30) = W0
    have DM : Hid (W0.heap[w.heap.size]? = some (.cells #[.int .u8 (byt m 0), .int .u8 (byt m 1), .int .u8 (byt m 2), .int .u8 (byt m 3), .int .u8 (byt m 4), .int .u8 (byt m 5), .int .u8 (byt m 6), .int .u8 (byt m 7)] 30 (0, 0))) := by rw [← hW]; exact keepA (Go.heap_alloc_new w _)
    have R : Hid (W0.heap[w.heap.size + 1]? = some (.cells #[.int .u8 0, .int .u8 0, .int .u8 0, .int .u8 0, .int .u8 0, .int .u8 0, .int .u8 0, .int .u8 0] 30 (0, 0))) := by rw [← hW]; exact heap_alloc_newest (w := World.alloc _ _) (by simp)
    have B : Hid (Below w.heap.size w W0) := by rw [← hW]; exact ext_trans (ext_alloc _ _) (ext_alloc _ _)
    clear hW
    obtain ⟨m0, m1, m2, m3, m4, m5, m6, m7, _, _, _, _, _, _, _, _⟩ := full8 DM.out; 
    go_wp2_with fail
    rw [← show digV m = .agg #[.int .u8 (byt m 0), .int .u8 (byt m 1), .int .u8 (byt m 2), .int .u8 (byt m 3), .int .u8 (byt m 4), .int .u8 (byt m 5), .int .u8 (byt m 6), .int .u8 (byt m 7)] from rfl]
    refine (rdigits_c _ m).mono ?_
    rw [HV.out]
    rintro e w1 ⟨rfl, hb⟩
    replace R := Lib.hid (keepB hb R.out)
    replace B := Lib.hid (ext_trans B.out hb)
    clear hb m0 m1 m2 m3 m4 m5 m6 m7 DM
    have HA : Hid ((World.alloc w1 (.cells #[.int .i64 0, .int .i64 0, .int .i64 0, .int .i64 0, .int .i64 0, .int .i64 0, .int .i64 0, .int .i64 0, .int .i64 0, .int .i64 0, .int .i64 0, .int .i64 0, .int .i64 0, .int .i64 0, .int .i64 0, .int .i64 0, .int .i64 0, .int .i64 0] 42)).heap[w1.heap.size]? = some (.cells #[.int .i64 0, .int .i64 0, .int .i64 0, .int .i64 0, .int .i64 0, .int .i64 0, .int .i64 0, .int .i64 0, .int .i64 0, .int .i64 0, .int .i64 0, .int .i64 0, .int .i64 0, .int .i64 0, .int .i64 0, .int .i64 0, .int .i64 0, .int .i64 0] 42 (0, 0))) := Go.heap_alloc_new w1 _
    obtain ⟨w3, hs3, R3', B3', K3⟩ := store18 (w0 := w1) LN ONE.out HA.out (Nat.le_refl _) (ext_alloc _ _)
    have zs : w.heap.size + 1 < w1.heap.size := (Array.getElem?_eq_some_iff.1 R.out).1
    replace R := Lib.hid ((K3 _ (by omega)).trans (keepA (x := .cells #[.int .i64 0, .int .i64 0, .int .i64 0, .int .i64 0, .int .i64 0, .int .i64 0, .int .i64 0, .int .i64 0, .int .i64 0, .int .i64 0, .int .i64 0, .int .i64 0, .int .i64 0, .int .i64 0, .int .i64 0, .int .i64 0, .int .i64 0, .int .i64 0] 42) R.out))
    replace B := Lib.hid (ext_trans B.out B3')
    have RA := Lib.hid R3'
    have zr : w1.heap.size < w3.heap.size := rangeAt_lt RA.out (by omega)
    have zw : w.heap.size ≤ w3.heap.size := by omega
    clear R3' B3' K3 HA
    go_wp2_with fail
    clear hs3
    go_loopw [7, 8] (fun ov iv wr => ∃ (k : Nat) (A2 : Option Addr) (c2 : Nat), k ≤ 18 ∧ iv = .int .i64 k ∧ ov = .slice A2 k c2 ∧ Hid (OwnD wr 30 w3.heap.size A2 k c2 (TL.take k)) ∧ Hid (Below w3.heap.size w3 wr)) (fun _ iv _ => 18 - (intOf iv).toNat)
    case atStart => exact ⟨0, none, 0, by omega, rfl, rfl, OwnD.void _ _ _, Below.refl _ _⟩
    case round =>
      rename World => W
      obtain ⟨k, B2, c2, hk, rfl, rfl, O, BW⟩ := hrel
      by_cases hlt : k < 18
      · have hltI : (k : Int) < 18 := by omega
        have hkI : (0 : Int) ≤ (k : Int) := by omega
        have Lb : partN sg k < 18446744073709551616 := partN_lt sg k
        have dl := dg_lt m k
        obtain ⟨y, hy⟩ : ∃ y, y = chainI (partN sg k) ((15 - dg m k : Nat) : Int) := ⟨_, rfl⟩
        have Ly : y < 18446744073709551616 := by rw [hy]; exact chainI_lt Lb _
        have TKk : Hid (TL.take (k + 1) = TL.take k ++ [y]) := by show _ = _; rw [TK.out k hlt, hy]
        obtain ⟨d, hd⟩ : ∃ d, d = dg m k := ⟨_, rfl⟩
        obtain ⟨g, hg⟩ : ∃ g, g = partN sg k := ⟨_, rfl⟩
        have HG : Hid (partN sg k = g) := hg.symm
        have HY : Hid (chainI g ((15 - d : Nat) : Int) = y) := by show _ = _; rw [hy, hg, hd]
        rw [← hg] at Lb
        rw [← hd] at dl
        have cd0 : W.cell? ⟨w1.heap.size, k, none⟩ = some (.int .i64 d) := by
          have := (BW.out.cell (p := ⟨w1.heap.size, 0 + k, none⟩) zr).trans (RA.out k _ (HGT.out k hlt))
          rwa [Nat.zero_add, ← hd] at this
        have W1 : IntKind.i64.wrap (15 - (d : Int)) = ((15 - d : Nat) : Int) := by rw [IntWalk.i64_in _ (by omega)]; omega
        clear hy hg hd
        go_wp2_with fail
        refine wp_region_schedC (fun v => Below w3.heap.size W v) [(true, 0), (true, 1), (true, 2), (true, 4), (true, 5), (true, 6), (true, 7), (false, 3), (false, 8), (false, 9), (false, 10), (true, 11)] (by kernel_rfl) rfl (by kernel_rfl) (by kernel_rfl) (fun _ _ d _ _ h => by cases d <;> exact h) ((ext_drew W).mono BW.out.size) ?_
        intro J0 hJ0
        have Q : Hid (Below w3.heap.size W W.drew) := Lib.hid ((ext_drew W).mono BW.out.size)
        iterate 4 (refine schedC_pure (v := ?_) rfl (by rfl) ?_ ?_; rotate_left; (focus (intro v hC; go_simp; try with_reducible rfl)); try go_simp)
        refine schedC_pure (v := .pointer (some ⟨w1.heap.size, k, none⟩)) rfl (by rfl) ?_ ?_
        · intro v hC; go_simp
        try go_simp
        refine schedC_pure (v := .int .i64 d) rfl (by rfl) ?_ ?_
        · intro v hC; have cd : v.cell? ⟨w1.heap.size, k, none⟩ = some (.int .i64 d) := (hC.cell (p := ⟨w1.heap.size, k, none⟩) zr).trans cd0; go_simp
        try go_simp
        refine schedC_pure (v := .int .i64 ((15 - d : Nat) : Int)) rfl (by rfl) ?_ ?_
        · intro v hC; go_simp
        try go_simp
        refine schedC_eff rfl ?_
        intro J hJ
        go_wp2_with fail
        refine (rshown_c _ A 144 c sg (Lib.hid (h.out.ext (B.out.trans ((BW.out.trans Q.out).mono zw)))) rfl k hlt).mono ?_
        rw [HG.out]
        rintro e v1 ⟨rfl, hb⟩
        replace Q : Hid (Below w3.heap.size W v1) := Lib.hid (Q.out.trans (hb.mono (BW.out.trans Q.out).size))
        replace O := Lib.hid ((O.out.ext (ext_drew W)).ext hb)
        clear hb
        go_wp2_with fail
        refine ⟨Q.out, ?_⟩
        refine schedC_eff rfl ?_
        intro J hJ
        go_wp2_with fail
        refine (rchain_c _ g Lb _).mono ?_
        rw [HY.out, show digV y = .agg #[.int .u8 (byt y 0), .int .u8 (byt y 1), .int .u8 (byt y 2), .int .u8 (byt y 3), .int .u8 (byt y 4), .int .u8 (byt y 5), .int .u8 (byt y 6), .int .u8 (byt y 7)] from rfl]
        rintro e v2 ⟨rfl, hb⟩
        replace Q : Hid (Below w3.heap.size W v2) := Lib.hid (Q.out.trans (hb.mono (BW.out.trans Q.out).size))
        replace O := Lib.hid (O.out.ext hb)
        clear hb
        go_wp2_with fail
        refine ⟨Q.out, ?_⟩
        have zz : w3.heap.size ≤ v2.heap.size := (BW.out.trans Q.out).size
        refine schedC_eff rfl ?_
        intro J hJ
        go_wp2_with fail
        refine ⟨Q.out.alloc zz _, ?_⟩
        refine schedC_eff rfl ?_
        intro J hJ
        go_wp2_with (refine wpList_pushR (o := ⟨some 29, _, _, _, _, _⟩) rfl (.tmp 19) (.tmp 28) rfl w3.heap.size B2 k c2 (TL.take k) (by rfl) O.out y Ly (by rfl) (by omega) zz ?_; intro A3 c3 v3 ho hb2; have O3 := Lib.hid ho; have Q3 := Lib.hid hb2; clear ho hb2; go_simp)
        refine ⟨Q.out.trans Q3.out, ?_⟩
        iterate 1 (refine schedC_pure (v := ?_) rfl (by rfl) ?_ ?_; rotate_left; (focus (intro v hC; go_simp; try with_reducible rfl)); try go_simp)
        refine schedC_nil (hJ0 _ _ ?_)
        clear hJ0
        go_wp2_with fail
        exact ⟨⟨k + 1, A3, c3, by omega, by go_num, rfl, by rw [TKk.out]; exact O3.out, BW.out.trans (Q.out.trans Q3.out)⟩, by simp [intOf]; omega⟩
      · obtain rfl : k = 18 := by omega
        have RD : Hid (RdD W B2 18 c2 TL) := by have := O.out.rd; rw [List.take_of_length_le (by omega)] at this; exact this
        go_wp2_with fail
        refine (rmany_c _ B2 18 c2 TL RD).mono ?_
        rw [HX.out]
        unfold digV
        rintro e w4 ⟨rfl, hb⟩
        replace BW := Lib.hid (BW.out.trans (hb.mono BW.out.size))
        replace R := Lib.hid ((BW.out.block _ (by omega)).trans R.out)
        replace B := Lib.hid (B.out.trans (BW.out.mono zw))
        clear hb
        obtain ⟨q0, q1, q2, q3, q4, q5, q6, q7, f0, f1, f2, f3, f4, f5, f6, f7⟩ := full8 R.out
        go_wp2_with fail
        obtain ⟨g0, g1, g2, g3, g4, g5, g6, g7⟩ := put8 R.out (.int .u8 (byt x 0)) (.int .u8 (byt x 1)) (.int .u8 (byt x 2)) (.int .u8 (byt x 3)) (.int .u8 (byt x 4)) (.int .u8 (byt x 5)) (.int .u8 (byt x 6)) (.int .u8 (byt x 7))
        refine bodyPost_ret (v := .tuple #[digV x, .bool true]) (by unfold digV; simp only [results, Try.results32]; simp [go_sem, g0, g1, g2, g3, g4, g5, g6, g7]) rfl ⟨by unfold digV; rfl, bel8 B.out (Nat.le_refl _) (by omega) _ _ _ _ _ _ _ _⟩
  · have HV : toldR m sg = (0, false) := by unfold toldR; rw [if_neg (by rw [HL.out]; exact hn)]
    rw [HV]
    show Calls _ _ _ _ (fun e w' => e = .returned (.tuple #[digV 0, .bool false]) ∧ Below w.heap.size w w')
    rw [digV0]
    clear HV
    have gI : ((n : Int) != 144) = true := by rw [bne_iff_ne]; omega
    have gJ : ¬ (n : Int) = 144 := by omega
    unfold digV
    go_enter Try.func32, Try.ntmps32
    go_upto_region 1 with fail
    generalize hW : World.alloc (World.alloc w (.cells #[.int .u8 (byt m 0), .int .u8 (byt m 1), .int .u8 (byt m 2), .int .u8 (byt m 3), .int .u8 (byt m 4), .int .u8 (byt m 5), .int .u8 (byt m 6), .int .u8 (byt m 7)] 30)) (.cells #[.int .u8 0, .int .u8 0, .int .u8 0, .int .u8 0, .int .u8 0, .int .u8 0, .int .u8 0, .int .u8 0] 30) = W0
    have R : Hid (W0.heap[w.heap.size + 1]? = some (.cells #[.int .u8 0, .int .u8 0, .int .u8 0, .int .u8 0, .int .u8 0, .int .u8 0, .int .u8 0, .int .u8 0] 30 (0, 0))) := by rw [← hW]; exact heap_alloc_newest (w := World.alloc _ _) (by simp)
    have B : Hid (Below w.heap.size w W0) := by rw [← hW]; exact ext_trans (ext_alloc _ _) (ext_alloc _ _)
    clear hW
    obtain ⟨q0, q1, q2, q3, q4, q5, q6, q7, f0, f1, f2, f3, f4, f5, f6, f7⟩ := full8 R.out
    go_wp2_with fail
    obtain ⟨g0, g1, g2, g3, g4, g5, g6, g7⟩ := put8 R.out (.int .u8 0) (.int .u8 0) (.int .u8 0) (.int .u8 0) (.int .u8 0) (.int .u8 0) (.int .u8 0) (.int .u8 0)
    refine bodyPost_ret (v := .tuple #[.agg #[.int .u8 0, .int .u8 0, .int .u8 0, .int .u8 0, .int .u8 0, .int .u8 0, .int .u8 0, .int .u8 0], .bool false]) (by simp only [results, Try.results32]; simp [go_sem, g0, g1, g2, g3, g4, g5, g6, g7]) rfl ⟨rfl, bel8 B.out (Nat.le_refl _) (by omega) _ _ _ _ _ _ _ _⟩
#print axioms rtold_c
end Go.Proofs.Ytbhibfdlkahagaa
