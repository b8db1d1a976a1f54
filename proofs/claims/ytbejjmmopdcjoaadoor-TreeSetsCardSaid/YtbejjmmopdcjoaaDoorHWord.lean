/-
  hash: the document's Of; Word: contracts.
-/
import Derived.Test.YtbejjmmopdcjoaaDoorHBytR
import Derived.Laws.IdiomStrings
namespace Go.Proofs.YtbejjmmopdcjoaaDoor
open Go.RowKit

theorem str_conv (v : World) (s : ByteArray) (hs : s.size ≤ maxLen) : ∃ c' v', (convert 9 93 (.string s)).run Tryd.prog v = .ok (.slice (some ⟨v.heap.size, 0, none⟩) s.size c') v' ∧ Rd v' (some ⟨v.heap.size, 0, none⟩) s.size c' s.data.toList ∧ v.heap.size < v'.heap.size ∧ Below v.heap.size v v' := by
  refine ⟨_, _, run_bytes_of_string v 9 93 5 s Tryd.underlying9 Tryd.underlying93 Tryd.underlying5, ⟨by rw [Array.length_toList]; rfl, grownCap_ge v s.size 0 _, ?_, fun _ => ⟨v.heap.size, 0, rfl, ?_, fun j hj => ?_⟩, fun e => by cases e⟩, by simp, ext_trans (ext_drew v) (ext_alloc v.drew _)⟩
  · have := grownCap_le_maxLen v s.size 0 5 hs
    unfold maxLen at this
    omega
  · simp
  · have hj' : j < s.data.size := hj
    rw [Nat.zero_add, cell_of_row _ _ j _ _ _ (heap_alloc_newest (w := v.drew) (by simp)), bytesRow_at _ _ _ hj']
    simp [List.getD]
    rw [Array.getElem?_eq_getElem hj']
    rfl

/-- a slice in another block -/
theorem RdF.ne {w : World} {b g o : Nat} {n c : Nat} {bs : List UInt8} (h : Rd w (some ⟨g, o, none⟩) n c bs) (hg : g < w.heap.size) (hne : g ≠ b) : RdF w b (some ⟨g, o, none⟩) n c bs := fun v hv =>
  ⟨h.len, h.le, h.max, fun hn => by
    obtain ⟨b', o', hA, hb, hc⟩ := h.cells hn
    injection hA with hA
    injection hA with e1 e2
    subst e1 e2
    exact ⟨g, o, rfl, Nat.lt_of_lt_of_le hg hv.size, fun j hj => (World.cell?_of_block (w := w) (hv.block g hg (fun e => hne (by injection e)))).trans (hc j hj)⟩, fun e => by cases e⟩

set_option maxRecDepth 100000 in
set_option maxHeartbeats 1000000 in
theorem word_c (w : World) (d : Nat) (hd : d < 18446744073709551616) (s : ByteArray) (hs : s.size ≤ maxLen) : Calls Tryd.prog 35 #[digV d, .string s] w (Hands (digV (wordN d s.data.toList)) w) := by
  have hs' : s.size < 9223372036854775808 := by unfold maxLen at hs; omega
  have HSZ := Lib.hid hs
  have OKB := Lib.hid (begin_ok (k := 4) (by omega))
  obtain ⟨x, hx⟩ : ∃ x, x = wordN d s.data.toList := ⟨_, rfl⟩
  rw [← hx]
  have HX := Lib.hid hx
  clear hx hs
  unfold digV
  go_enter Tryd.func35, Tryd.ntmps35
  go_wp2_with fail
  refine (start_c _ 4 4 rfl).mono ?_
  unfold stV
  rintro e w1 ⟨rfl, hb⟩
  have D := Lib.hid (keepB (b := w.heap.size) hb (keepA (heap_alloc_newest (w := w) rfl)))
  have R := Lib.hid (keepB (b := w.heap.size + 1) hb (heap_alloc_newest (w := World.alloc _ _) (by simp)))
  have B := Lib.hid (ext_trans (ext_trans (ext_alloc _ _) (ext_alloc _ _)) hb)
  have z1 : w.heap.size + 1 < w1.heap.size := (Array.getElem?_eq_some_iff.1 R.out).1
  clear hb
  have S : Hid (StAt (w1.alloc (.cells #[.int .u64 (begin 4).a, .int .u64 (begin 4).b, .int .u64 (begin 4).c, .int .u64 (begin 4).d] 95)) 95 w1.heap.size (begin 4)) := StAt.made OKB.out
  have D2 := Lib.hid (keepA (x := .cells #[.int .u64 (begin 4).a, .int .u64 (begin 4).b, .int .u64 (begin 4).c, .int .u64 (begin 4).d] 95) D.out)
  replace R := Lib.hid (keepA (x := .cells #[.int .u64 (begin 4).a, .int .u64 (begin 4).b, .int .u64 (begin 4).c, .int .u64 (begin 4).d] 95) R.out)
  replace B := Lib.hid (ext_trans B.out (ext_alloc w1 (.cells #[.int .u64 (begin 4).a, .int .u64 (begin 4).b, .int .u64 (begin 4).c, .int .u64 (begin 4).d] 95)))
  go_upto_region 2 with fail
  generalize World.alloc w1 (.cells #[.int .u64 (begin 4).a, .int .u64 (begin 4).b, .int .u64 (begin 4).c, .int .u64 (begin 4).d] 95) = v1 at *
  obtain ⟨d0, d1, d2, d3, d4, d5, d6, d7, _, _, _, _, _, _, _, _⟩ := full8 D2.out
  go_wp2_with fail
  refine (num_c _ d hd).mono ?_
  rintro e v2 ⟨rfl, hb⟩
  replace S := Lib.hid (S.out.keep hb)
  replace R := Lib.hid (keepB hb R.out)
  replace B := Lib.hid (ext_trans B.out hb)
  clear hb d0 d1 d2 d3 d4 d5 d6 d7 D D2
  go_wp2_with fail
  refine (take_c _ _ _ d hd S).mono ?_
  rintro e v3 ⟨rfl, hS, hg⟩
  have S2 := Lib.hid hS
  replace R := Lib.hid (keepG hg (by omega) R.out)
  replace B := Lib.hid (below_grown B.out B.out.size hg (fun k hk => by injection hk with hk; omega))
  clear hS hg S
  obtain ⟨c4, v4, hrun, hRd, zv4, hB4⟩ := str_conv v3 s HSZ.out
  have zv : w1.heap.size < v3.heap.size := (Array.getElem?_eq_some_iff.1 S2.out.blk).1
  have RF : Hid (RdF v4 w1.heap.size (some ⟨v3.heap.size, 0, none⟩) s.size c4 s.data.toList) := RdF.ne hRd zv4 (by omega)
  have S3 := Lib.hid (S2.out.keep hB4)
  replace R := Lib.hid (keepB hB4 R.out)
  replace B := Lib.hid (ext_trans B.out hB4)
  clear hRd hB4 S2
  go_wp2_with fail
  refine (bytes_c _ _ _ _ _ _ RF hs' _ S3).mono ?_
  rintro e v5 ⟨rfl, hS, hg⟩
  have S4 := Lib.hid hS
  replace R := Lib.hid (keepG hg (by omega) R.out)
  replace B := Lib.hid (below_grown B.out B.out.size hg (fun k hk => by injection hk with hk; omega))
  clear hS hg S3 RF hrun
  go_wp2_with fail
  refine (digest_c _ _ _ S4).mono ?_
  rw [show outN (fullS (takeN (begin 4) d) s.data.toList) = x from HX.out.symm]
  unfold digV
  rintro e v6 ⟨rfl, hb⟩
  replace R := Lib.hid (keepB hb R.out)
  replace B := Lib.hid (ext_trans B.out hb)
  obtain ⟨c0, c1, c2, c3, c4, c5, c6, c7, f0, f1, f2, f3, f4, f5, f6, f7⟩ := full8 R.out
  clear hb
  go_wp2_with fail
  obtain ⟨g0, g1, g2, g3, g4, g5, g6, g7⟩ := put8 R.out (.int .u8 (byt x 0)) (.int .u8 (byt x 1)) (.int .u8 (byt x 2)) (.int .u8 (byt x 3)) (.int .u8 (byt x 4)) (.int .u8 (byt x 5)) (.int .u8 (byt x 6)) (.int .u8 (byt x 7))
  refine bodyPost_ret (v := digV x) (by unfold digV; simp only [results, Tryd.results35]; simp [go_sem, g0, g1, g2, g3, g4, g5, g6, g7]) rfl ⟨by unfold digV; rfl, bel8 B.out (Nat.le_refl _) (by omega) _ _ _ _ _ _ _ _⟩
#print axioms word_c

set_option maxRecDepth 100000 in
set_option maxHeartbeats 4000000 in
theorem rword_c (w : World) (d : Nat) (hd : d < 18446744073709551616) (s : ByteArray) (hs : s.size ≤ 100000) : Calls Tryd.prog 32 #[digV d, .string s] w (Hands (digV (wordN d s.data.toList)) w) := by
  have hs100 : s.size ≤ 100000 := hs
  have HSZ : Hid (s.size ≤ maxLen) := by show s.size ≤ maxLen; unfold maxLen; omega
  have OK4 := Lib.hid (begin_ok (k := 4) (by omega))
  obtain ⟨s0, hs0⟩ : ∃ s0, s0 = takeN (begin 4) d := ⟨_, rfl⟩
  have OKS : Hid s0.Ok := by rw [hs0]; exact takeN_ok OK4.out hd
  have OKF : Hid (fullS s0 s.data.toList).Ok := Lib.hid (fullS_ok OKS.out (by rw [Array.length_toList]; exact Nat.lt_of_le_of_lt hs (by omega)))
  obtain ⟨x, hx⟩ : ∃ x, x = wordN d s.data.toList := ⟨_, rfl⟩
  rw [← hx]
  have HXO : Hid (outN (fullS s0 s.data.toList) = x) := by rw [hs0, hx]; rfl
  have HS := Lib.hid hs0
  clear hx hs hs0
  unfold digV
  go_enter Tryd.func32, Tryd.ntmps32
  go_upto_region 1 with fail
  generalize hW : World.alloc (World.alloc w (.cells #[.int .u8 (byt d 0), .int .u8 (byt d 1), .int .u8 (byt d 2), .int .u8 (byt d 3), .int .u8 (byt d 4), .int .u8 (byt d 5), .int .u8 (byt d 6), .int .u8 (byt d 7)] 25)) (.cells #[.int .u8 0, .int .u8 0, .int .u8 0, .int .u8 0, .int .u8 0, .int .u8 0, .int .u8 0, .int .u8 0] 25) = W
  have D : Hid (W.heap[w.heap.size]? = some (.cells #[.int .u8 (byt d 0), .int .u8 (byt d 1), .int .u8 (byt d 2), .int .u8 (byt d 3), .int .u8 (byt d 4), .int .u8 (byt d 5), .int .u8 (byt d 6), .int .u8 (byt d 7)] 25 (0, 0))) := by rw [← hW]; exact keepA (Go.heap_alloc_new w _)
  have R : Hid (W.heap[w.heap.size + 1]? = some (.cells #[.int .u8 0, .int .u8 0, .int .u8 0, .int .u8 0, .int .u8 0, .int .u8 0, .int .u8 0, .int .u8 0] 25 (0, 0))) := by rw [← hW]; exact heap_alloc_newest (w := World.alloc _ _) (by simp)
  have B : Hid (Below w.heap.size w W) := by rw [← hW]; exact ext_trans (ext_alloc _ _) (ext_alloc _ _)
  have zW : w.heap.size + 1 < W.heap.size := by rw [← hW]; simp
  clear hW
  refine wp_region_tr (fin := 8) (fun v => Below W.heap.size W v) (.pure 1 (.pure 4 (.two 0 (.two 2 (.two 3 (.eff 5 (.eff 6 (.eff 7 (.eff 8 .nil)))) 5 (.eff 3 (.eff 6 (.eff 7 (.eff 8 .nil))))) 5 (.eff 2 (.eff 3 (.eff 6 (.eff 7 (.eff 8 .nil)))))) 5 (.eff 0 (.eff 2 (.eff 3 (.eff 6 (.eff 7 (.eff 8 .nil))))))))) (by kernel_rfl) (by kernel_rfl) (by kernel_rfl) (fun _ _ d _ _ h => by cases d <;> exact h) (ext_drew W) ?_
  intro J0 hJ0
  refine tr_pure (v := digV d) rfl (by rfl) (fun v hC => ?_) ?_
  · obtain ⟨d0, d1, d2, d3, d4, d5, d6, d7, _, _, _, _, _, _, _, _⟩ := full8 (keepB hC D.out)
    unfold digV
    go_simp
  try go_simp
  refine tr_pure (v := .string s) rfl (by rfl) (fun v hC => ?_) ?_
  · go_simp
  try go_simp
  have Q : Hid (Below W.heap.size W W.drew) := Lib.hid (ext_drew W)
  generalize W.drew = V0 at *
  refine tr_two rfl rfl ?_ ?_
  · intro J hJ
    go_wp2_with fail
    refine (begin_c _ 4 4 rfl).mono ?_
    unfold stV
    rintro e v1 ⟨rfl, hb⟩
    have Q : Hid (Below W.heap.size W v1) := Lib.hid (ext_trans Q.out hb)
    clear hb
    go_wp2_with fail
    refine ⟨fun _ => Q.out, ?_⟩
    refine tr_two rfl rfl ?_ ?_
    · intro J hJ
      go_wp2_with fail
      refine (rnum_c _ d hd).mono ?_
      rintro e v2 ⟨rfl, hb⟩
      have Q : Hid (Below W.heap.size W v2) := Lib.hid (ext_trans Q.out hb)
      clear hb
      go_wp2_with fail
      refine ⟨fun _ => Q.out, ?_⟩
      refine tr_two rfl rfl ?_ ?_
      · intro J hJ
        go_wp2_with fail
        refine (rin_c _ (begin 4) d hd OK4).mono ?_
        rw [show takeN (begin 4) d = s0 from HS.out.symm]
        unfold stV
        rintro e v3 ⟨rfl, hb⟩
        have Q : Hid (Below W.heap.size W v3) := Lib.hid (ext_trans Q.out hb)
        clear hb
        go_wp2_with fail
        refine ⟨fun _ => Q.out, ?_⟩
        refine tr_eff rfl ?_
        intro J hJ
        obtain ⟨cv4, v4, hrun, hRd, zv4, hB4⟩ := str_conv v3 s HSZ.out
        go_wp2_with fail
        refine ⟨fun _ => ext_trans Q.out hB4, ?_⟩
        have RT := Lib.hid hRd
        have Q : Hid (Below W.heap.size W v4) := Lib.hid (ext_trans Q.out hB4)
        clear hRd hB4 hrun zv4
        refine tr_eff rfl ?_
        intro J hJ
        go_wp2_with fail
        refine (rbytes_c _ s0 OKS _ _ _ _ RT hs100).mono ?_
        unfold stV
        rintro e v5 ⟨rfl, hb⟩
        have Q : Hid (Below W.heap.size W v5) := Lib.hid (ext_trans Q.out hb)
        clear hb
        go_wp2_with fail
        refine ⟨fun _ => Q.out, ?_⟩
        refine tr_eff rfl ?_
        intro J hJ
        go_wp2_with fail
        refine (out_c _ (fullS s0 s.data.toList) OKF).mono ?_
        rw [HXO.out]
        unfold digV
        rintro e v6 ⟨rfl, hb⟩
        have Q : Hid (Below W.heap.size W v6) := Lib.hid (ext_trans Q.out hb)
        have R := Lib.hid (keepB Q.out R.out)
        have B := Lib.hid (ext_trans B.out Q.out)
        obtain ⟨c0, c1, c2, c3, c4, c5, c6, c7, f0, f1, f2, f3, f4, f5, f6, f7⟩ := full8 R.out
        clear hb
        go_wp2_with fail
        refine ⟨fun _ => Q.out, ?_⟩
        refine tr_eff rfl ?_
        intro J hJ
        go_wp2_with fail
        refine ⟨fun h => absurd rfl h, ?_⟩
        refine tr_nil (hJ0 _ _ ?_)
        go_wp2_with fail
        obtain ⟨g0, g1, g2, g3, g4, g5, g6, g7⟩ := put8 R.out (.int .u8 (byt x 0)) (.int .u8 (byt x 1)) (.int .u8 (byt x 2)) (.int .u8 (byt x 3)) (.int .u8 (byt x 4)) (.int .u8 (byt x 5)) (.int .u8 (byt x 6)) (.int .u8 (byt x 7))
        refine bodyPost_ret (v := digV x) (by unfold digV; simp only [results, Tryd.results32]; simp [go_sem, g0, g1, g2, g3, g4, g5, g6, g7]) rfl ⟨by unfold digV; rfl, bel8 B.out (Nat.le_refl _) (by omega) _ _ _ _ _ _ _ _⟩
      · intro J hJ
        obtain ⟨cv7, v7, hrun, hRd, zv4, hB4⟩ := str_conv v2 s HSZ.out
        go_wp2_with fail
        refine ⟨fun _ => ext_trans Q.out hB4, ?_⟩
        have RT := Lib.hid hRd
        have Q : Hid (Below W.heap.size W v7) := Lib.hid (ext_trans Q.out hB4)
        clear hRd hB4 hrun zv4
        refine tr_eff rfl ?_
        intro J hJ
        go_wp2_with fail
        refine (rin_c _ (begin 4) d hd OK4).mono ?_
        rw [show takeN (begin 4) d = s0 from HS.out.symm]
        unfold stV
        rintro e v8 ⟨rfl, hb⟩
        have RT := Lib.hid (RT.out.ext hb)
        have Q : Hid (Below W.heap.size W v8) := Lib.hid (ext_trans Q.out hb)
        clear hb
        go_wp2_with fail
        refine ⟨fun _ => Q.out, ?_⟩
        refine tr_eff rfl ?_
        intro J hJ
        go_wp2_with fail
        refine (rbytes_c _ s0 OKS _ _ _ _ RT hs100).mono ?_
        unfold stV
        rintro e v9 ⟨rfl, hb⟩
        have Q : Hid (Below W.heap.size W v9) := Lib.hid (ext_trans Q.out hb)
        clear hb
        go_wp2_with fail
        refine ⟨fun _ => Q.out, ?_⟩
        refine tr_eff rfl ?_
        intro J hJ
        go_wp2_with fail
        refine (out_c _ (fullS s0 s.data.toList) OKF).mono ?_
        rw [HXO.out]
        unfold digV
        rintro e v10 ⟨rfl, hb⟩
        have Q : Hid (Below W.heap.size W v10) := Lib.hid (ext_trans Q.out hb)
        have R := Lib.hid (keepB Q.out R.out)
        have B := Lib.hid (ext_trans B.out Q.out)
        obtain ⟨c0, c1, c2, c3, c4, c5, c6, c7, f0, f1, f2, f3, f4, f5, f6, f7⟩ := full8 R.out
        clear hb
        go_wp2_with fail
        refine ⟨fun _ => Q.out, ?_⟩
        refine tr_eff rfl ?_
        intro J hJ
        go_wp2_with fail
        refine ⟨fun h => absurd rfl h, ?_⟩
        refine tr_nil (hJ0 _ _ ?_)
        go_wp2_with fail
        obtain ⟨g0, g1, g2, g3, g4, g5, g6, g7⟩ := put8 R.out (.int .u8 (byt x 0)) (.int .u8 (byt x 1)) (.int .u8 (byt x 2)) (.int .u8 (byt x 3)) (.int .u8 (byt x 4)) (.int .u8 (byt x 5)) (.int .u8 (byt x 6)) (.int .u8 (byt x 7))
        refine bodyPost_ret (v := digV x) (by unfold digV; simp only [results, Tryd.results32]; simp [go_sem, g0, g1, g2, g3, g4, g5, g6, g7]) rfl ⟨by unfold digV; rfl, bel8 B.out (Nat.le_refl _) (by omega) _ _ _ _ _ _ _ _⟩
    · intro J hJ
      obtain ⟨cv11, v11, hrun, hRd, zv4, hB4⟩ := str_conv v1 s HSZ.out
      go_wp2_with fail
      refine ⟨fun _ => ext_trans Q.out hB4, ?_⟩
      have RT := Lib.hid hRd
      have Q : Hid (Below W.heap.size W v11) := Lib.hid (ext_trans Q.out hB4)
      clear hRd hB4 hrun zv4
      refine tr_eff rfl ?_
      intro J hJ
      go_wp2_with fail
      refine (rnum_c _ d hd).mono ?_
      rintro e v12 ⟨rfl, hb⟩
      have RT := Lib.hid (RT.out.ext hb)
      have Q : Hid (Below W.heap.size W v12) := Lib.hid (ext_trans Q.out hb)
      clear hb
      go_wp2_with fail
      refine ⟨fun _ => Q.out, ?_⟩
      refine tr_eff rfl ?_
      intro J hJ
      go_wp2_with fail
      refine (rin_c _ (begin 4) d hd OK4).mono ?_
      rw [show takeN (begin 4) d = s0 from HS.out.symm]
      unfold stV
      rintro e v13 ⟨rfl, hb⟩
      have RT := Lib.hid (RT.out.ext hb)
      have Q : Hid (Below W.heap.size W v13) := Lib.hid (ext_trans Q.out hb)
      clear hb
      go_wp2_with fail
      refine ⟨fun _ => Q.out, ?_⟩
      refine tr_eff rfl ?_
      intro J hJ
      go_wp2_with fail
      refine (rbytes_c _ s0 OKS _ _ _ _ RT hs100).mono ?_
      unfold stV
      rintro e v14 ⟨rfl, hb⟩
      have Q : Hid (Below W.heap.size W v14) := Lib.hid (ext_trans Q.out hb)
      clear hb
      go_wp2_with fail
      refine ⟨fun _ => Q.out, ?_⟩
      refine tr_eff rfl ?_
      intro J hJ
      go_wp2_with fail
      refine (out_c _ (fullS s0 s.data.toList) OKF).mono ?_
      rw [HXO.out]
      unfold digV
      rintro e v15 ⟨rfl, hb⟩
      have Q : Hid (Below W.heap.size W v15) := Lib.hid (ext_trans Q.out hb)
      have R := Lib.hid (keepB Q.out R.out)
      have B := Lib.hid (ext_trans B.out Q.out)
      obtain ⟨c0, c1, c2, c3, c4, c5, c6, c7, f0, f1, f2, f3, f4, f5, f6, f7⟩ := full8 R.out
      clear hb
      go_wp2_with fail
      refine ⟨fun _ => Q.out, ?_⟩
      refine tr_eff rfl ?_
      intro J hJ
      go_wp2_with fail
      refine ⟨fun h => absurd rfl h, ?_⟩
      refine tr_nil (hJ0 _ _ ?_)
      go_wp2_with fail
      obtain ⟨g0, g1, g2, g3, g4, g5, g6, g7⟩ := put8 R.out (.int .u8 (byt x 0)) (.int .u8 (byt x 1)) (.int .u8 (byt x 2)) (.int .u8 (byt x 3)) (.int .u8 (byt x 4)) (.int .u8 (byt x 5)) (.int .u8 (byt x 6)) (.int .u8 (byt x 7))
      refine bodyPost_ret (v := digV x) (by unfold digV; simp only [results, Tryd.results32]; simp [go_sem, g0, g1, g2, g3, g4, g5, g6, g7]) rfl ⟨by unfold digV; rfl, bel8 B.out (Nat.le_refl _) (by omega) _ _ _ _ _ _ _ _⟩
  · intro J hJ
    obtain ⟨cv16, v16, hrun, hRd, zv4, hB4⟩ := str_conv V0 s HSZ.out
    go_wp2_with fail
    refine ⟨fun _ => ext_trans Q.out hB4, ?_⟩
    have RT := Lib.hid hRd
    have Q : Hid (Below W.heap.size W v16) := Lib.hid (ext_trans Q.out hB4)
    clear hRd hB4 hrun zv4
    refine tr_eff rfl ?_
    intro J hJ
    go_wp2_with fail
    refine (begin_c _ 4 4 rfl).mono ?_
    unfold stV
    rintro e v17 ⟨rfl, hb⟩
    have RT := Lib.hid (RT.out.ext hb)
    have Q : Hid (Below W.heap.size W v17) := Lib.hid (ext_trans Q.out hb)
    clear hb
    go_wp2_with fail
    refine ⟨fun _ => Q.out, ?_⟩
    refine tr_eff rfl ?_
    intro J hJ
    go_wp2_with fail
    refine (rnum_c _ d hd).mono ?_
    rintro e v18 ⟨rfl, hb⟩
    have RT := Lib.hid (RT.out.ext hb)
    have Q : Hid (Below W.heap.size W v18) := Lib.hid (ext_trans Q.out hb)
    clear hb
    go_wp2_with fail
    refine ⟨fun _ => Q.out, ?_⟩
    refine tr_eff rfl ?_
    intro J hJ
    go_wp2_with fail
    refine (rin_c _ (begin 4) d hd OK4).mono ?_
    rw [show takeN (begin 4) d = s0 from HS.out.symm]
    unfold stV
    rintro e v19 ⟨rfl, hb⟩
    have RT := Lib.hid (RT.out.ext hb)
    have Q : Hid (Below W.heap.size W v19) := Lib.hid (ext_trans Q.out hb)
    clear hb
    go_wp2_with fail
    refine ⟨fun _ => Q.out, ?_⟩
    refine tr_eff rfl ?_
    intro J hJ
    go_wp2_with fail
    refine (rbytes_c _ s0 OKS _ _ _ _ RT hs100).mono ?_
    unfold stV
    rintro e v20 ⟨rfl, hb⟩
    have Q : Hid (Below W.heap.size W v20) := Lib.hid (ext_trans Q.out hb)
    clear hb
    go_wp2_with fail
    refine ⟨fun _ => Q.out, ?_⟩
    refine tr_eff rfl ?_
    intro J hJ
    go_wp2_with fail
    refine (out_c _ (fullS s0 s.data.toList) OKF).mono ?_
    rw [HXO.out]
    unfold digV
    rintro e v21 ⟨rfl, hb⟩
    have Q : Hid (Below W.heap.size W v21) := Lib.hid (ext_trans Q.out hb)
    have R := Lib.hid (keepB Q.out R.out)
    have B := Lib.hid (ext_trans B.out Q.out)
    obtain ⟨c0, c1, c2, c3, c4, c5, c6, c7, f0, f1, f2, f3, f4, f5, f6, f7⟩ := full8 R.out
    clear hb
    go_wp2_with fail
    refine ⟨fun _ => Q.out, ?_⟩
    refine tr_eff rfl ?_
    intro J hJ
    go_wp2_with fail
    refine ⟨fun h => absurd rfl h, ?_⟩
    refine tr_nil (hJ0 _ _ ?_)
    go_wp2_with fail
    obtain ⟨g0, g1, g2, g3, g4, g5, g6, g7⟩ := put8 R.out (.int .u8 (byt x 0)) (.int .u8 (byt x 1)) (.int .u8 (byt x 2)) (.int .u8 (byt x 3)) (.int .u8 (byt x 4)) (.int .u8 (byt x 5)) (.int .u8 (byt x 6)) (.int .u8 (byt x 7))
    refine bodyPost_ret (v := digV x) (by unfold digV; simp only [results, Tryd.results32]; simp [go_sem, g0, g1, g2, g3, g4, g5, g6, g7]) rfl ⟨by unfold digV; rfl, bel8 B.out (Nat.le_refl _) (by omega) _ _ _ _ _ _ _ _⟩
#print axioms rword_c
end Go.Proofs.YtbejjmmopdcjoaaDoor
