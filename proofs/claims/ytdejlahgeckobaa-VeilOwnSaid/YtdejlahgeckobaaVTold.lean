/-
  veil: told: the example holds.
-/
import Derived.Test.YtdejlahgeckobaaVOpen
namespace Go.Proofs.Ytdejlahgeckobaa
open Go.RowKit

theorem digK : digV 197121 = .agg #[.int .u8 1, .int .u8 2, .int .u8 3, .int .u8 0, .int .u8 0, .int .u8 0, .int .u8 0, .int .u8 0] := by
  unfold digV byt
  rfl
theorem salt_ne : saltN 197121 [97, 98] ≠ 0 := by decide +kernel
theorem Rd.ab {w : World} {b : Nat} {T : TypeId} {fr : Nat × Nat} (h : w.heap[b]? = some (.cells #[.int .u8 97, .int .u8 98] T fr)) : Rd w (some ⟨b, 0, none⟩) 2 2 [97, 98] :=
  ⟨rfl, Nat.le_refl _, by omega, fun _ => ⟨b, 0, rfl, (Array.getElem?_eq_some_iff.1 h).1, fun j hj => by
    rw [cell_of_row w b (0 + j) _ T fr h, Nat.zero_add]
    match j, hj with
    | 0, _ => rfl
    | 1, _ => rfl⟩, fun e => by cases e⟩

/-- the conversion of a literal's row to its own type: a mark behind its last cell -/
theorem conv_mark {P : Program} (w : World) (t e : TypeId) (g n c : Nat) (C : Array Value) (ht : P.underlying t = some (.slice e)) (he : P.underlying e = some (.int .u8)) (hg : w.heap[g]? = some (.cells C e (0, 0))) :
    ∃ w', (convert t t (.slice (some ⟨g, 0, none⟩) n c)).run P w = .ok (.slice (some ⟨g, 0, none⟩) n c) w' ∧ w'.heap[g]? = some (.cells C e (C.size, C.size + 1)) ∧ w.grownBy w' (some g) := by
  have hsh : w.shape? g = some (e, C.size) := by unfold World.shape?; rw [hg]
  refine ⟨w.freeze ⟨g, C.size, none⟩ 1, ?_, ?_, ?_⟩
  · simp [convert, run_underlying ht, run_underlying he, markStringish, hsh]
  · unfold World.freeze
    rw [if_neg (by decide)]
    show (w.heap.modify g _)[g]? = _
    rw [Array.getElem?_modify, if_pos rfl, hg]
    rfl
  · unfold World.freeze
    rw [if_neg (by decide)]
    exact ⟨rfl, rfl, rfl, by simp, fun k hk hne => by
      show (w.heap.modify g _)[k]? = _
      rw [Array.getElem?_modify, if_neg (fun e => hne (by rw [e]))]⟩
#print axioms conv_mark

def Holds0 (w : World) (e : Ending) (w' : World) : Prop := e = .returned (.bool true) ∧ Below w.heap.size w w'

set_option maxRecDepth 100000 in
set_option maxHeartbeats 4000000 in
theorem told_c (w : World) : Calls Try.prog 35 #[] w (Holds0 w) := by
  have LK : 197121 < 18446744073709551616 := by omega
  have HB : Hid (sealR 197121 [97, 98] = boxB 197121 [97, 98]) := by show _ = _; unfold sealR; rw [if_pos (by decide)]
  have HP : Hid (openR 197121 (boxB 197121 [97, 98]) = ([97, 98], 0)) := openR_box LK (by decide)
  obtain ⟨X, hX⟩ : ∃ X, X = boxB 197121 [97, 98] := ⟨_, rfl⟩
  have XL : Hid (X.length = 10) := by rw [hX]; show _ = _; rw [boxB_len]; rfl
  rw [← hX] at HB HP
  clear hX
  obtain ⟨cc, hc⟩ : ∃ c, c = saltN 197121 [97, 98] := ⟨_, rfl⟩
  have Lc : cc < 18446744073709551616 := by rw [hc]; exact saltN_lt LK (by decide)
  have HC : Hid (commitN 197121 [97, 98] = cc) := by rw [hc]; show _ = _; unfold commitN; rw [if_pos (by decide)]
  have hc0 : cc ≠ 0 := by rw [hc]; exact salt_ne
  obtain ⟨xw, hw⟩ : ∃ x, x = wordN 197121 [115, 97, 108, 116] := ⟨_, rfl⟩
  obtain ⟨xo, ho⟩ : ∃ x, x = ofN [97, 98] := ⟨_, rfl⟩
  have Lw : xw < 18446744073709551616 := by rw [hw]; exact wordN_lt LK (by decide)
  have Lo : xo < 18446744073709551616 := by rw [ho]; exact ofN_lt (by decide)
  have HW : Hid (wordN 197121 (⟨#[115, 97, 108, 116]⟩ : ByteArray).data.toList = xw) := hw.symm
  have HO : Hid (ofN [97, 98] = xo) := ho.symm
  have HT : Hid (twoN xw xo = cc) := by rw [hc, hw, ho]; exact rfl
  have E1 := neq_d Lc (show 0 < 18446744073709551616 by omega)
  rw [decide_eq_false hc0, Bool.not_false, digV0] at E1
  have G1 := guard_d .neq cc 0
  rw [digV0] at G1
  have E2 := eql_d Lc Lc
  rw [decide_eq_true rfl] at E2
  have G2 := guard_d .eql cc cc
  unfold digV at E1 G1 E2 G2
  clear hc hw ho hc0
  have DK0 : Hid ((World.alloc (World.alloc w (.cells #[.int .u8 1, .int .u8 2, .int .u8 3, .int .u8 0, .int .u8 0, .int .u8 0, .int .u8 0, .int .u8 0] 31)) (.cells #[.int .u8 97, .int .u8 98] 5)).heap[w.heap.size]? = some (.cells #[.int .u8 1, .int .u8 2, .int .u8 3, .int .u8 0, .int .u8 0, .int .u8 0, .int .u8 0, .int .u8 0] 31 (0, 0))) := keepA (Go.heap_alloc_new w _)
  obtain ⟨W1, hrun, hda, hgr⟩ := conv_mark (P := Try.prog) (World.alloc (World.alloc w (.cells #[.int .u8 1, .int .u8 2, .int .u8 3, .int .u8 0, .int .u8 0, .int .u8 0, .int .u8 0, .int .u8 0] 31)) (.cells #[.int .u8 97, .int .u8 98] 5)) 22 5 (w.heap.size + 1) 2 2 #[.int .u8 97, .int .u8 98] Try.underlying22 Try.underlying5 (heap_alloc_newest (w := World.alloc _ _) (by simp))
  have DA := Lib.hid hda
  have DK := Lib.hid (keepG hgr (by omega) DK0.out)
  have B : Hid (Below w.heap.size w W1) := below_grown (ext_trans (ext_alloc _ _) (ext_alloc _ _)) (by simp; omega) hgr (fun k hk => by injection hk with hk; omega)
  clear hda hgr DK0
  go_enter Try.func35, Try.ntmps35
  go_wp2_with fail
  clear hrun
  rw [← digK]
  refine (seal_c W1 197121 LK _ _ _ [97, 98] (Lib.hid (Rd.ab DA.out)) (by omega)).mono ?_
  rw [HB.out]
  rintro e w2 ⟨E, A2, n2, c2, rfl, ho, hb⟩
  obtain rfl : 10 = n2 := by rw [← ho.len, XL.out]
  have O2 := Lib.hid ho
  replace DK := Lib.hid (keepB hb DK.out)
  replace B := Lib.hid (ext_trans B.out hb)
  clear ho hb DA
  obtain ⟨k0, k1, k2, k3, k4, k5, k6, k7, _, _, _, _, _, _, _, _⟩ := full8 DK.out
  go_wp2_with fail
  rw [← digK]
  refine (open_c w2 197121 LK _ _ _ X (Lib.hid O2.out.rd)).mono ?_
  rintro e w3 ⟨A3, n3, c3, err, rfl, ho, herr, hb⟩
  rw [HP.out] at ho herr
  obtain rfl : err = 0 := herr
  obtain rfl : 2 = n3 := by rw [← ho.len]; rfl
  have O3 := Lib.hid ho
  replace DK := Lib.hid (keepB hb DK.out)
  replace B := Lib.hid (ext_trans B.out hb)
  clear ho hb k0 k1 k2 k3 k4 k5 k6 k7 O2
  obtain ⟨k0, k1, k2, k3, k4, k5, k6, k7, _, _, _, _, _, _, _, _⟩ := full8 DK.out
  obtain ⟨W4, hrun, hda, hgr⟩ := conv_mark (P := Try.prog) (World.alloc w3 (.cells #[.int .u8 97, .int .u8 98] 5)) 22 5 w3.heap.size 2 2 #[.int .u8 97, .int .u8 98] Try.underlying22 Try.underlying5 (Go.heap_alloc_new w3 _)
  have hbw : Below w3.heap.size w3 W4 := below_grown (ext_alloc _ _) (by simp) hgr (fun k hk => by injection hk with hk; omega)
  go_wp2_with fail
  rw [← digK]
  have RA4 : Hid (Rd W4 (some ⟨w3.heap.size, 0, none⟩) 2 2 [97, 98]) := Rd.ab hda
  replace DK := Lib.hid (keepB hbw DK.out)
  replace B := Lib.hid (ext_trans B.out hbw)
  replace O3 := Lib.hid (O3.out.ext hbw)
  clear hrun hda hgr hbw
  refine (commit_c _ 197121 LK _ _ _ [97, 98] RA4 (by omega)).mono ?_
  rw [HC.out]
  unfold digV
  rintro e w4 ⟨rfl, hb⟩
  replace DK := Lib.hid (keepB hb DK.out)
  replace B := Lib.hid (ext_trans B.out hb)
  replace O3 := Lib.hid (O3.out.ext hb)
  clear hb k0 k1 k2 k3 k4 k5 k6 k7 RA4
  go_wp2_with fail
  have DC : Hid ((World.alloc w4 (.cells #[.int .u8 (byt cc 0), .int .u8 (byt cc 1), .int .u8 (byt cc 2), .int .u8 (byt cc 3), .int .u8 (byt cc 4), .int .u8 (byt cc 5), .int .u8 (byt cc 6), .int .u8 (byt cc 7)] 31)).heap[w4.heap.size]? = some (.cells #[.int .u8 (byt cc 0), .int .u8 (byt cc 1), .int .u8 (byt cc 2), .int .u8 (byt cc 3), .int .u8 (byt cc 4), .int .u8 (byt cc 5), .int .u8 (byt cc 6), .int .u8 (byt cc 7)] 31 (0, 0))) := Go.heap_alloc_new w4 _
  replace DK := Lib.hid (keepA (x := .cells #[.int .u8 (byt cc 0), .int .u8 (byt cc 1), .int .u8 (byt cc 2), .int .u8 (byt cc 3), .int .u8 (byt cc 4), .int .u8 (byt cc 5), .int .u8 (byt cc 6), .int .u8 (byt cc 7)] 31) DK.out)
  replace B := Lib.hid (ext_trans B.out (ext_alloc w4 (.cells #[.int .u8 (byt cc 0), .int .u8 (byt cc 1), .int .u8 (byt cc 2), .int .u8 (byt cc 3), .int .u8 (byt cc 4), .int .u8 (byt cc 5), .int .u8 (byt cc 6), .int .u8 (byt cc 7)] 31)))
  replace O3 := Lib.hid (O3.out.ext (ext_alloc w4 (.cells #[.int .u8 (byt cc 0), .int .u8 (byt cc 1), .int .u8 (byt cc 2), .int .u8 (byt cc 3), .int .u8 (byt cc 4), .int .u8 (byt cc 5), .int .u8 (byt cc 6), .int .u8 (byt cc 7)] 31)))
  generalize World.alloc w4 (.cells #[.int .u8 (byt cc 0), .int .u8 (byt cc 1), .int .u8 (byt cc 2), .int .u8 (byt cc 3), .int .u8 (byt cc 4), .int .u8 (byt cc 5), .int .u8 (byt cc 6), .int .u8 (byt cc 7)] 31) = W at *
  have TX : ∀ v, Below W.heap.size W v → (convert 22 9 (.slice A3 2 c3)).run Try.prog v = .ok (.string ⟨#[97, 98]⟩) v := fun v hC => (O3.out.ext hC).rd.text Try.underlying22 Try.underlying5 Try.underlying9
  refine wp_region_tr (fin := 99) (fun v => Below W.heap.size W v) (.pure 0 (.pure 1 (.pure 2 (.pure 3 (.pure 4 (.pure 5 (.pure 6 (.pure 7 (.pure 8 (.pure 9 (.pure 10 (.pure 11 (.pure 12 (.pure 13 (.pure 14 (.pure 15 (.pure 16 (.pure 17 (.pure 18 (.pure 19 (.eff 20 (.eff 21 (.eff 22 (.pure 23 (.pure 24 (.pure 25 (.pure 26 (.two 27 (.eff 28 (.eff 29 (.eff 30 (.eff 31 (.pure 32 (.pure 33 (.pure 34 .nil))))))) 28 (.two 27 (.eff 29 (.eff 30 (.eff 31 (.pure 32 (.pure 33 (.pure 34 .nil)))))) 29 (.eff 27 (.eff 30 (.eff 31 (.pure 32 (.pure 33 (.pure 34 .nil))))))))))))))))))))))))))))))))))) (by kernel_rfl) (by kernel_rfl) (by kernel_rfl) (fun _ _ d _ _ h => by cases d <;> exact h) (ext_drew W) ?_
  intro J0 hJ0
  iterate 20 (refine tr_pure (v := ?_) rfl (by rfl) ?_ ?_; rotate_left; (focus (intro v hC; obtain ⟨k0, k1, k2, k3, k4, k5, k6, k7, _, _, _, _, _, _, _, _⟩ := full8 (keepB hC DK.out); obtain ⟨c0, c1, c2, c3, c4, c5, c6, c7, _, _, _, _, _, _, _, _⟩ := full8 (keepB hC DC.out); have hT := TX v hC; go_simp; try with_reducible rfl)); try go_simp)
  have Q : Hid (Below W.heap.size W W.drew) := Lib.hid (ext_drew W)
  refine tr_eff rfl ?_
  intro J hJ
  go_wp2_with fail
  have DA : Hid ((World.alloc W (.cells #[.int .u8 97, .int .u8 98] 5)).drew.heap[W.heap.size]? = some (.cells #[.int .u8 97, .int .u8 98] 5 (0, 0))) := Go.heap_alloc_new W _
  replace Q : Hid (Below W.heap.size W (World.alloc W (.cells #[.int .u8 97, .int .u8 98] 5)).drew) := Lib.hid (ext_trans (ext_alloc _ _) (ext_drew _))
  refine ⟨fun _ => Q.out, ?_⟩
  refine tr_eff rfl ?_
  intro J hJ
  obtain ⟨V1, hrun, hda, hgr⟩ := conv_mark (P := Try.prog) ((World.alloc W (.cells #[.int .u8 97, .int .u8 98] 5)).drew) 22 5 W.heap.size 2 2 #[.int .u8 97, .int .u8 98] Try.underlying22 Try.underlying5 DA.out
  have RA : Hid (Rd V1 (some ⟨W.heap.size, 0, none⟩) 2 2 [97, 98]) := Rd.ab hda
  have Q : Hid (Below W.heap.size W V1) := below_grown Q.out Q.out.size hgr (fun k hk => by injection hk with hk; omega)
  go_wp2_with fail
  clear hrun hda hgr
  refine ⟨fun _ => Q.out, ?_⟩
  refine tr_eff rfl ?_
  intro J hJ
  go_wp2_with fail
  rw [← digK, ← show digV cc = .agg #[.int .u8 (byt cc 0), .int .u8 (byt cc 1), .int .u8 (byt cc 2), .int .u8 (byt cc 3), .int .u8 (byt cc 4), .int .u8 (byt cc 5), .int .u8 (byt cc 6), .int .u8 (byt cc 7)] from rfl]
  refine (opens_c _ cc 197121 Lc LK _ _ _ [97, 98] RA (by omega)).mono ?_
  rw [HC.out, decide_eq_true (show 2 ≤ 65536 by omega), decide_eq_true rfl, Bool.true_and]
  rintro e w5 ⟨rfl, hb⟩
  replace Q : Hid (Below W.heap.size W w5) := Lib.hid (ext_trans Q.out hb)
  clear hb RA DA
  go_wp2_with fail
  refine ⟨fun _ => Q.out, ?_⟩
  iterate 4 (refine tr_pure (v := ?_) rfl (by rfl) ?_ ?_; rotate_left; (focus (intro v hC; obtain ⟨k0, k1, k2, k3, k4, k5, k6, k7, _, _, _, _, _, _, _, _⟩ := full8 (keepB hC DK.out); obtain ⟨c0, c1, c2, c3, c4, c5, c6, c7, _, _, _, _, _, _, _, _⟩ := full8 (keepB hC DC.out); have hT := TX v hC; go_simp; try with_reducible rfl)); try go_simp)
  refine tr_two rfl rfl ?_ ?_
  · intro J hJ
    go_wp2_with fail
    rw [← digK]
    refine (word_c _ 197121 LK ⟨#[115, 97, 108, 116]⟩ (by decide)).mono ?_
    rw [HW.out]
    unfold digV
    rintro e w6 ⟨rfl, hb⟩
    replace Q : Hid (Below W.heap.size W w6) := Lib.hid (ext_trans Q.out hb)
    clear hb
    go_wp2_with fail
    refine ⟨fun _ => Q.out, ?_⟩
    refine tr_eff rfl ?_
    intro J hJ
    go_wp2_with fail
    have DA : Hid ((World.alloc w6 (.cells #[.int .u8 97, .int .u8 98] 5)).heap[w6.heap.size]? = some (.cells #[.int .u8 97, .int .u8 98] 5 (0, 0))) := Go.heap_alloc_new w6 _
    have z6 : W.heap.size ≤ w6.heap.size := Q.out.size
    replace Q : Hid (Below W.heap.size W (World.alloc w6 (.cells #[.int .u8 97, .int .u8 98] 5))) := Lib.hid (ext_trans Q.out (ext_alloc _ _))
    refine ⟨fun _ => Q.out, ?_⟩
    refine tr_eff rfl ?_
    intro J hJ
    obtain ⟨V7, hrun, hda, hgr⟩ := conv_mark (P := Try.prog) (World.alloc w6 (.cells #[.int .u8 97, .int .u8 98] 5)) 22 5 w6.heap.size 2 2 #[.int .u8 97, .int .u8 98] Try.underlying22 Try.underlying5 DA.out
    have RA : Hid (Rd V7 (some ⟨w6.heap.size, 0, none⟩) 2 2 [97, 98]) := Rd.ab hda
    have Q : Hid (Below W.heap.size W V7) := below_grown Q.out Q.out.size hgr (fun k hk => by injection hk with hk; omega)
    go_wp2_with fail
    clear hrun hda hgr
    refine ⟨fun _ => Q.out, ?_⟩
    refine tr_eff rfl ?_
    intro J hJ
    go_wp2_with fail
    refine (of_c _ _ _ _ _ RA (by omega)).mono ?_
    rw [HO.out]
    unfold digV
    rintro e w9 ⟨rfl, hb⟩
    have Q : Hid (Below W.heap.size W w9) := Lib.hid (ext_trans Q.out hb)
    clear hb
    go_wp2_with fail
    refine ⟨fun _ => Q.out, ?_⟩
    refine tr_eff rfl ?_
    intro J hJ
    go_wp2_with fail
    refine (two_c _ xw xo Lw Lo).mono ?_
    rw [HT.out]
    unfold digV
    rintro e w10 ⟨rfl, hb⟩
    have Q : Hid (Below W.heap.size W w10) := Lib.hid (ext_trans Q.out hb)
    clear hb
    go_wp2_with fail
    refine ⟨fun _ => Q.out, ?_⟩
    iterate 3 (refine tr_pure (v := ?_) rfl (by rfl) ?_ ?_; rotate_left; (focus (intro v hC; obtain ⟨k0, k1, k2, k3, k4, k5, k6, k7, _, _, _, _, _, _, _, _⟩ := full8 (keepB hC DK.out); obtain ⟨c0, c1, c2, c3, c4, c5, c6, c7, _, _, _, _, _, _, _, _⟩ := full8 (keepB hC DC.out); have hT := TX v hC; go_simp; try with_reducible rfl)); try go_simp)
    refine tr_nil (hJ0 _ _ ?_)
    clear hJ0
    go_wp2_with fail
    go_ret
    exact ⟨rfl, ext_trans B.out Q.out⟩
  · intro J hJ
    go_wp2_with fail
    have DA : Hid ((World.alloc w5 (.cells #[.int .u8 97, .int .u8 98] 5)).heap[w5.heap.size]? = some (.cells #[.int .u8 97, .int .u8 98] 5 (0, 0))) := Go.heap_alloc_new w5 _
    have z5 : W.heap.size ≤ w5.heap.size := Q.out.size
    replace Q : Hid (Below W.heap.size W (World.alloc w5 (.cells #[.int .u8 97, .int .u8 98] 5))) := Lib.hid (ext_trans Q.out (ext_alloc _ _))
    refine ⟨fun _ => Q.out, ?_⟩
    refine tr_two rfl rfl ?_ ?_
    · intro J hJ
      go_wp2_with fail
      rw [← digK]
      refine (word_c _ 197121 LK ⟨#[115, 97, 108, 116]⟩ (by decide)).mono ?_
      rw [HW.out]
      unfold digV
      rintro e w6 ⟨rfl, hb⟩
      replace Q : Hid (Below W.heap.size W w6) := Lib.hid (ext_trans Q.out hb)
      have DA := Lib.hid (keepB hb DA.out)
      clear hb
      go_wp2_with fail
      refine ⟨fun _ => Q.out, ?_⟩
      refine tr_eff rfl ?_
      intro J hJ
      obtain ⟨V7, hrun, hda, hgr⟩ := conv_mark (P := Try.prog) w6 22 5 w5.heap.size 2 2 #[.int .u8 97, .int .u8 98] Try.underlying22 Try.underlying5 DA.out
      have RA : Hid (Rd V7 (some ⟨w5.heap.size, 0, none⟩) 2 2 [97, 98]) := Rd.ab hda
      have Q : Hid (Below W.heap.size W V7) := below_grown Q.out Q.out.size hgr (fun k hk => by injection hk with hk; omega)
      go_wp2_with fail
      clear hrun hda hgr
      refine ⟨fun _ => Q.out, ?_⟩
      refine tr_eff rfl ?_
      intro J hJ
      go_wp2_with fail
      refine (of_c _ _ _ _ _ RA (by omega)).mono ?_
      rw [HO.out]
      unfold digV
      rintro e w9 ⟨rfl, hb⟩
      have Q : Hid (Below W.heap.size W w9) := Lib.hid (ext_trans Q.out hb)
      clear hb
      go_wp2_with fail
      refine ⟨fun _ => Q.out, ?_⟩
      refine tr_eff rfl ?_
      intro J hJ
      go_wp2_with fail
      refine (two_c _ xw xo Lw Lo).mono ?_
      rw [HT.out]
      unfold digV
      rintro e w10 ⟨rfl, hb⟩
      have Q : Hid (Below W.heap.size W w10) := Lib.hid (ext_trans Q.out hb)
      clear hb
      go_wp2_with fail
      refine ⟨fun _ => Q.out, ?_⟩
      iterate 3 (refine tr_pure (v := ?_) rfl (by rfl) ?_ ?_; rotate_left; (focus (intro v hC; obtain ⟨k0, k1, k2, k3, k4, k5, k6, k7, _, _, _, _, _, _, _, _⟩ := full8 (keepB hC DK.out); obtain ⟨c0, c1, c2, c3, c4, c5, c6, c7, _, _, _, _, _, _, _, _⟩ := full8 (keepB hC DC.out); have hT := TX v hC; go_simp; try with_reducible rfl)); try go_simp)
      refine tr_nil (hJ0 _ _ ?_)
      clear hJ0
      go_wp2_with fail
      go_ret
      exact ⟨rfl, ext_trans B.out Q.out⟩
    · intro J hJ
      obtain ⟨V7, hrun, hda, hgr⟩ := conv_mark (P := Try.prog) (World.alloc w5 (.cells #[.int .u8 97, .int .u8 98] 5)) 22 5 w5.heap.size 2 2 #[.int .u8 97, .int .u8 98] Try.underlying22 Try.underlying5 DA.out
      have RA : Hid (Rd V7 (some ⟨w5.heap.size, 0, none⟩) 2 2 [97, 98]) := Rd.ab hda
      have Q : Hid (Below W.heap.size W V7) := below_grown Q.out Q.out.size hgr (fun k hk => by injection hk with hk; omega)
      go_wp2_with fail
      clear hrun hda hgr
      refine ⟨fun _ => Q.out, ?_⟩
      refine tr_eff rfl ?_
      intro J hJ
      go_wp2_with fail
      rw [← digK]
      refine (word_c _ 197121 LK ⟨#[115, 97, 108, 116]⟩ (by decide)).mono ?_
      rw [HW.out]
      unfold digV
      rintro e w6 ⟨rfl, hb⟩
      replace Q : Hid (Below W.heap.size W w6) := Lib.hid (ext_trans Q.out hb)
      have RA := Lib.hid (RA.out.ext hb)
      clear hb
      go_wp2_with fail
      refine ⟨fun _ => Q.out, ?_⟩
      refine tr_eff rfl ?_
      intro J hJ
      go_wp2_with fail
      refine (of_c _ _ _ _ _ RA (by omega)).mono ?_
      rw [HO.out]
      unfold digV
      rintro e w9 ⟨rfl, hb⟩
      have Q : Hid (Below W.heap.size W w9) := Lib.hid (ext_trans Q.out hb)
      clear hb
      go_wp2_with fail
      refine ⟨fun _ => Q.out, ?_⟩
      refine tr_eff rfl ?_
      intro J hJ
      go_wp2_with fail
      refine (two_c _ xw xo Lw Lo).mono ?_
      rw [HT.out]
      unfold digV
      rintro e w10 ⟨rfl, hb⟩
      have Q : Hid (Below W.heap.size W w10) := Lib.hid (ext_trans Q.out hb)
      clear hb
      go_wp2_with fail
      refine ⟨fun _ => Q.out, ?_⟩
      iterate 3 (refine tr_pure (v := ?_) rfl (by rfl) ?_ ?_; rotate_left; (focus (intro v hC; obtain ⟨k0, k1, k2, k3, k4, k5, k6, k7, _, _, _, _, _, _, _, _⟩ := full8 (keepB hC DK.out); obtain ⟨c0, c1, c2, c3, c4, c5, c6, c7, _, _, _, _, _, _, _, _⟩ := full8 (keepB hC DC.out); have hT := TX v hC; go_simp; try with_reducible rfl)); try go_simp)
      refine tr_nil (hJ0 _ _ ?_)
      clear hJ0
      go_wp2_with fail
      go_ret
      exact ⟨rfl, ext_trans B.out Q.out⟩
#print axioms told_c
end Go.Proofs.Ytdejlahgeckobaa
