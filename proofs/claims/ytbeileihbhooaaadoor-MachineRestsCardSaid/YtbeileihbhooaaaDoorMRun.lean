/-
  machine: Run, Step: contracts.
-/
import Derived.Test.YtbeileihbhooaaaDoorMRun0
import Derived.Test.YtbeileihbhooaaaDoorMIter
namespace Go.Proofs.YtbeileihbhooaaaDoor
open Go.RowKit

/-- what a run comes to -/
def RunI (l : List Ins) (s : MS) (most : Int) (t : MS) (k : Nat) (over : Bool) : Prop :=
  if rightM s = true then Stop l s most k ∧ t = iterV l k s ∧ over = (t.halt != 0) else t = s ∧ k = 0 ∧ over = false
def Runs (l : List Ins) (s : MS) (n : Nat) (most : Int) (w : World) (e : Ending) (w' : World) : Prop :=
  ∃ (t : MS) (k : Nat) (over : Bool) (A : Option Addr) (c : Nat), e = .returned (.tuple #[stV t.pc A n c t.halt, .int .i64 k, .bool over]) ∧ RunI l s (if 1048576 < most then 1048576 else most) t k over ∧ t.mem.length = n ∧ StateOwn w t A n c w'
theorem RunI.own {l : List Ins} {s : MS} {most : Int} {t : MS} {k : Nat} {over : Bool} (h : RunI l s most t k over) : t.mem.length = s.mem.length := by
  unfold RunI at h
  split at h
  · rw [h.2.1]; exact iterV_length _ _ _
  · rw [h.1]
theorem OwnW.some_ {w : World} {E : TypeId} {B : Nat} {A : Option Addr} {n c : Nat} {bs : List Int} (h : OwnW w E B A n c bs) (hn : 0 < n) : ∃ r, A = some ⟨r, 0, none⟩ ∧ B ≤ r ∧ r < w.heap.size := h.blockless hn

set_option maxRecDepth 100000 in
set_option maxHeartbeats 4000000 in
theorem run_c (w : World) (hf : Hid (Forms w)) (CA : Option Addr) (cn cd : Nat) (l : List Ins) (hl : Hid (RdS w CA cn cd l)) (pc : Int) (A : Option Addr) (n c : Nat) (halt : Int) (m : List Int) (h : Hid (RdW w A n c m)) (HI : Hid (∀ x ∈ m, In32 x)) (hn : n ≤ 1000000) (most : Int) (hm1 : -9223372036854775808 ≤ most) (hm2 : most < 9223372036854775808) : Calls Tryd.prog 18 #[.slice CA cn cd, stV pc A n c halt, .int .i64 most] w (Runs l ⟨pc, m, halt⟩ n most w) := by
  have HL := Lib.hid h.out.len
  obtain ⟨mm, hmm⟩ : ∃ mm : Int, (if 1048576 < most then 1048576 else most) = mm := ⟨_, rfl⟩
  have hmm1 : mm ≤ 1048576 := by rw [← hmm]; split <;> omega
  have HMM : Hid (∀ e w', Runs l ⟨pc, m, halt⟩ n most w e w' ↔ ∃ (t : MS) (k : Nat) (over : Bool) (A : Option Addr) (c : Nat), e = .returned (.tuple #[stV t.pc A n c t.halt, .int .i64 k, .bool over]) ∧ RunI l ⟨pc, m, halt⟩ mm t k over ∧ t.mem.length = n ∧ StateOwn w t A n c w') := fun e w' => by unfold Runs; rw [hmm]
  go_enter Tryd.func18, Tryd.ntmps18
  go_upto_region 1 with fail
  obtain ⟨g1, hg1⟩ : ∃ g, g = w.heap.size := ⟨_, rfl⟩
  obtain ⟨W1, hW1⟩ : ∃ W1, W1 = World.alloc w (.cells #[.int .i64 pc, .slice A n c, .int .i64 halt] 30) := ⟨_, rfl⟩
  have C3 : Hid (W1.heap[g1]? = some (.cells #[.int .i64 pc, .slice A n c, .int .i64 halt] 30 (0, 0))) := by rw [hW1, hg1]; exact Go.heap_alloc_new w _
  have B : Hid (Below w.heap.size w W1) := by rw [hW1]; exact ext_alloc w _
  have hs1 : W1.heap.size = g1 + 1 := by rw [hW1, hg1]; simp
  obtain ⟨g2, hg2⟩ : ∃ g, g = g1 + 1 := ⟨_, rfl⟩
  rw [← hW1, ← hg1, ← hg2]
  have HG1 : Hid (w.heap.size = g1) := hg1.symm
  rw [← hg2] at hs1
  clear hW1 hg1
  obtain ⟨U, hU⟩ : ∃ U, U = World.alloc W1 (.cells #[.int .i64 0, .slice none 0 0, .int .i64 0] 30) := ⟨_, rfl⟩
  have C4 : Hid (U.heap[g2]? = some (.cells #[.int .i64 0, .slice none 0 0, .int .i64 0] 30 (0, 0))) := by rw [hU, ← hs1]; exact Go.heap_alloc_new W1 _
  have HU : Hid (U.heap.size = g2 + 1) := by show _ = _; rw [hU]; simp [hs1]
  replace C3 : Hid (U.heap[g1]? = some (.cells #[.int .i64 pc, .slice A n c, .int .i64 halt] 30 (0, 0))) := by show _ = _; rw [hU]; exact keepG (ext_alloc W1 _) C3.out
  replace B : Hid (Below w.heap.size w U) := by rw [hU]; exact ext_trans B.out (ext_alloc W1 _)
  rw [← hU]
  have HG2 := Lib.hid hg2
  clear hU hs1 hg2
  have RD := Lib.hid (h.out.ext B.out)
  clear h
  obtain ⟨q0, q1, q2⟩ := full3i C3.out
  go_wp2_with fail
  clear q0 q1 q2
  refine (sclone_c _ pc A n c halt m RD hn).mono ?_
  rintro e v ⟨A2, c2, rfl, ho, hb⟩
  replace C3 := Lib.hid (keepG hb C3.out)
  replace C4 := Lib.hid (keepG hb C4.out)
  replace B := Lib.hid (ext_trans B.out hb)
  have HO : Hid (OwnW v 21 U.heap.size A2 n c2 m) := ho
  clear hb ho RD
  obtain ⟨q0, q1, q2, f0, f1, f2⟩ := full3f C3.out
  go_upto_region 2 with fail
  clear q0 q1 q2 f0 f1 f2
  have hg12 : g1 < g2 := by have := HG2.out; omega
  have HUg : Hid (g1 < U.heap.size) := by show _ < _; rw [HU.out]; omega
  have j0 := HO.out.kept (grownSetM (b := g1) (j := 0) (.int .i64 pc)) (fun k e => by injection e with e; have := HUg.out; omega)
  have j1 := j0.kept (grownSetM (b := g1) (j := 1) (.slice A2 n c2)) (fun k e => by injection e with e; have := HUg.out; omega)
  replace HO := Lib.hid (j1.kept (grownSetM (b := g1) (j := 2) (.int .i64 halt)) (fun k e => by injection e with e; have := HUg.out; omega))
  replace C3 := Lib.hid (set3M C3.out (.int .i64 pc) (.slice A2 n c2) (.int .i64 halt))
  replace C4 := Lib.hid ((awayM (g := g1) (j := 2) (v := .int .i64 halt) (show g2 ≠ g1 by omega)).trans ((awayM (g := g1) (j := 1) (v := .slice A2 n c2) (show g2 ≠ g1 by omega)).trans ((awayM (g := g1) (j := 0) (v := .int .i64 pc) (show g2 ≠ g1 by omega)).trans C4.out)))
  replace B := Lib.hid (bel3M (b := g1) B.out (by have := HG1.out; omega) (.int .i64 pc) (.slice A2 n c2) (.int .i64 halt))
  clear j0 j1
  generalize ((v.setCell ⟨g1, 0, none⟩ (.int .i64 pc)).setCell ⟨g1, 1, none⟩ (.slice A2 n c2)).setCell ⟨g1, 2, none⟩ (.int .i64 halt) = V at HO C3 C4 B ⊢
  obtain ⟨q0, q1, q2⟩ := full3i C3.out
  go_wp2_with fail
  clear q0 q1 q2
  refine (right_s _ pc A2 n c2 halt m HL.out HO.out.rd.le).mono ?_
  obtain ⟨R, hR⟩ : ∃ R, R = rightM ⟨pc, m, halt⟩ := ⟨_, rfl⟩
  rw [← hR]
  have HR := Lib.hid hR
  clear hR
  rintro e v2 ⟨rfl, hb⟩
  replace C3 := Lib.hid (keepG hb C3.out)
  replace C4 := Lib.hid (keepG hb C4.out)
  replace B := Lib.hid (ext_trans B.out hb)
  replace HO := Lib.hid (HO.out.ext hb)
  clear hb
  cases R with
  | false =>
    obtain ⟨q0, q1, q2⟩ := full3i C3.out
    obtain ⟨p0, p1, p2, f0, f1, f2⟩ := full3f C4.out
    go_wp2_with fail
    have R := Lib.hid (set3M C4.out (.int .i64 pc) (.slice A2 n c2) (.int .i64 halt))
    obtain ⟨e0, e1, e2⟩ := full3i R.out
    refine bodyPost_ret (v := .tuple #[stV pc A2 n c2 halt, .int .i64 (0 : Nat), .bool false]) (by simp only [results, Tryd.results18]; simp [go_sem, e0, e1, e2]) rfl ((HMM.out _ _).2 ⟨⟨pc, m, halt⟩, 0, false, A2, c2, rfl, ?_, HL.out, ?_, ?_⟩)
    · unfold RunI
      rw [if_neg (by rw [← HR.out]; decide)]
      exact ⟨rfl, rfl, rfl⟩
    · have k1 := HO.out.kept (grownSetM (b := g2) (j := 0) (.int .i64 pc)) (fun k e => by injection e with e; have := HU.out; omega)
      have k2 := k1.kept (grownSetM (b := g2) (j := 1) (.slice A2 n c2)) (fun k e => by injection e with e; have := HU.out; omega)
      have k3 := k2.kept (grownSetM (b := g2) (j := 2) (.int .i64 halt)) (fun k e => by injection e with e; have := HU.out; omega)
      exact k3.up (by rw [HU.out]; have := HG1.out; omega)
    · exact bel3M B.out (by have := HG1.out; omega) _ _ _
  | true =>
    have HRT : Hid (rightM ⟨pc, m, halt⟩ = true) := HR.out.symm
    clear HR
    have hn1 : 0 < n := by have := (of_decide_eq_true HRT.out).1; dsimp only at this; have := HL.out; omega
    obtain ⟨r, rfl, hr1, hr2⟩ := HO.out.some_ hn1
    have hgr : g2 < r := by have := HU.out; omega
    have ST : Hid (StM v2 g1 r n c2 (iterV l 0 ⟨pc, m, halt⟩)) := ⟨C3.out, HO.out.up (by have := HU.out; omega)⟩
    clear HO C3 hr1
    go_wp2_with fail
    refine (ops_c _).mono ?_
    rintro e v3 ⟨mp, rfl, hmp, hmap, hb⟩
    have hv2 := hr2
    replace ST := Lib.hid (ST.out.ext hb)
    replace C4 := Lib.hid (keepG hb C4.out)
    replace B := Lib.hid (ext_trans B.out hb)
    have HM := Lib.hid hmap
    have hmr : r < mp := by omega
    have HMP := Lib.hid hmp
    clear hb hmap hmp hv2 hr2
    go_wp2_with fail
    obtain ⟨s0, hs0⟩ : ∃ s0 : MS, s0 = ⟨pc, m, halt⟩ := ⟨_, rfl⟩
    have HS0 := Lib.hid hs0
    rw [← hs0] at ST HMM HRT
    have HI0 : Hid (∀ x ∈ s0.mem, In32 x) := by rw [hs0]; exact HI.out
    have HN0 : Hid (s0.mem.length = n) := by rw [hs0]; exact HL.out
    clear hs0 HI HL
    go_loopw [10] (fun iv wr => ∃ k : Nat, iv = .int .i64 k ∧ Hid ((k : Int) ≤ mm ∨ k = 0) ∧ Hid (∀ i, i < k → (iterV l i s0).halt = 0) ∧ Hid (StM wr g1 r n c2 (iterV l k s0)) ∧ Hid (MapTo wr mp 14) ∧ Hid (wr.heap[g2]? = some (.cells #[.int .i64 0, .slice none 0 0, .int .i64 0] 30 (0, 0))) ∧ Hid (Below w.heap.size w wr)) (fun iv _ => mm.toNat - (intOf iv).toNat)
    case atStart => exact ⟨0, rfl, .inr rfl, fun i hi => absurd hi (by omega), ST.out, HM.out, C4.out, B.out⟩
    case round =>
      clear ST HM C4 B
      obtain ⟨k, rfl, HK, HA, ST, HM, C4, B⟩ := hrel
      obtain ⟨t, ht⟩ : ∃ t, t = iterV l k s0 := ⟨_, rfl⟩
      have HTR : Hid (rightM t = true) := by rw [ht]; exact iterV_right HRT.out k
      have HTI : Hid (∀ x ∈ t.mem, In32 x) := by rw [ht]; exact iterV_in HI0.out k
      have HTL : Hid (t.mem.length = n) := by rw [ht]; exact (iterV_length _ _ _).trans HN0.out
      rw [← ht] at ST
      have HTE := Lib.hid ht
      have hpc : 0 ≤ t.pc := (of_decide_eq_true HTR.out).2.2.1
      clear ht
      by_cases hk : (k : Int) < mm
      · by_cases hz : t.halt = 0
        · obtain ⟨q0, q1, q2, _, _⟩ := ST.out.cells
          rw [hz] at q2
          have HF := Lib.hid (hf.out.ext B.out)
          have RC := Lib.hid (hl.out.ext B.out)
          go_wp2_with fail
          clear q0 q1 q2
          refine (step_c _ HF CA cn cd l RC g1 r n c2 t ST HTI hpc hz mp HM HTR.out).mono ?_
          rintro e w' ⟨rfl, hst, hkp⟩
          have S2 := Lib.hid hst
          have K2 := Lib.hid hkp
          clear hst hkp
          go_wp2_with fail
          exact ⟨⟨k + 1, by go_num, .inl (by omega), fun i hi => by
            by_cases e : i = k
            · rw [e, ← HTE.out]; exact hz
            · exact HA.out i (by omega), by
            have e : iterV l (k + 1) s0 = stepV l t := by rw [HTE.out]; rfl
            show StM _ _ _ _ _ _
            rw [e]; exact S2.out, HM.out.keep (K2.out.block mp HM.out.lt (by omega) (by omega)), (K2.out.block g2 (Array.getElem?_eq_some_iff.1 C4.out).1 (by omega) (by omega)).trans C4.out, B.out.trans (K2.out.below B.out.size (by have := HG1.out; omega) (by have := HG1.out; omega))⟩, by simp [intOf]; omega⟩
        · skip
          have HSTOP : Hid (mm ≤ (k : Int) ∨ t.halt ≠ 0) := .inr hz
          obtain ⟨ov, hov⟩ : ∃ ov : Bool, (t.halt != 0) = ov := ⟨_, rfl⟩
          have HOV := Lib.hid hov
          obtain ⟨q0, q1, q2, _, _⟩ := ST.out.cells
          have hzb : (t.halt == 0) = false := by rw [beq_eq_false_iff_ne]; exact hz
          clear hz
          go_upto_region 10 with fail
          clear q0 q1 q2
          have CC : Hid (Below w.heap.size w wr.drew ∧ wr.drew.heap[g1]? = some (.cells #[.int .i64 t.pc, .slice (some ⟨r, 0, none⟩) n c2, .int .i64 t.halt] 30 (0, 0))) := ⟨ext_trans B.out (ext_drew wr), keepG (ext_drew wr) ST.out.blk⟩
          refine wp_region_schedC (fun u => Below w.heap.size w u ∧ u.heap[g1]? = some (.cells #[.int .i64 t.pc, .slice (some ⟨r, 0, none⟩) n c2, .int .i64 t.halt] 30 (0, 0))) [(true, 0), (true, 1), (true, 2), (true, 3), (true, 4), (false, 5), (true, 6), (true, 7)] (by kernel_rfl) rfl (by kernel_rfl) (by kernel_rfl) (fun _ _ d _ _ h => by cases d <;> exact h) CC.out ?_
          intro J0 hJ0
          clear hov
          iterate 4 (refine schedC_pure (v := ?_) rfl (by rfl) ?_ ?_; rotate_left; (focus (intro u hC; obtain ⟨q0, q1, q2⟩ := full3i hC.2; go_simp; try with_reducible rfl)); try go_simp)
          (refine schedC_pure (v := .bool ov) rfl (by rfl) ?_ ?_; (focus (intro u hC; have hov := HOV.out; go_simp; try with_reducible rfl)); try go_simp)
          refine schedC_eff rfl ?_
          intro J hJ
          replace ST := Lib.hid (ST.out.ext (ext_drew wr))
          replace C4 := Lib.hid (keepG (ext_drew wr) C4.out)
          generalize wr.drew = V at ST C4 CC ⊢
          obtain ⟨p0, p1, p2, f0, f1, f2⟩ := full3f C4.out
          go_wp2_with fail
          clear p0 p1 p2 f0 f1 f2
          refine ⟨⟨bel3M CC.out.1 (by have := HG1.out; omega) _ _ _, (awayM (by omega)).trans ((awayM (by omega)).trans ((awayM (by omega)).trans CC.out.2))⟩, ?_⟩
          iterate 2 (refine schedC_pure (v := ?_) rfl (by rfl) ?_ ?_; rotate_left; (focus (intro u hC; go_simp; try with_reducible rfl)); try go_simp)
          refine schedC_nil (hJ0 _ _ ?_)
          clear hJ0
          have RR := Lib.hid (set3M C4.out (.int .i64 t.pc) (.slice (some ⟨r, 0, none⟩) n c2) (.int .i64 t.halt))
          obtain ⟨e0, e1, e2⟩ := full3i RR.out
          go_wp2_with fail
          refine bodyPost_ret (v := .tuple #[stV t.pc (some ⟨r, 0, none⟩) n c2 t.halt, .int .i64 k, .bool ov]) (by simp only [results, Tryd.results18]; simp [go_sem, e0, e1, e2]) rfl ?_
          rw [← HS0.out]
          refine (HMM.out _ _).2 ⟨t, k, ov, some ⟨r, 0, none⟩, c2, rfl, ?_, HTL.out, ?_, bel3M CC.out.1 (by have := HG1.out; omega) _ _ _⟩
          · unfold RunI
            rw [if_pos HRT.out]
            exact ⟨⟨HK.out, HA.out, by rw [← HTE.out]; exact HSTOP.out⟩, HTE.out, HOV.out.symm⟩
          · have k0 := ST.out.row
            have k1 := k0.far (grownSetM (b := g2) (j := 0) (.int .i64 t.pc)) (fun g e r' h => by injection e with e; injection h with h; subst h; show r ≠ g; omega)
            have k2 := k1.far (grownSetM (b := g2) (j := 1) (.slice (some ⟨r, 0, none⟩) n c2)) (fun g e r' h => by injection e with e; injection h with h; subst h; show r ≠ g; omega)
            have k3 := k2.far (grownSetM (b := g2) (j := 2) (.int .i64 t.halt)) (fun g e r' h => by injection e with e; injection h with h; subst h; show r ≠ g; omega)
            exact k3.up (by have := HG1.out; omega)
      · skip
        have HSTOP : Hid (mm ≤ (k : Int) ∨ t.halt ≠ 0) := .inl (by omega)
        obtain ⟨ov, hov⟩ : ∃ ov : Bool, (t.halt != 0) = ov := ⟨_, rfl⟩
        have HOV := Lib.hid hov
        obtain ⟨q0, q1, q2, _, _⟩ := ST.out.cells
        skip
        go_upto_region 10 with fail
        clear q0 q1 q2
        have CC : Hid (Below w.heap.size w wr.drew ∧ wr.drew.heap[g1]? = some (.cells #[.int .i64 t.pc, .slice (some ⟨r, 0, none⟩) n c2, .int .i64 t.halt] 30 (0, 0))) := ⟨ext_trans B.out (ext_drew wr), keepG (ext_drew wr) ST.out.blk⟩
        refine wp_region_schedC (fun u => Below w.heap.size w u ∧ u.heap[g1]? = some (.cells #[.int .i64 t.pc, .slice (some ⟨r, 0, none⟩) n c2, .int .i64 t.halt] 30 (0, 0))) [(true, 0), (true, 1), (true, 2), (true, 3), (true, 4), (false, 5), (true, 6), (true, 7)] (by kernel_rfl) rfl (by kernel_rfl) (by kernel_rfl) (fun _ _ d _ _ h => by cases d <;> exact h) CC.out ?_
        intro J0 hJ0
        clear hov
        iterate 4 (refine schedC_pure (v := ?_) rfl (by rfl) ?_ ?_; rotate_left; (focus (intro u hC; obtain ⟨q0, q1, q2⟩ := full3i hC.2; go_simp; try with_reducible rfl)); try go_simp)
        (refine schedC_pure (v := .bool ov) rfl (by rfl) ?_ ?_; (focus (intro u hC; have hov := HOV.out; go_simp; try with_reducible rfl)); try go_simp)
        refine schedC_eff rfl ?_
        intro J hJ
        replace ST := Lib.hid (ST.out.ext (ext_drew wr))
        replace C4 := Lib.hid (keepG (ext_drew wr) C4.out)
        generalize wr.drew = V at ST C4 CC ⊢
        obtain ⟨p0, p1, p2, f0, f1, f2⟩ := full3f C4.out
        go_wp2_with fail
        clear p0 p1 p2 f0 f1 f2
        refine ⟨⟨bel3M CC.out.1 (by have := HG1.out; omega) _ _ _, (awayM (by omega)).trans ((awayM (by omega)).trans ((awayM (by omega)).trans CC.out.2))⟩, ?_⟩
        iterate 2 (refine schedC_pure (v := ?_) rfl (by rfl) ?_ ?_; rotate_left; (focus (intro u hC; go_simp; try with_reducible rfl)); try go_simp)
        refine schedC_nil (hJ0 _ _ ?_)
        clear hJ0
        have RR := Lib.hid (set3M C4.out (.int .i64 t.pc) (.slice (some ⟨r, 0, none⟩) n c2) (.int .i64 t.halt))
        obtain ⟨e0, e1, e2⟩ := full3i RR.out
        go_wp2_with fail
        refine bodyPost_ret (v := .tuple #[stV t.pc (some ⟨r, 0, none⟩) n c2 t.halt, .int .i64 k, .bool ov]) (by simp only [results, Tryd.results18]; simp [go_sem, e0, e1, e2]) rfl ?_
        rw [← HS0.out]
        refine (HMM.out _ _).2 ⟨t, k, ov, some ⟨r, 0, none⟩, c2, rfl, ?_, HTL.out, ?_, bel3M CC.out.1 (by have := HG1.out; omega) _ _ _⟩
        · unfold RunI
          rw [if_pos HRT.out]
          exact ⟨⟨HK.out, HA.out, by rw [← HTE.out]; exact HSTOP.out⟩, HTE.out, HOV.out.symm⟩
        · have k0 := ST.out.row
          have k1 := k0.far (grownSetM (b := g2) (j := 0) (.int .i64 t.pc)) (fun g e r' h => by injection e with e; injection h with h; subst h; show r ≠ g; omega)
          have k2 := k1.far (grownSetM (b := g2) (j := 1) (.slice (some ⟨r, 0, none⟩) n c2)) (fun g e r' h => by injection e with e; injection h with h; subst h; show r ≠ g; omega)
          have k3 := k2.far (grownSetM (b := g2) (j := 2) (.int .i64 t.halt)) (fun g e r' h => by injection e with e; injection h with h; subst h; show r ≠ g; omega)
          exact k3.up (by have := HG1.out; omega)

def StepGives (l : List Ins) (s : MS) (n : Nat) (w : World) (e : Ending) (w' : World) : Prop := ∃ (t : MS) (A : Option Addr) (c : Nat), e = .returned (stV t.pc A n c t.halt) ∧ t = stepV l s ∧ t.mem.length = n ∧ StateOwn w t A n c w'
theorem stepV_of {l : List Ins} {s t : MS} {k : Nat} {over : Bool} (h : RunI l s 1 t k over) : t = stepV l s := by
  unfold RunI at h
  split at h
  · obtain ⟨hs, ht, _⟩ := h
    by_cases hz : s.halt = 0
    · have e : k = 1 := by
        rcases hs.stop with h1 | h1
        · have := hs.le; omega
        · rcases hs.le with h2 | h2
          · by_cases h0 : k = 0
            · rw [h0] at h1; exact absurd hz h1
            · omega
          · rw [h2] at h1; exact absurd hz h1
      rw [ht, e]; rfl
    · rw [ht, iterV_off hz, stepV_off hz]
  · rename_i hr
    rw [h.1]
    unfold stepV
    rw [if_neg (fun k => hr k.1)]
set_option maxRecDepth 100000 in
set_option maxHeartbeats 1000000 in
theorem stepS_c (w : World) (hf : Hid (Forms w)) (CA : Option Addr) (cn cd : Nat) (l : List Ins) (hl : Hid (RdS w CA cn cd l)) (pc : Int) (A : Option Addr) (n c : Nat) (halt : Int) (m : List Int) (h : Hid (RdW w A n c m)) (HI : Hid (∀ x ∈ m, In32 x)) (hn : n ≤ 1000000) : Calls Tryd.prog 14 #[.slice CA cn cd, stV pc A n c halt] w (StepGives l ⟨pc, m, halt⟩ n w) := by
  go_enter Tryd.func14, Tryd.ntmps14
  go_upto_region 1 with fail
  obtain ⟨g1, hg1⟩ : ∃ g, g = w.heap.size := ⟨_, rfl⟩
  obtain ⟨W1, hW1⟩ : ∃ W1, W1 = World.alloc w (.cells #[.int .i64 pc, .slice A n c, .int .i64 halt] 30) := ⟨_, rfl⟩
  have C3 : Hid (W1.heap[g1]? = some (.cells #[.int .i64 pc, .slice A n c, .int .i64 halt] 30 (0, 0))) := by rw [hW1, hg1]; exact Go.heap_alloc_new w _
  have B : Hid (Below w.heap.size w W1) := by rw [hW1]; exact ext_alloc w _
  have hs1 : W1.heap.size = g1 + 1 := by rw [hW1, hg1]; simp
  obtain ⟨g2, hg2⟩ : ∃ g, g = g1 + 1 := ⟨_, rfl⟩
  rw [← hW1, ← hg1, ← hg2]
  have HG1 : Hid (w.heap.size = g1) := hg1.symm
  rw [← hg2] at hs1
  clear hW1 hg1
  obtain ⟨U, hU⟩ : ∃ U, U = World.alloc W1 (.cells #[.int .i64 0, .slice none 0 0, .int .i64 0] 30) := ⟨_, rfl⟩
  have C4 : Hid (U.heap[g2]? = some (.cells #[.int .i64 0, .slice none 0 0, .int .i64 0] 30 (0, 0))) := by rw [hU, ← hs1]; exact Go.heap_alloc_new W1 _
  have HU : Hid (U.heap.size = g2 + 1) := by show _ = _; rw [hU]; simp [hs1]
  replace C3 : Hid (U.heap[g1]? = some (.cells #[.int .i64 pc, .slice A n c, .int .i64 halt] 30 (0, 0))) := by show _ = _; rw [hU]; exact keepG (ext_alloc W1 _) C3.out
  replace B : Hid (Below w.heap.size w U) := by rw [hU]; exact ext_trans B.out (ext_alloc W1 _)
  rw [← hU]
  have HG2 := Lib.hid hg2
  clear hU hs1 hg2
  have RD := Lib.hid (h.out.ext B.out)
  have HF := Lib.hid (hf.out.ext B.out)
  have RC := Lib.hid (hl.out.ext B.out)
  clear h hf hl
  obtain ⟨q0, q1, q2⟩ := full3i C3.out
  go_wp2_with fail
  clear q0 q1 q2
  refine (run_c _ HF CA cn cd l RC pc A n c halt m RD HI hn 1 (by decide) (by decide)).mono ?_
  rintro e v ⟨t, k, over, A2, c2, rfl, hrun, htl, ho, hb⟩
  have HT : Hid (t = stepV l ⟨pc, m, halt⟩) := stepV_of (by simpa using hrun)
  have HTL := Lib.hid htl
  clear hrun htl
  replace C3 := Lib.hid (keepG hb C3.out)
  replace C4 := Lib.hid (keepG hb C4.out)
  replace B := Lib.hid (ext_trans B.out hb)
  have HO : Hid (OwnW v 21 U.heap.size A2 n c2 t.mem) := ho
  clear hb ho RD HF RC
  obtain ⟨q0, q1, q2, f0, f1, f2⟩ := full3f C3.out
  go_upto_region 2 with fail
  clear q0 q1 q2 f0 f1 f2
  have hg12 : g1 < g2 := by have := HG2.out; omega
  have HUg : Hid (g1 < U.heap.size) := by show _ < _; rw [HU.out]; omega
  have j0 := HO.out.kept (grownSetM (b := g1) (j := 0) (.int .i64 t.pc)) (fun k e => by injection e with e; have := HUg.out; omega)
  have j1 := j0.kept (grownSetM (b := g1) (j := 1) (.slice A2 n c2)) (fun k e => by injection e with e; have := HUg.out; omega)
  replace HO := Lib.hid (j1.kept (grownSetM (b := g1) (j := 2) (.int .i64 t.halt)) (fun k e => by injection e with e; have := HUg.out; omega))
  replace C3 := Lib.hid (set3M C3.out (.int .i64 t.pc) (.slice A2 n c2) (.int .i64 t.halt))
  replace C4 := Lib.hid ((awayM (g := g1) (j := 2) (v := .int .i64 t.halt) (show g2 ≠ g1 by omega)).trans ((awayM (g := g1) (j := 1) (v := .slice A2 n c2) (show g2 ≠ g1 by omega)).trans ((awayM (g := g1) (j := 0) (v := .int .i64 t.pc) (show g2 ≠ g1 by omega)).trans C4.out)))
  replace B := Lib.hid (bel3M (b := g1) B.out (by have := HG1.out; omega) (.int .i64 t.pc) (.slice A2 n c2) (.int .i64 t.halt))
  clear j0 j1
  generalize ((v.setCell ⟨g1, 0, none⟩ (.int .i64 t.pc)).setCell ⟨g1, 1, none⟩ (.slice A2 n c2)).setCell ⟨g1, 2, none⟩ (.int .i64 t.halt) = V at HO C3 C4 B ⊢
  obtain ⟨q0, q1, q2⟩ := full3i C3.out
  obtain ⟨p0, p1, p2, f0, f1, f2⟩ := full3f C4.out
  go_wp2_with fail
  have R := Lib.hid (set3M C4.out (.int .i64 t.pc) (.slice A2 n c2) (.int .i64 t.halt))
  obtain ⟨e0, e1, e2⟩ := full3i R.out
  refine bodyPost_ret (v := stV t.pc A2 n c2 t.halt) (by simp only [results, Tryd.results14]; simp [go_sem, e0, e1, e2]) rfl ⟨t, A2, c2, rfl, HT.out, HTL.out, ?_, ?_⟩
  · have k1 := HO.out.kept (grownSetM (b := g2) (j := 0) (.int .i64 t.pc)) (fun k e => by injection e with e; have := HU.out; omega)
    have k2 := k1.kept (grownSetM (b := g2) (j := 1) (.slice A2 n c2)) (fun k e => by injection e with e; have := HU.out; omega)
    have k3 := k2.kept (grownSetM (b := g2) (j := 2) (.int .i64 t.halt)) (fun k e => by injection e with e; have := HU.out; omega)
    exact k3.up (by rw [HU.out]; have := HG1.out; omega)
  · exact bel3M B.out (by have := HG1.out; omega) _ _ _
#print axioms run_c
#print axioms stepS_c
end Go.Proofs.YtbeileihbhooaaaDoor
