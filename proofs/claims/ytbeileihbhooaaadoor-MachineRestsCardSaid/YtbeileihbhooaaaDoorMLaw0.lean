/-
  machine: states and instructions as the document's; the document's Same: contracts.
-/
import Derived.Test.YtbeileihbhooaaaDoorMRun
namespace Go.Proofs.YtbeileihbhooaaaDoor
open Go.RowKit

set_option maxRecDepth 100000 in
set_option maxHeartbeats 1000000 in
theorem own_c (w : World) (pc : Int) (A : Option Addr) (n c : Nat) (halt : Int) (m : List Int) (h : Hid (RdW w A n c m)) (hn : n ≤ 1000000) : Calls Tryd.prog 16 #[stV pc A n c halt] w (StateGives ⟨pc, m, halt⟩ n w) := by
  go_enter Tryd.func16, Tryd.ntmps16
  go_upto_region 1 with fail
  obtain ⟨g1, hg1⟩ : ∃ g, g = w.heap.size := ⟨_, rfl⟩
  obtain ⟨W1, hW1⟩ : ∃ W1, W1 = World.alloc w (.cells #[.int .i64 pc, .slice A n c, .int .i64 halt] 25) := ⟨_, rfl⟩
  have C3 : Hid (W1.heap[g1]? = some (.cells #[.int .i64 pc, .slice A n c, .int .i64 halt] 25 (0, 0))) := by rw [hW1, hg1]; exact Go.heap_alloc_new w _
  have B : Hid (Below w.heap.size w W1) := by rw [hW1]; exact ext_alloc w _
  have hs1 : W1.heap.size = g1 + 1 := by rw [hW1, hg1]; simp
  obtain ⟨g2, hg2⟩ : ∃ g, g = g1 + 1 := ⟨_, rfl⟩
  rw [← hW1, ← hg1, ← hg2]
  have HG1 : Hid (w.heap.size = g1) := hg1.symm
  rw [← hg2] at hs1
  clear hW1 hg1
  obtain ⟨U, hU⟩ : ∃ U, U = World.alloc W1 (.cells #[.int .i64 0, .slice none 0 0, .int .i64 0] 30) := ⟨_, rfl⟩
  have C4 : Hid (U.heap[g2]? = some (.cells #[.int .i64 0, .slice none 0 0, .int .i64 0] 30 (0, 0))) := by rw [hU, ← hs1]; exact Go.heap_alloc_new W1 _
  have HU : Hid (U.heap.size = g2 + 1) := by show _ = _; rw [hU]; simp [hs1]
  replace C3 : Hid (U.heap[g1]? = some (.cells #[.int .i64 pc, .slice A n c, .int .i64 halt] 25 (0, 0))) := by show _ = _; rw [hU]; exact keepG (ext_alloc W1 _) C3.out
  replace B : Hid (Below w.heap.size w U) := by rw [hU]; exact ext_trans B.out (ext_alloc W1 _)
  rw [← hU]
  have HG2 := Lib.hid hg2
  clear hU hs1 hg2
  have RD := Lib.hid (h.out.ext B.out)
  clear h
  have hg12 : g1 < g2 := by have := HG2.out; omega
  have CC : Hid (Below w.heap.size w U.drew ∧ U.drew.heap[g1]? = some (.cells #[.int .i64 pc, .slice A n c, .int .i64 halt] 25 (0, 0))) := ⟨ext_trans B.out (ext_drew U), keepG (ext_drew U) C3.out⟩
  refine wp_region_schedC (fun u => Below w.heap.size w u ∧ u.heap[g1]? = some (.cells #[.int .i64 pc, .slice A n c, .int .i64 halt] 25 (0, 0))) [(true, 0), (true, 1), (true, 3), (true, 4), (true, 6), (true, 7), (false, 2), (false, 5), (true, 8), (false, 9)] (by kernel_rfl) rfl (by kernel_rfl) (by kernel_rfl) (fun _ _ d _ _ h => by cases d <;> exact h) CC.out ?_
  intro J0 hJ0
  iterate 6 (refine schedC_pure (v := ?_) rfl (by rfl) ?_ ?_; rotate_left; (focus (intro u hC; obtain ⟨q0, q1, q2⟩ := full3i hC.2; go_simp; try with_reducible rfl)); try go_simp)
  refine schedC_eff rfl ?_
  intro J hJ
  have HS : Hid (U.drew.heap.size = g2 + 1) := HU.out
  replace RD := Lib.hid (RD.out.ext (ext_drew U))
  replace C4 := Lib.hid (keepG (ext_drew U) C4.out)
  generalize U.drew = V at CC HS RD C4 ⊢
  go_wp2_with fail
  refine ⟨⟨ext_trans CC.out.1 (ext_alloc V _), keepG (ext_alloc V _) CC.out.2⟩, ?_⟩
  refine schedC_eff rfl ?_
  intro J2 hJ2
  go_wp2_with (refine wpList_pushW_all (o := ⟨some 8, _, _, _, _, _⟩) rfl (.tmp 5) (.tmp 7) 23 23 rfl 21 Tryd.underlying23 infoW V.heap.size (some ⟨V.heap.size, 0, none⟩) 0 0 [] (by rfl) (OwnW.empty _ _) _ n m (by rfl) ((RD.out.ext (ext_alloc _ _)).src Tryd.underlying23) (by omega) (by simp) ?_; intro A2 c2 v2 ho hb; rw [Nat.zero_add, List.nil_append] at ho; have HO := Lib.hid ho; have HB : Hid (Below V.heap.size V v2) := ((Below.refl _ _).alloc (Nat.le_refl _) _).trans hb; clear ho hb; go_simp)
  replace CC : Hid (Below w.heap.size w v2 ∧ v2.heap[g1]? = some (.cells #[.int .i64 pc, .slice A n c, .int .i64 halt] 25 (0, 0))) := ⟨ext_trans CC.out.1 HB.out, keepG HB.out CC.out.2⟩
  replace C4 := Lib.hid (keepG HB.out C4.out)
  refine ⟨CC.out, ?_⟩
  (refine schedC_pure (v := ?_) rfl (by rfl) ?_ ?_; rotate_left; (focus (intro u hC;  go_simp; try with_reducible rfl)); try go_simp)
  refine schedC_eff rfl ?_
  intro J3 hJ3
  obtain ⟨p0, p1, p2, f0, f1, f2⟩ := full3f C4.out
  go_wp2_with fail
  clear p0 p1 p2 f0 f1 f2
  refine ⟨⟨bel3M CC.out.1 (by have := HG1.out; omega) _ _ _, (awayM (by omega)).trans ((awayM (by omega)).trans ((awayM (by omega)).trans CC.out.2))⟩, ?_⟩
  refine schedC_nil (hJ0 _ _ ?_)
  clear hJ0
  have RR := Lib.hid (set3M C4.out (.int .i64 pc) (.slice A2 n c2) (.int .i64 halt))
  obtain ⟨e0, e1, e2⟩ := full3i RR.out
  go_wp2_with fail
  refine bodyPost_ret (v := stV pc A2 n c2 halt) (by simp only [results, Tryd.results16]; simp [go_sem, e0, e1, e2]) rfl ⟨A2, c2, rfl, ?_, bel3M CC.out.1 (by have := HG1.out; omega) _ _ _⟩
  have k1 := HO.out.kept (grownSetM (b := g2) (j := 0) (.int .i64 pc)) (fun k e => by injection e with e; have := HS.out; omega)
  have k2 := k1.kept (grownSetM (b := g2) (j := 1) (.slice A2 n c2)) (fun k e => by injection e with e; have := HS.out; omega)
  have k3 := k2.kept (grownSetM (b := g2) (j := 2) (.int .i64 halt)) (fun k e => by injection e with e; have := HS.out; omega)
  exact k3.up (by have := HS.out; have := HG1.out; omega)

set_option maxRecDepth 100000 in
set_option maxHeartbeats 1000000 in
theorem back_c (w : World) (pc : Int) (A : Option Addr) (n c : Nat) (halt : Int) (m : List Int) (h : Hid (RdW w A n c m)) (hn : n ≤ 1000000) : Calls Tryd.prog 13 #[stV pc A n c halt] w (StateGives ⟨pc, m, halt⟩ n w) := by
  go_enter Tryd.func13, Tryd.ntmps13
  go_upto_region 1 with fail
  obtain ⟨g1, hg1⟩ : ∃ g, g = w.heap.size := ⟨_, rfl⟩
  obtain ⟨W1, hW1⟩ : ∃ W1, W1 = World.alloc w (.cells #[.int .i64 pc, .slice A n c, .int .i64 halt] 30) := ⟨_, rfl⟩
  have C3 : Hid (W1.heap[g1]? = some (.cells #[.int .i64 pc, .slice A n c, .int .i64 halt] 30 (0, 0))) := by rw [hW1, hg1]; exact Go.heap_alloc_new w _
  have B : Hid (Below w.heap.size w W1) := by rw [hW1]; exact ext_alloc w _
  have hs1 : W1.heap.size = g1 + 1 := by rw [hW1, hg1]; simp
  obtain ⟨g2, hg2⟩ : ∃ g, g = g1 + 1 := ⟨_, rfl⟩
  rw [← hW1, ← hg1, ← hg2]
  have HG1 : Hid (w.heap.size = g1) := hg1.symm
  rw [← hg2] at hs1
  clear hW1 hg1
  obtain ⟨U, hU⟩ : ∃ U, U = World.alloc W1 (.cells #[.int .i64 0, .slice none 0 0, .int .i64 0] 25) := ⟨_, rfl⟩
  have C4 : Hid (U.heap[g2]? = some (.cells #[.int .i64 0, .slice none 0 0, .int .i64 0] 25 (0, 0))) := by rw [hU, ← hs1]; exact Go.heap_alloc_new W1 _
  have HU : Hid (U.heap.size = g2 + 1) := by show _ = _; rw [hU]; simp [hs1]
  replace C3 : Hid (U.heap[g1]? = some (.cells #[.int .i64 pc, .slice A n c, .int .i64 halt] 30 (0, 0))) := by show _ = _; rw [hU]; exact keepG (ext_alloc W1 _) C3.out
  replace B : Hid (Below w.heap.size w U) := by rw [hU]; exact ext_trans B.out (ext_alloc W1 _)
  rw [← hU]
  have HG2 := Lib.hid hg2
  clear hU hs1 hg2
  have RD := Lib.hid (h.out.ext B.out)
  clear h
  have hg12 : g1 < g2 := by have := HG2.out; omega
  have CC : Hid (Below w.heap.size w U.drew ∧ U.drew.heap[g1]? = some (.cells #[.int .i64 pc, .slice A n c, .int .i64 halt] 30 (0, 0))) := ⟨ext_trans B.out (ext_drew U), keepG (ext_drew U) C3.out⟩
  refine wp_region_schedC (fun u => Below w.heap.size w u ∧ u.heap[g1]? = some (.cells #[.int .i64 pc, .slice A n c, .int .i64 halt] 30 (0, 0))) [(true, 0), (true, 1), (true, 3), (true, 4), (true, 6), (true, 7), (false, 2), (false, 5), (true, 8), (false, 9)] (by kernel_rfl) rfl (by kernel_rfl) (by kernel_rfl) (fun _ _ d _ _ h => by cases d <;> exact h) CC.out ?_
  intro J0 hJ0
  iterate 6 (refine schedC_pure (v := ?_) rfl (by rfl) ?_ ?_; rotate_left; (focus (intro u hC; obtain ⟨q0, q1, q2⟩ := full3i hC.2; go_simp; try with_reducible rfl)); try go_simp)
  refine schedC_eff rfl ?_
  intro J hJ
  have HS : Hid (U.drew.heap.size = g2 + 1) := HU.out
  replace RD := Lib.hid (RD.out.ext (ext_drew U))
  replace C4 := Lib.hid (keepG (ext_drew U) C4.out)
  generalize U.drew = V at CC HS RD C4 ⊢
  go_wp2_with fail
  refine ⟨⟨ext_trans CC.out.1 (ext_alloc V _), keepG (ext_alloc V _) CC.out.2⟩, ?_⟩
  refine schedC_eff rfl ?_
  intro J2 hJ2
  go_wp2_with (refine wpList_pushW_all (o := ⟨some 8, _, _, _, _, _⟩) rfl (.tmp 5) (.tmp 7) 23 23 rfl 21 Tryd.underlying23 infoW V.heap.size (some ⟨V.heap.size, 0, none⟩) 0 0 [] (by rfl) (OwnW.empty _ _) _ n m (by rfl) ((RD.out.ext (ext_alloc _ _)).src Tryd.underlying23) (by omega) (by simp) ?_; intro A2 c2 v2 ho hb; rw [Nat.zero_add, List.nil_append] at ho; have HO := Lib.hid ho; have HB : Hid (Below V.heap.size V v2) := ((Below.refl _ _).alloc (Nat.le_refl _) _).trans hb; clear ho hb; go_simp)
  replace CC : Hid (Below w.heap.size w v2 ∧ v2.heap[g1]? = some (.cells #[.int .i64 pc, .slice A n c, .int .i64 halt] 30 (0, 0))) := ⟨ext_trans CC.out.1 HB.out, keepG HB.out CC.out.2⟩
  replace C4 := Lib.hid (keepG HB.out C4.out)
  refine ⟨CC.out, ?_⟩
  (refine schedC_pure (v := ?_) rfl (by rfl) ?_ ?_; rotate_left; (focus (intro u hC;  go_simp; try with_reducible rfl)); try go_simp)
  refine schedC_eff rfl ?_
  intro J3 hJ3
  obtain ⟨p0, p1, p2, f0, f1, f2⟩ := full3f C4.out
  go_wp2_with fail
  clear p0 p1 p2 f0 f1 f2
  refine ⟨⟨bel3M CC.out.1 (by have := HG1.out; omega) _ _ _, (awayM (by omega)).trans ((awayM (by omega)).trans ((awayM (by omega)).trans CC.out.2))⟩, ?_⟩
  refine schedC_nil (hJ0 _ _ ?_)
  clear hJ0
  have RR := Lib.hid (set3M C4.out (.int .i64 pc) (.slice A2 n c2) (.int .i64 halt))
  obtain ⟨e0, e1, e2⟩ := full3i RR.out
  go_wp2_with fail
  refine bodyPost_ret (v := stV pc A2 n c2 halt) (by simp only [results, Tryd.results13]; simp [go_sem, e0, e1, e2]) rfl ⟨A2, c2, rfl, ?_, bel3M CC.out.1 (by have := HG1.out; omega) _ _ _⟩
  have k1 := HO.out.kept (grownSetM (b := g2) (j := 0) (.int .i64 pc)) (fun k e => by injection e with e; have := HS.out; omega)
  have k2 := k1.kept (grownSetM (b := g2) (j := 1) (.slice A2 n c2)) (fun k e => by injection e with e; have := HS.out; omega)
  have k3 := k2.kept (grownSetM (b := g2) (j := 2) (.int .i64 halt)) (fun k e => by injection e with e; have := HS.out; omega)
  exact k3.up (by have := HS.out; have := HG1.out; omega)

theorem take_snocM {l : List Ins} {k : Nat} (hk : k < l.length) : l.take (k + 1) = l.take k ++ [l.getD k noIns] := by
  rw [List.take_succ_eq_append_getElem hk, show l.getD k noIns = l[k] by simp [List.getD, hk]]
def Inss (w : World) (l : List Ins) (e : Ending) (w' : World) : Prop := ∃ A c, e = .returned (.slice A l.length c) ∧ RdS w' A l.length c l ∧ Below w.heap.size w w'
set_option maxRecDepth 100000 in
set_option maxHeartbeats 2000000 in
theorem ownCode_c (w : World) (A : Option Addr) (n c : Nat) (l : List Ins) (h : Hid (RdS w A n c l)) (hn : n ≤ 1000000) : Calls Tryd.prog 15 #[.slice A n c] w (Inss w l) := by
  have HL := Lib.hid h.out.len
  have hle := h.out.le
  have hmx := h.out.max
  go_enter Tryd.func15, Tryd.ntmps15
  go_wp2_with fail
  go_loopw [3, 4] (fun lv iv wr => ∃ (k : Nat) (B : Option Addr) (d : Nat), k ≤ n ∧ iv = .int .i64 k ∧ lv = .slice B k d ∧ Hid (OwnS wr 57 w.heap.size B k d (l.take k)) ∧ Hid (Below w.heap.size w wr)) (fun _ iv _ => n - (intOf iv).toNat)
  case atStart => exact ⟨0, none, 0, Nat.zero_le _, rfl, rfl, by show OwnS _ _ _ _ _ _ _; rw [List.take_zero]; exact OwnS.void _ _ _, Below.refl _ _⟩
  case round =>
    obtain ⟨k, B, d, hk, rfl, rfl, HO, HB⟩ := hrel
    by_cases hlt : k < n
    · obtain ⟨b, o, rfl, hbo, c0, c1, c2, c3⟩ := h.out.at hlt
      obtain ⟨y, hy⟩ : ∃ y, y = l.getD k noIns := ⟨_, rfl⟩
      rw [← hy] at c0 c1 c2 c3
      have HY := Lib.hid hy
      have HC : Hid (∀ u, Below w.heap.size w u → u.cell? ⟨b, o + k * 4, none⟩ = some (.int .i64 y.o) ∧ u.cell? ⟨b, o + k * 4 + 1, none⟩ = some (.int .i64 y.a) ∧ u.cell? ⟨b, o + k * 4 + 2, none⟩ = some (.int .i64 y.b) ∧ u.cell? ⟨b, o + k * 4 + 3, none⟩ = some (.int .i64 y.c)) := fun u hu =>
        ⟨(hu.cell (p := ⟨b, o + k * 4, none⟩) hbo).trans c0, (hu.cell (p := ⟨b, o + k * 4 + 1, none⟩) hbo).trans c1, (hu.cell (p := ⟨b, o + k * 4 + 2, none⟩) hbo).trans c2, (hu.cell (p := ⟨b, o + k * 4 + 3, none⟩) hbo).trans c3⟩
      have hltI : (k : Int) < (n : Int) := by omega
      have hkI : (0 : Int) ≤ (k : Int) := by omega
      have hk3 : k < 1000000 := by omega
      clear hy c0 c1 c2 c3
      go_upto_region 5 with fail
      refine wp_region_schedC (fun u => Below w.heap.size w u) [(true, 0), (true, 1), (true, 2), (true, 3), (true, 4), (true, 5), (true, 6), (true, 7), (true, 8), (true, 9), (true, 10), (true, 11), (true, 12), (true, 13), (true, 14), (true, 15), (true, 16), (true, 17), (true, 18), (true, 19), (true, 20), (true, 21), (false, 22), (false, 23), (true, 24)] (by kernel_rfl) rfl (by kernel_rfl) (by kernel_rfl) (fun _ _ d _ _ h => by cases d <;> exact h) (ext_trans HB.out (ext_drew wr)) ?_
      intro J0 hJ0
      iterate 22 (refine schedC_pure (v := ?_) rfl (by rfl) ?_ ?_; rotate_left; (focus (intro u hC; obtain ⟨c0, c1, c2, c3⟩ := HC.out u hC; go_simp; try with_reducible rfl)); try go_simp)
      replace HO := Lib.hid (HO.out.ext (ext_drew wr))
      replace HB := Lib.hid (ext_trans HB.out (ext_drew wr))
      generalize wr.drew = V at HO HB ⊢
      refine schedC_eff rfl ?_
      intro J hJ
      go_wp2_with fail
      refine ⟨ext_trans HB.out (ext_alloc V _), ?_⟩
      refine schedC_eff rfl ?_
      intro J2 hJ2
      go_wp2_with (refine wpList_pushS 32 57 Tryd.underlying32 infoCI (o := ⟨some 34, _, _, _, _, _⟩) rfl (.tmp 11) (.tmp 33) rfl w.heap.size _ _ _ _ (by rfl) HO.out y (by rfl) (by omega) HB.out.size ?_; intro B' d' w' ho' hb'; have HO2 := Lib.hid ho'; have HB2 := Lib.hid hb'; clear ho' hb'; go_simp)
      refine ⟨HB.out.trans HB2.out, ?_⟩
      iterate 1 (refine schedC_pure (v := ?_) rfl (by rfl) ?_ ?_; rotate_left; (focus (intro u hC; go_simp; try with_reducible rfl)); try go_simp)
      refine schedC_nil (hJ0 _ _ ?_)
      clear hJ0
      go_wp2_with fail
      exact ⟨⟨k + 1, B', d', by omega, by go_num, rfl, by
        show OwnS _ _ _ _ _ _ _
        rw [take_snocM (by rw [HL.out]; exact hlt), ← HY.out]; exact HO2.out, HB.out.trans HB2.out⟩, by simp [intOf]; omega⟩
    · obtain rfl : k = n := by omega
      have HE : Hid (OwnS wr 57 w.heap.size B k d l) := by
        have := HO.out
        rw [List.take_of_length_le (by rw [HL.out]; exact Nat.le_refl _)] at this
        exact this
      go_wp2_with fail
      go_ret
      exact ⟨B, d, by rw [HL.out]; rfl, by rw [HL.out]; exact HE.out.rd, HB.out⟩

set_option maxRecDepth 100000 in
set_option maxHeartbeats 1000000 in
theorem rsame_c (w : World) (p : Int) (A : Option Addr) (n c : Nat) (hh : Int) (l : List Int) (h : Hid (RdW w A n c l)) (p' : Int) (B : Option Addr) (m d : Nat) (h' : Int) (r : List Int) (k : Hid (RdW w B m d r)) : Calls Tryd.prog 12 #[stV p A n c hh, stV p' B m d h'] w (Gives (.bool (sameM ⟨p, l, hh⟩ ⟨p', r, h'⟩)) w) := by
  have hle := h.out.le
  have hmx := h.out.max
  have kle := k.out.le
  have kmx := k.out.max
  have HL := Lib.hid h.out.len
  have HM := Lib.hid k.out.len
  by_cases hp : p = p'
  case neg =>
    have HF : Hid (sameM ⟨p, l, hh⟩ ⟨p', r, h'⟩ = false) := same_f (fun e => hp e.1)
    rw [HF.out]
    have e1 : (p != p') = true := by rw [bne_iff_ne]; exact hp
    clear hp HF h k
    go_enter Tryd.func12, Tryd.ntmps12
    go_wp2_with fail
    go_ret
    exact ⟨rfl, ext_trans (ext_alloc _ _) (ext_alloc _ _)⟩
  subst hp
  by_cases hp : hh = h'
  case neg =>
    have HF : Hid (sameM ⟨p, l, hh⟩ ⟨p, r, h'⟩ = false) := same_f (fun e => hp e.2)
    rw [HF.out]
    have e1 : (hh != h') = true := by rw [bne_iff_ne]; exact hp
    clear hp HF h k
    go_enter Tryd.func12, Tryd.ntmps12
    go_wp2_with fail
    go_ret
    exact ⟨rfl, ext_trans (ext_alloc _ _) (ext_alloc _ _)⟩
  subst hp
  rw [same_t]
  by_cases hnm : n = m
  case neg =>
    have HF : Hid (decide (l = r) = false) := decide_eq_false (fun e => hnm (by rw [← HL.out, ← HM.out, e]))
    rw [HF.out]
    have h1 : ((n : Int) != (m : Int)) = true := by rw [bne_iff_ne]; omega
    have h2 : (n != m) = true := by rw [bne_iff_ne]; exact hnm
    clear hnm HF h k
    go_enter Tryd.func12, Tryd.ntmps12
    go_wp2_with fail
    go_ret
    exact ⟨rfl, ext_trans (ext_alloc _ _) (ext_alloc _ _)⟩
  subst hnm
  go_enter Tryd.func12, Tryd.ntmps12
  go_upto_region 1 with fail
  obtain ⟨g1, hg1⟩ : ∃ g, g = w.heap.size := ⟨_, rfl⟩
  obtain ⟨W1, hW1⟩ : ∃ W1, W1 = World.alloc w (.cells #[.int .i64 p, .slice A n c, .int .i64 hh] 25) := ⟨_, rfl⟩
  have C3 : Hid (W1.heap[g1]? = some (.cells #[.int .i64 p, .slice A n c, .int .i64 hh] 25 (0, 0))) := by rw [hW1, hg1]; exact Go.heap_alloc_new w _
  have hs1 : W1.heap.size = g1 + 1 := by rw [hW1, hg1]; simp
  have HB0 : Hid (Below w.heap.size w W1) := by rw [hW1]; exact ext_alloc w _
  obtain ⟨g2, hg2⟩ : ∃ g, g = g1 + 1 := ⟨_, rfl⟩
  rw [← hW1, ← hg1, ← hg2]
  rw [← hg2] at hs1
  clear hW1 hg1 hg2
  obtain ⟨U, hU⟩ : ∃ U, U = World.alloc W1 (.cells #[.int .i64 p, .slice B n d, .int .i64 hh] 25) := ⟨_, rfl⟩
  have C4 : Hid (U.heap[g2]? = some (.cells #[.int .i64 p, .slice B n d, .int .i64 hh] 25 (0, 0))) := by rw [hU, ← hs1]; exact Go.heap_alloc_new W1 _
  replace C3 : Hid (U.heap[g1]? = some (.cells #[.int .i64 p, .slice A n c, .int .i64 hh] 25 (0, 0))) := by show _ = _; rw [hU]; exact keepG (ext_alloc W1 _) C3.out
  replace HB0 : Hid (Below w.heap.size w U) := by rw [hU]; exact ext_trans HB0.out (ext_alloc W1 _)
  rw [← hU]
  clear hU hs1
  obtain ⟨q0, q1, q2⟩ := full3i C3.out
  obtain ⟨p0, p1, p2⟩ := full3i C4.out
  go_wp2_with fail
  clear q0 q1 q2 p0 p1 p2
  go_loopw [5] (fun iv wr => ∃ q : Nat, q ≤ n ∧ iv = .int .i64 q ∧ Hid (l.take q = r.take q) ∧ Hid (Below U.heap.size U wr)) (fun iv _ => n - (intOf iv).toNat)
  case atStart => exact ⟨0, Nat.zero_le _, rfl, rfl, Below.refl _ _⟩
  case round =>
    obtain ⟨q, hq, rfl, HE, HB⟩ := hrel
    obtain ⟨q0, q1, q2⟩ := full3i (keepG HB.out C3.out)
    obtain ⟨p0, p1, p2⟩ := full3i (keepG HB.out C4.out)
    have HW := Lib.hid (ext_trans HB0.out HB.out)
    by_cases hlt : q < n
    · obtain ⟨b, o, rfl, _, c0⟩ := (h.out.ext HW.out).at hlt
      obtain ⟨b', o', rfl, _, e0⟩ := (k.out.ext HW.out).at hlt
      obtain ⟨x, hx⟩ : ∃ x, x = l.getD q 0 := ⟨_, rfl⟩
      obtain ⟨y, hy⟩ : ∃ y, y = r.getD q 0 := ⟨_, rfl⟩
      rw [← hx] at c0
      rw [← hy] at e0
      have HX := Lib.hid hx
      have HY := Lib.hid hy
      clear hx hy
      have hltI : (q : Int) < (n : Int) := by omega
      have hqI : (0 : Int) ≤ (q : Int) := by omega
      by_cases hxy : x = y
      · have HS : Hid (l.take (q + 1) = r.take (q + 1)) := take_eq_succ (by rw [HL.out]; exact hlt) (by rw [HM.out]; exact hlt) HE.out (by rw [← HX.out, ← HY.out]; exact hxy)
        have hd : (x != y) = false := by rw [hxy]; exact bne_self_eq_false y
        clear hxy
        go_wp2_with fail
        go_quiet (fail)
        go_wp2_with fail
        exact ⟨⟨q + 1, by omega, by go_num, HS.out, ext_trans HB.out (ext_draws _ _)⟩, by simp [intOf]; omega⟩
      · have HF : Hid (decide (l = r) = false) := decide_eq_false (fun e => hxy (by rw [HX.out, HY.out, e]))
        have hd : (x != y) = true := by rw [bne_iff_ne]; exact hxy
        clear hxy
        go_wp2_with fail
        go_quiet (fail)
        go_wp2_with fail
        go_ret
        exact ⟨by rw [HF.out]; rfl, ext_trans HW.out (ext_draws _ _)⟩
    · obtain rfl : q = n := by omega
      have HT : Hid (decide (l = r) = true) := by
        have := HE.out
        rw [List.take_of_length_le (by rw [HL.out]; exact Nat.le_refl _), List.take_of_length_le (by rw [HM.out]; exact Nat.le_refl _)] at this
        exact decide_eq_true this
      go_wp2_with fail
      go_ret
      exact ⟨by rw [HT.out]; rfl, HW.out⟩

theorem few_t (w : World) (CA : Option Addr) (cn cd : Nat) (pc : Int) (A : Option Addr) (n c : Nat) (halt : Int) (k1 : cn ≤ 300) (k2 : n ≤ 300) : Calls Tryd.prog 10 #[.slice CA cn cd, stV pc A n c halt] w (Gives (.bool true) w) := by
  have i1 : (cn : Int) ≤ 300 := by omega
  have i2 : (n : Int) ≤ 300 := by omega
  go_enter Tryd.func10, Tryd.ntmps10
  go_wp2_with fail
  go_ret
  exact ⟨rfl, ext_alloc w _⟩
theorem few_f (w : World) (CA : Option Addr) (cn cd : Nat) (pc : Int) (A : Option Addr) (n c : Nat) (halt : Int) (k : ¬ (cn ≤ 300 ∧ n ≤ 300)) : Calls Tryd.prog 10 #[.slice CA cn cd, stV pc A n c halt] w (Gives (.bool false) w) := by
  by_cases k1 : cn ≤ 300
  · have i1 : (cn : Int) ≤ 300 := by omega
    have i2 : ¬ (n : Int) ≤ 300 := by omega
    clear k
    go_enter Tryd.func10, Tryd.ntmps10
    go_wp2_with fail
    go_ret
    exact ⟨rfl, ext_alloc w _⟩
  · have i1 : ¬ (cn : Int) ≤ 300 := by omega
    clear k
    go_enter Tryd.func10, Tryd.ntmps10
    go_wp2_with fail
    go_ret
    exact ⟨rfl, ext_alloc w _⟩
#print axioms own_c
#print axioms ownCode_c
#print axioms rsame_c
#print axioms few_f
end Go.Proofs.YtbeileihbhooaaaDoor
