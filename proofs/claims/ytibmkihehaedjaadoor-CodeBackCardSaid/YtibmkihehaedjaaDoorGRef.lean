/-
  code: the words that an instruction reads: the document's contract.
-/
import Derived.Test.YtibmkihehaedjaaDoorGReads
import Derived.Test.YtibmkihehaedjaaDoorSchedC
import Derived.Deep.CutBlock
namespace Go.Proofs.YtibmkihehaedjaaDoor
open Go.RowKit

theorem run_index_aggG {P : Program} {t e : TypeId} {n : Nat} {cs : Array Value} {k : IntKind} {i : Int} {v : Value} (h : P.underlying t = some (.array n e)) (h0 : 0 ≤ i) (hn : i < n) (hs : (P.info? e).map (·.size) = some 1) (hp : P.plainKey e = true)
    (hv : cs[i.toNat]? = some v) (w : World) : (Instr.index t (.agg cs) (.int k i)).run P w = .ok v w := by
  have hi : 0 ≤ i ∧ i < (n : Int) := ⟨h0, hn⟩
  obtain ⟨y, hy, hy2⟩ := Option.map_eq_some_iff.1 hs
  have hz : (sizeOf e).run P w = .ok 1 w := by simp [sizeOf, typeInfo, hy, hy2]
  have hpart := run_part_plain (w := w) hp (xs := cs) (off := i.toNat) hv
  simp [Instr.index, run_underlying h, asIntOf, hi, hz, hpart]

theorem which_len (o : Int) : (whichB o).length ≤ 2 := by
  unfold whichB
  split
  · simp
  · split
    · simp
    · split
      · simp
      · split <;> simp
theorem which_mem (o : Int) {k : Nat} (hk : k < (whichB o).length) : 97 ≤ ((whichB o).getD k 0).toNat ∧ ((whichB o).getD k 0).toNat ≤ 99 := by
  have h2 := which_len o
  have hk2 : k = 0 ∨ k = 1 := by omega
  revert hk
  unfold whichB
  split
  · rcases hk2 with rfl | rfl <;> simp
  · split
    · rcases hk2 with rfl | rfl <;> simp
    · split
      · rcases hk2 with rfl | rfl <;> simp
      · split
        · rcases hk2 with rfl | rfl <;> simp
        · simp

theorem rreadsF_yes {wh : List UInt8} {t : Nat → Int} {k : Nat} (h : rreadsF wh t k = [] ∨ (rreadsF wh t k).getD 0 0 ≠ t ((wh.getD k 0).toNat - 97)) : rreadsF wh t (k + 1) = rreadsF wh t k ++ [t ((wh.getD k 0).toNat - 97)] := by
  conv => lhs; unfold rreadsF
  rw [if_pos h]
theorem rreadsF_no {wh : List UInt8} {t : Nat → Int} {k : Nat} (h : ¬ (rreadsF wh t k = [] ∨ (rreadsF wh t k).getD 0 0 ≠ t ((wh.getD k 0).toNat - 97))) : rreadsF wh t (k + 1) = rreadsF wh t k := by
  conv => lhs; unfold rreadsF
  rw [if_neg h]

set_option maxRecDepth 100000 in
set_option maxHeartbeats 4000000 in
theorem rreads_c (w : World) (o a b c : Int) : Calls Tryd.prog 17 #[.agg #[.int .i64 o, .int .i64 a, .int .i64 b, .int .i64 c]] w (Ints w (readsV o a b c)) := by
  rw [← rreads_eq]
  obtain ⟨wh, hwh⟩ : ∃ l, l = whichB o := ⟨_, rfl⟩
  obtain ⟨n, hn⟩ : ∃ n, n = wh.length := ⟨_, rfl⟩
  have n2 : n ≤ 2 := by rw [hn, hwh]; exact which_len o
  have HM : Hid (∀ k, k < n → 97 ≤ (wh.getD k 0).toNat ∧ (wh.getD k 0).toNat ≤ 99) := by
    intro k hk
    rw [hn, hwh] at hk
    rw [hwh]
    exact which_mem o hk
  obtain ⟨S, hS⟩ : ∃ S : ByteArray, S = ⟨wh.toArray⟩ := ⟨_, rfl⟩
  have HS0 : Hid (S = ⟨(whichB o).toArray⟩) := by show _ = _; rw [hS, hwh]
  have HSD : Hid (S.data = wh.toArray) := by show _ = _; rw [hS]
  have HSZ : S.size = n := by rw [hS, hn]; rfl
  have HN := Lib.hid hn.symm
  rw [← hwh]
  rw [← hn]
  clear hwh hn hS
  obtain ⟨l0, hl0⟩ : ∃ f : Nat → List Int, f = rreadsF wh (three a b c) := ⟨_, rfl⟩
  have HLE : Hid (∀ k, (l0 k).length ≤ k) := by show ∀ k, _; rw [hl0]; exact rreadsF_len _ _
  have HF := Lib.hid hl0
  rw [← hl0]
  clear hl0
  go_enter Tryd.func17, Tryd.ntmps17
  go_upto_block 0 with fail
  obtain ⟨g, hg⟩ : ∃ g, g = w.heap.size := ⟨_, rfl⟩
  obtain ⟨U, hU⟩ : ∃ U, U = World.alloc w (.cells #[.int .i64 o, .int .i64 a, .int .i64 b, .int .i64 c] 23) := ⟨_, rfl⟩
  have B4 : Hid (U.heap[g]? = some (.cells #[.int .i64 o, .int .i64 a, .int .i64 b, .int .i64 c] 23 (0, 0))) := by rw [hU, hg]; exact Go.heap_alloc_new w _
  have B2 : Hid (Below w.heap.size w U) := by rw [hU]; exact ext_alloc w _
  rw [← hU, ← hg]
  clear hU hg
  go_cut [3] from 9 to 31 (fun v wx => v = .string S ∧ wx = U)
  case first =>
    by_cases h : 0 ≤ o ∧ o < 22
    · have : o = 0 ∨ o = 1 ∨ o = 2 ∨ o = 3 ∨ o = 4 ∨ o = 5 ∨ o = 6 ∨ o = 7 ∨ o = 8 ∨ o = 9 ∨ o = 10 ∨ o = 11 ∨ o = 12 ∨ o = 13 ∨ o = 14 ∨ o = 15 ∨ o = 16 ∨ o = 17 ∨ o = 18 ∨ o = 19 ∨ o = 20 ∨ o = 21 := by omega
      clear h
      rcases this with rfl | rfl | rfl | rfl | rfl | rfl | rfl | rfl | rfl | rfl | rfl | rfl | rfl | rfl | rfl | rfl | rfl | rfl | rfl | rfl | rfl | rfl
      all_goals
        go_wp2_with fail
        go_meet
        exact ⟨by rw [HS0.out]; rfl, rfl⟩
    · have HW : Hid (whichB o = []) := by
        show _ = _
        unfold whichB
        rw [if_neg (by omega), if_neg (by omega), if_neg (by omega), if_neg (by omega)]
      have e2 : (o == 2) = false := by rw [beq_eq_false_iff_ne]; omega
      have e14 : (o == 14) = false := by rw [beq_eq_false_iff_ne]; omega
      have e18 : (o == 18) = false := by rw [beq_eq_false_iff_ne]; omega
      have e20 : (o == 20) = false := by rw [beq_eq_false_iff_ne]; omega
      have e21 : (o == 21) = false := by rw [beq_eq_false_iff_ne]; omega
      have e3 : (o == 3) = false := by rw [beq_eq_false_iff_ne]; omega
      have e4 : (o == 4) = false := by rw [beq_eq_false_iff_ne]; omega
      have e5 : (o == 5) = false := by rw [beq_eq_false_iff_ne]; omega
      have e6 : (o == 6) = false := by rw [beq_eq_false_iff_ne]; omega
      have e7 : (o == 7) = false := by rw [beq_eq_false_iff_ne]; omega
      have e8 : (o == 8) = false := by rw [beq_eq_false_iff_ne]; omega
      have e9 : (o == 9) = false := by rw [beq_eq_false_iff_ne]; omega
      have e10 : (o == 10) = false := by rw [beq_eq_false_iff_ne]; omega
      have e11 : (o == 11) = false := by rw [beq_eq_false_iff_ne]; omega
      have e12 : (o == 12) = false := by rw [beq_eq_false_iff_ne]; omega
      have e13 : (o == 13) = false := by rw [beq_eq_false_iff_ne]; omega
      have e16 : (o == 16) = false := by rw [beq_eq_false_iff_ne]; omega
      have e15 : (o == 15) = false := by rw [beq_eq_false_iff_ne]; omega
      have e17 : (o == 17) = false := by rw [beq_eq_false_iff_ne]; omega
      clear h
      go_wp2_with fail
      go_meet
      exact ⟨by rw [HS0.out, HW.out], rfl⟩
  case rest =>
    obtain ⟨rfl, rfl⟩ := hcut
    go_wp2_with fail
    go_loopw [4, 5] (fun lv iv wr => ∃ (k : Nat) (A : Option Addr) (e : Nat), k ≤ n ∧ iv = .int .i64 k ∧ lv = .slice A (l0 k).length e ∧ Hid (OwnI wr 3 wc.heap.size A (l0 k).length e (l0 k)) ∧ Hid (Below wc.heap.size wc wr)) (fun _ iv _ => n - (intOf iv).toNat)
    case atStart => exact ⟨0, _, 0, Nat.zero_le _, rfl, by rw [HF.out]; rfl, by show OwnI _ _ _ _ _ _ _; rw [HF.out]; exact OwnI.empty _ _, ext_alloc _ _⟩
    case round =>
      obtain ⟨k, A, e, hk, rfl, rfl, HO, HB⟩ := hrel
      by_cases hlt : k < n
      · have lk := HLE.out k
        have hltI : (k : Int) < (n : Int) := by omega
        have hkI : (0 : Int) ≤ (k : Int) := by omega
        obtain ⟨x, hx⟩ : ∃ x : Nat, x = (wh.getD k 0).toNat := ⟨_, rfl⟩
        obtain ⟨x1, x2⟩ := HM.out k hlt
        rw [← hx] at x1 x2
        obtain ⟨j, rfl⟩ : ∃ j, x = 97 + j := ⟨x - 97, by omega⟩
        have j3 : j < 3 := by omega
        obtain ⟨t, ht⟩ : ∃ t : Int, t = three a b c j := ⟨_, rfl⟩
        have I1 : ∀ w, (Instr.index 9 (.string S) (.int .i64 (k : Int))).run Tryd.prog w = .ok (.int .u8 (97 + (j : Int))) w := fun w => by
          have hk' : k < S.data.size := by have : S.data.size = n := HSZ; omega
          have hv : S.data[k] = wh.getD k 0 := by
            have : k < wh.length := by rw [HN.out]; exact hlt
            simp only [HSD.out]
            simp [List.getD, this]
          rw [run_index_string w 9 S .i64 k Tryd.underlying9, dif_pos ⟨by omega, by rw [HSZ]; exact hltI⟩]
          congr 1
          congr 1
          show ((S.data[k]).toNat : Int) = _
          rw [hv]
          omega
        have I2 : ∀ w, (Instr.index 70 (.agg #[.int .i64 a, .int .i64 b, .int .i64 c]) (.int .i64 (j : Int))).run Tryd.prog w = .ok (.int .i64 t) w := run_index_aggG Tryd.underlying70 (by omega) (by omega) (by kernel_rfl) (by kernel_rfl) (by
          rw [ht, Int.toNat_natCast]
          rcases (by omega : j = 0 ∨ j = 1 ∨ j = 2) with rfl | rfl | rfl <;> rfl)
        have HX := Lib.hid hx
        have HT := Lib.hid ht
        clear hx ht x1 x2
        have w1 : IntKind.u8.wrap (97 + (j : Int) - 97) = (j : Int) := by simp [IntKind.wrap, IntKind.bits, IntKind.signed]; omega
        have w3 : IntKind.u8.wrap (j : Int) = (j : Int) := by simp [IntKind.wrap, IntKind.bits, IntKind.signed]; omega
        have w2 : IntKind.i64.wrap (j : Int) = (j : Int) := IntWalk.i64_in _ (by omega)
        go_upto_region 30 with fail
        refine wp_region_schedC (fun u => Below wr.heap.size wr u) [(true, 0), (true, 2), (true, 3), (true, 4), (true, 5), (true, 6), (false, 1), (true, 7), (true, 8)] (by kernel_rfl) rfl (by kernel_rfl) (by kernel_rfl) (fun _ _ d _ _ h => by cases d <;> exact h) (ext_drew wr) ?_
        intro J0 hJ0
        have B5 : Hid (wr.heap[g]? = some (.cells #[.int .i64 o, .int .i64 a, .int .i64 b, .int .i64 c] 23 (0, 0))) := below_keep HB.out (Array.getElem?_eq_some_iff.1 B4.out).1 B4.out
        have gw : g < wr.heap.size := (Array.getElem?_eq_some_iff.1 B5.out).1
        have Q : Hid (Below wr.heap.size wr wr.drew) := ext_drew wr
        iterate 1 (refine schedC_pure (v := ?_) rfl (by rfl) ?_ ?_; rotate_left; (focus (intro u hC; obtain ⟨d0, d1, d2, d3⟩ := full4i ((hC.block g gw).trans B5.out); go_simp; try with_reducible rfl)); try go_simp)
        iterate 3 (refine schedC_pure (v := ?_) rfl (by rfl) ?_ ?_; rotate_left; (focus (intro u hC; go_simp; try with_reducible rfl)); try go_simp)
        refine schedC_pure (v := .int .u8 (j : Int)) rfl (by rfl) (fun u hC => by go_simp) ?_
        try go_simp
        refine schedC_pure (v := .int .i64 (j : Int)) rfl (by rfl) (fun u hC => by go_simp) ?_
        try go_simp
        refine schedC_eff rfl ?_
        intro J hJ
        go_wp2_with fail
        refine (three_c _ _ _ _ _).mono ?_
        rintro e2 v2 ⟨rfl, hb⟩
        have Q2 : Hid (Below wr.heap.size wr v2) := Lib.hid (ext_trans Q.out hb)
        clear hb Q
        go_wp2_with fail
        refine ⟨Q2.out, ?_⟩
        refine schedC_pure (v := .int .i64 t) rfl (by rfl) (fun u hC => by go_simp) ?_
        try go_simp
        iterate 1 (refine schedC_pure (v := ?_) rfl (by rfl) ?_ ?_; rotate_left; (focus (intro u hC; go_simp; try with_reducible rfl)); try go_simp)
        refine schedC_nil (hJ0 _ _ ?_)
        clear hJ0
        have HO2 : Hid (OwnI v2 3 wc.heap.size A (l0 k).length e (l0 k)) := HO.out.ext Q2.out
        have HB2 : Hid (Below wc.heap.size wc v2) := ext_trans HB.out Q2.out
        clear HO HB Q2 B5 gw w1 w2 w3 I1 I2
        obtain ⟨p, hp⟩ : ∃ p, p = (l0 k).length := ⟨_, rfl⟩
        rw [← hp] at HO2 lk
        rw [← hp]
        have HP := Lib.hid hp
        have HJ : Hid ((wh.getD k 0).toNat - 97 = j) := by show _ = _; have := HX.out; omega
        clear hp
        by_cases h0 : p = 0
        · subst h0
          have HS : Hid (l0 (k + 1) = l0 k ++ [t]) := by
            have h1 : l0 k = [] := List.eq_nil_of_length_eq_zero HP.out.symm
            show _ = _
            rw [HF.out] at h1 ⊢
            rw [rreadsF_yes (.inl h1), HJ.out, ← HT.out]
          go_wp2_with (refine wpList_pushI (o := ⟨some 60, _, _, _, _, _⟩) rfl (.tmp 57) (.tmp 59) 38 rfl 3 Tryd.underlying38 infoI wc.heap.size _ _ _ _ (by rfl) HO2.out t (by rfl) (by omega) HB2.out.size ?_; intro A' e' w' ho' hb'; have HO3 := Lib.hid ho'; have HB3 := Lib.hid hb'; clear ho' hb'; go_simp)
          have HP2 := HP.out
          exact ⟨⟨k + 1, A', e', by omega, by go_num, by rw [HS.out, List.length_append, ← HP2]; rfl, by rw [HS.out, List.length_append, ← HP2]; exact HO3.out, HB2.out.trans HB3.out⟩, by simp [intOf]; omega⟩
        · obtain ⟨y, hy⟩ : ∃ y : Int, y = (l0 k).getD 0 0 := ⟨_, rfl⟩
          have hne : ¬ l0 k = [] := fun h => h0 (by rw [HP.out, h]; rfl)
          obtain ⟨b', o', rfl, _, cy⟩ := HO2.out.rd.at (k := 0) (by omega)
          rw [← hy, Nat.add_zero] at cy
          have HY := Lib.hid hy
          have HNE := Lib.hid hne
          have p0 : ((p : Int) == 0) = false := by rw [beq_eq_false_iff_ne]; omega
          have p1 : (0 : Int) < (p : Int) := by omega
          clear hy hne
          by_cases hyt : y = t
          · have HS : Hid (l0 (k + 1) = l0 k) := by
              show _ = _
              have h1 := HNE.out
              have h2 := HY.out
              rw [HF.out] at h1 h2 ⊢
              refine rreadsF_no ?_
              rintro (h | h)
              · exact h1 h
              · exact h (by rw [HJ.out, ← h2, ← HT.out]; exact hyt)
            have q1 : (y != t) = false := by rw [bne_eq_false_iff_eq]; exact hyt
            clear hyt
            go_wp2_with fail
            exact ⟨⟨k + 1, _, e, by omega, by go_num, by rw [HS.out, ← HP.out], by rw [HS.out, ← HP.out]; exact HO2.out, HB2.out⟩, by simp [intOf]; omega⟩
          · have HS : Hid (l0 (k + 1) = l0 k ++ [t]) := by
              show _ = _
              have h2 := HY.out
              rw [HF.out] at h2 ⊢
              rw [rreadsF_yes (.inr (by rw [HJ.out, ← h2, ← HT.out]; exact hyt)), HJ.out, ← HT.out]
            have q1 : (y != t) = true := by rw [bne_iff_ne]; exact hyt
            clear hyt
            go_wp2_with (refine wpList_pushI (o := ⟨some 60, _, _, _, _, _⟩) rfl (.tmp 57) (.tmp 59) 38 rfl 3 Tryd.underlying38 infoI wc.heap.size _ _ _ _ (by rfl) HO2.out t (by rfl) (by omega) HB2.out.size ?_; intro A' e' w' ho' hb'; have HO3 := Lib.hid ho'; have HB3 := Lib.hid hb'; clear ho' hb'; go_simp)
            exact ⟨⟨k + 1, A', e', by omega, by go_num, by rw [HS.out, List.length_append, ← HP.out]; rfl, by rw [HS.out, List.length_append, ← HP.out]; exact HO3.out, HB2.out.trans HB3.out⟩, by simp [intOf]; omega⟩
      · obtain rfl : k = n := by omega
        go_wp2_with fail
        go_ret
        exact ⟨_, _, _, rfl, HO.out.rd, ext_trans B2.out HB.out⟩
end Go.Proofs.YtibmkihehaedjaaDoor
