/-
  code: the words that an instruction reads: contracts.
-/
import Derived.Test.YtbeileihbhooaaaDoorGNum
namespace Go.Proofs.YtbeileihbhooaaaDoor
open Go.RowKit

theorem three_at (a b c : Int) {k : Nat} (hk : k < 3) {w : World} {g : Nat} {T : TypeId} (h : w.heap[g]? = some (.cells #[.int .i64 a, .int .i64 b, .int .i64 c] T (0, 0))) : w.cell? ⟨g, k, none⟩ = some (.int .i64 (three a b c k)) := by
  rw [cell_of_row w g k _ _ _ h]
  rcases (by omega : k = 0 ∨ k = 1 ∨ k = 2) with rfl | rfl | rfl <;> rfl

theorem readsF_yes {has : List UInt8} {t : Nat → Int} {k : Nat} (h : has.getD k 0 = 114 ∨ has.getD k 0 = 99) (hm : ¬ t k ∈ readsF has t k) : readsF has t (k + 1) = readsF has t k ++ [t k] := by
  conv => lhs; unfold readsF
  rw [if_pos ⟨h, hm⟩]
theorem readsF_no {has : List UInt8} {t : Nat → Int} {k : Nat} (h : ¬ ((has.getD k 0 = 114 ∨ has.getD k 0 = 99) ∧ ¬ t k ∈ readsF has t k)) : readsF has t (k + 1) = readsF has t k := by
  conv => lhs; unfold readsF
  rw [if_neg h]

set_option maxRecDepth 100000 in
set_option maxHeartbeats 1000000 in
theorem reads_c (w : World) (hf : Hid (Forms w)) (o a b c : Int) : Calls Tryd.prog 34 #[.agg #[.int .i64 o, .int .i64 a, .int .i64 b, .int .i64 c]] w (Ints w (readsV o a b c)) := by
  by_cases ho : 0 ≤ o ∧ o < 22
  · obtain ⟨m, rfl⟩ : ∃ m : Nat, o = (m : Int) := ⟨o.toNat, by omega⟩
    have hm : m < 22 := by omega
    have hmI : (m : Int) < 22 := by omega
    have hm0 : (0 : Int) ≤ (m : Int) := by omega
    have HV : Hid (readsV m a b c = readsF (hasB m) (three a b c) (hasB m).length) := by
      show _ = _
      unfold readsV
      rw [if_pos ho, Int.toNat_natCast]
    obtain ⟨hs, hhs⟩ : ∃ hs, hs = hasB m := ⟨_, rfl⟩
    obtain ⟨n, hn⟩ : ∃ n, n = hs.length := ⟨_, rfl⟩
    have hn3 : n ≤ 3 := by rw [hn, hhs]; exact (hasB_len m hm).2
    obtain ⟨S, hS⟩ : ∃ S : ByteArray, S = ⟨hs.toArray⟩ := ⟨_, rfl⟩
    have HSL : Hid (S.data.toList = hs) := by show _ = _; rw [hS]
    have HSZ : Hid (S.size = n) := by show _ = _; rw [hS, hn]; rfl
    have CH : Hid (Forms w → w.cell? ⟨0, m * 2 + 1, none⟩ = some (.string S)) := fun h => by rw [hS, hhs]; exact h.has m hm
    rw [← hhs] at HV
    rw [← hn] at HV
    have HN := Lib.hid hn.symm
    clear hhs hS hn ho
    go_enter Tryd.func34, Tryd.ntmps34
    go_wp2_with fail
    refine (known_t _ _ hm0 hmI).mono ?_
    rintro e w' ⟨rfl, rfl⟩
    go_wp2_with fail
    refine (numbers_c _ _ _ _ _).mono ?_
    rintro e w2 ⟨rfl, hb⟩
    obtain ⟨g, hg⟩ : ∃ g, g = w.heap.size := ⟨_, rfl⟩
    have B4 : Hid (w2.heap[g]? = some (.cells #[.int .i64 m, .int .i64 a, .int .i64 b, .int .i64 c] 57 (0, 0))) := by rw [hg]; exact below_keep hb (by simp) (Go.heap_alloc_new w _)
    have B2 : Hid (Below w.heap.size w w2) := ext_trans (ext_alloc w _) hb
    rw [← hg]
    clear hb hg
    obtain ⟨b0, b1, b2, b3⟩ := full4i B4.out
    go_upto_region 5 with fail
    obtain ⟨q, hq⟩ : ∃ q, q = w2.heap.size := ⟨_, rfl⟩
    obtain ⟨U, hU⟩ : ∃ U, U = World.alloc w2 (.cells #[.int .i64 a, .int .i64 b, .int .i64 c] 83) := ⟨_, rfl⟩
    have B3 : Hid (U.heap[q]? = some (.cells #[.int .i64 a, .int .i64 b, .int .i64 c] 83 (0, 0))) := by rw [hU, hq]; exact Go.heap_alloc_new w2 _
    have BU : Hid (Below w2.heap.size w2 U) := by rw [hU]; exact ext_alloc w2 _
    replace B4 : Hid (U.heap[g]? = some (.cells #[.int .i64 m, .int .i64 a, .int .i64 b, .int .i64 c] 57 (0, 0))) := below_keep BU.out (Array.getElem?_eq_some_iff.1 B4.out).1 B4.out
    replace B2 : Hid (Below w.heap.size w U) := ext_trans B2.out BU.out
    rw [← hU, ← hq]
    clear hU hq BU b0 b1 b2 b3
    obtain ⟨b0, b1, b2, b3⟩ := full4i B4.out
    have ch : U.cell? ⟨0, m * 2 + 1, none⟩ = some (.string S) := (B2.out.cell (p := ⟨0, m * 2 + 1, none⟩) hf.out.lt).trans (CH.out hf.out)
    obtain ⟨d, V, hrun, hRd, hVs, hbV⟩ := str_convG U S (by rw [HSZ.out]; unfold maxLen; omega)
    rw [HSL.out, HSZ.out] at hRd
    rw [HSZ.out] at hrun
    obtain ⟨r, hr⟩ : ∃ r, r = U.heap.size := ⟨_, rfl⟩
    rw [← hr] at hRd hrun
    replace B3 : Hid (V.heap[q]? = some (.cells #[.int .i64 a, .int .i64 b, .int .i64 c] 83 (0, 0))) := below_keep hbV (Array.getElem?_eq_some_iff.1 B3.out).1 B3.out
    replace B2 : Hid (Below w.heap.size w V) := ext_trans B2.out hbV
    have RD := Lib.hid hRd
    clear hRd hVs hbV hr CH B4
    go_wp2_with fail
    clear hrun ch b0 b1 b2 b3
    obtain ⟨l0, hl0⟩ : ∃ f : Nat → List Int, f = readsF hs (three a b c) := ⟨_, rfl⟩
    have HLE : Hid (∀ k, (l0 k).length ≤ k) := by show ∀ k, _; rw [hl0]; exact readsF_len _ _
    have HF := Lib.hid hl0
    rw [← hl0] at HV
    clear hl0
    go_loopw [3, 21] (fun lv iv wr => ∃ (k : Nat) (A : Option Addr) (e : Nat), k ≤ n ∧ iv = .int .i64 k ∧ lv = .slice A (l0 k).length e ∧ Hid (OwnI wr 3 V.heap.size A (l0 k).length e (l0 k)) ∧ Hid (Below V.heap.size V wr)) (fun _ iv _ => n - (intOf iv).toNat)
    case atStart => exact ⟨0, none, 0, Nat.zero_le _, rfl, by rw [HF.out]; rfl, by show OwnI _ _ _ _ _ _ _; rw [HF.out]; exact OwnI.nil _ _ _, Below.refl _ _⟩
    case round =>
      obtain ⟨k, A, e, hk, rfl, rfl, HO, HB⟩ := hrel
      by_cases hlt : k < n
      · have lk := HLE.out k
        have k3 : k < 3 := by omega
        have hltI : (k : Int) < (n : Int) := by omega
        have hkI : (0 : Int) ≤ (k : Int) := by omega
        have k3I : (k : Int) < 3 := by omega
        obtain ⟨b', o', hA, _, hc⟩ := (RD.out.ext HB.out).cells (by omega)
        injection hA with hA
        injection hA with e1 e2 _
        subst e1 e2
        have c1 := hc k hlt
        rw [Nat.zero_add] at c1
        clear hc
        have c2 := three_at a b c k3 (below_keep HB.out (Array.getElem?_eq_some_iff.1 B3.out).1 B3.out)
        obtain ⟨x, hx⟩ : ∃ x : Nat, x = (hs.getD k 0).toNat := ⟨_, rfl⟩
        rw [← hx] at c1
        obtain ⟨t, ht⟩ : ∃ t : Int, t = three a b c k := ⟨_, rfl⟩
        rw [← ht] at c2
        have HX := Lib.hid hx
        have HT := Lib.hid ht
        clear hx ht
        by_cases h1 : x = 114
        · have C1 : Hid (hs.getD k 0 = 114) := UInt8.toNat_inj.1 (HX.out.symm.trans h1)
          subst h1
          skip
          by_cases hmem : t ∈ l0 k
          · have hd : decide (t ∈ l0 k) = true := decide_eq_true hmem
            have HS : Hid (l0 (k + 1) = l0 k) := by
              show _ = _
              rw [HT.out] at hmem
              rw [HF.out] at hmem ⊢
              exact readsF_no (fun h => h.2 hmem)
            clear hmem
            go_wp2_with fail
            refine (contains_c _ A (l0 k).length e (l0 k) t (Lib.hid HO.out.rd)).mono ?_
            rw [hd]
            rintro e2 w' ⟨rfl, rfl⟩
            go_wp2_with fail
            exact ⟨⟨k + 1, A, e, by omega, by go_num, by rw [HS.out], by rw [HS.out]; exact HO.out, HB.out⟩, by simp [intOf]; omega⟩
          · have hd : decide (t ∈ l0 k) = false := decide_eq_false hmem
            have HS : Hid (l0 (k + 1) = l0 k ++ [t]) := by
              show _ = _
              rw [HT.out] at hmem ⊢
              rw [HF.out] at hmem ⊢
              exact readsF_yes (.inl C1.out) hmem
            clear hmem
            go_wp2_with fail
            refine (contains_c _ A (l0 k).length e (l0 k) t (Lib.hid HO.out.rd)).mono ?_
            rw [hd]
            rintro e2 w' ⟨rfl, rfl⟩
            clear hd
            go_wp2_with (refine wpList_pushI (o := ⟨some 45, _, _, _, _, _⟩) rfl (.tmp 40) (.tmp 44) 41 rfl 3 Tryd.underlying41 infoI V.heap.size _ _ _ _ (by rfl) HO.out t (by rfl) (by omega) HB.out.size ?_; intro A' e' w' ho' hb'; have HO2 := Lib.hid ho'; have HB2 := Lib.hid hb'; clear ho' hb'; go_simp)
            exact ⟨⟨k + 1, A', e', by omega, by go_num, by rw [HS.out, List.length_append]; rfl, by rw [HS.out, List.length_append]; exact HO2.out, HB.out.trans HB2.out⟩, by simp [intOf]; omega⟩
        · have g1 : ((x : Int) == 114) = false := by rw [beq_eq_false_iff_ne]; omega
          by_cases h2 : x = 99
          · have C1 : Hid (hs.getD k 0 = 99) := UInt8.toNat_inj.1 (HX.out.symm.trans h2)
            subst h2
            clear h1 g1
            skip
            by_cases hmem : t ∈ l0 k
            · have hd : decide (t ∈ l0 k) = true := decide_eq_true hmem
              have HS : Hid (l0 (k + 1) = l0 k) := by
                show _ = _
                rw [HT.out] at hmem
                rw [HF.out] at hmem ⊢
                exact readsF_no (fun h => h.2 hmem)
              clear hmem
              go_wp2_with fail
              refine (contains_c _ A (l0 k).length e (l0 k) t (Lib.hid HO.out.rd)).mono ?_
              rw [hd]
              rintro e2 w' ⟨rfl, rfl⟩
              go_wp2_with fail
              exact ⟨⟨k + 1, A, e, by omega, by go_num, by rw [HS.out], by rw [HS.out]; exact HO.out, HB.out⟩, by simp [intOf]; omega⟩
            · have hd : decide (t ∈ l0 k) = false := decide_eq_false hmem
              have HS : Hid (l0 (k + 1) = l0 k ++ [t]) := by
                show _ = _
                rw [HT.out] at hmem ⊢
                rw [HF.out] at hmem ⊢
                exact readsF_yes (.inr C1.out) hmem
              clear hmem
              go_wp2_with fail
              refine (contains_c _ A (l0 k).length e (l0 k) t (Lib.hid HO.out.rd)).mono ?_
              rw [hd]
              rintro e2 w' ⟨rfl, rfl⟩
              clear hd
              go_wp2_with (refine wpList_pushI (o := ⟨some 45, _, _, _, _, _⟩) rfl (.tmp 40) (.tmp 44) 41 rfl 3 Tryd.underlying41 infoI V.heap.size _ _ _ _ (by rfl) HO.out t (by rfl) (by omega) HB.out.size ?_; intro A' e' w' ho' hb'; have HO2 := Lib.hid ho'; have HB2 := Lib.hid hb'; clear ho' hb'; go_simp)
              exact ⟨⟨k + 1, A', e', by omega, by go_num, by rw [HS.out, List.length_append]; rfl, by rw [HS.out, List.length_append]; exact HO2.out, HB.out.trans HB2.out⟩, by simp [intOf]; omega⟩
          · have g2 : ((x : Int) == 99) = false := by rw [beq_eq_false_iff_ne]; omega
            have HS : Hid (l0 (k + 1) = l0 k) := by
              show _ = _
              rw [HF.out]
              refine readsF_no (fun h => ?_)
              rcases h.1 with h | h
              · rw [h] at HX; exact h1 HX.out
              · rw [h] at HX; exact h2 HX.out
            clear h1 h2
            go_wp2_with fail
            exact ⟨⟨k + 1, A, e, by omega, by go_num, by rw [HS.out], by rw [HS.out]; exact HO.out, HB.out⟩, by simp [intOf]; omega⟩
      · obtain rfl : k = n := by omega
        go_wp2_with fail
        go_ret
        exact ⟨_, _, _, rfl, by rw [HV.out]; exact HO.out.rd, ext_trans B2.out HB.out⟩
  · have HV : Hid (readsV o a b c = []) := by show _ = _; unfold readsV; rw [if_neg ho]
    go_enter Tryd.func34, Tryd.ntmps34
    go_wp2_with fail
    refine (known_f _ o ho).mono ?_
    rintro e w' ⟨rfl, rfl⟩
    go_wp2_with fail
    go_ret
    exact ⟨none, 0, 0, rfl, by rw [HV.out]; exact RdI.nil _, ext_alloc w _⟩
end Go.Proofs.YtbeileihbhooaaaDoor
