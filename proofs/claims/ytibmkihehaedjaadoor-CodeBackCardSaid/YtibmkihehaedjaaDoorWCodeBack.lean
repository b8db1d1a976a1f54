/-
  CodeBack: the walk.
-/
import Derived.Test.YtibmkihehaedjaaDoorGBackP
import Derived.Test.YtibmkihehaedjaaDoorGDec
import Derived.Test.YtibmkihehaedjaaDoorGSame
import Derived.Test.YtibmkihehaedjaaDoorMem2
import Derived.Test.YtibmkihehaedjaaDoorFrame
namespace Go.Proofs.YtibmkihehaedjaaDoor
open Go.RowKit

theorem encV_short {l : List Ins} (h : ∀ x ∈ l, x.ok) : (encV l).1.length ≤ 50000000 := by
  unfold encV
  split
  · rename_i h0
    have hck := check_ok h0
    exact encF_len (fun x hx => insB_len (h x hx) (right_parts (hck.2 x hx)).1) (by omega) _
  · simp

set_option maxRecDepth 100000 in
set_option maxHeartbeats 8000000 in
theorem walkCodeBack (w : World) (A : Option Addr) (n d : Nat) (l : List Ins) (A2 : Option Addr) (n2 d2 : Nat) (bs : List UInt8) (cut : Nat) (h : RdS w A n d l) (hl : ∀ x ∈ l, x.ok) (h2 : Rd w A2 n2 d2 bs) (hc : cut < 65536) (hf : Hid (Forms w)) : Calls Tryd.prog 7 #[.slice A n d, .slice A2 n2 d2, .int .u16 cut] w (Holds w) := by
  have HL := Lib.hid h.len
  have hle := h.le
  have hmx := h.max
  have hle2 := h2.le
  have hmx2 := h2.max
  have R0 := Lib.hid h
  have RB := Lib.hid h2
  have HOK := Lib.hid hl
  have B : Hid (Below w.heap.size w w) := Below.refl _ _
  have HF := hf
  clear h hl h2 hf
  go_enter Tryd.func7, Tryd.ntmps7
  go_wp2_with fail
  refine (codeKnown_c _ HF).mono ?_
  rintro e v ⟨rfl, hb⟩
  replace R0 := Lib.hid (R0.out.ext hb)
  replace RB := Lib.hid (RB.out.ext hb)
  replace B := Lib.hid (ext_trans B.out hb)
  replace HF := Lib.hid (HF.out.ext hb)
  have hbX := Lib.hid hb
  clear hb
  by_cases h3 : 300 < n
  · have h3I : (300 : Int) < (n : Int) := by omega
    go_wp2_with fail
    refine (codeKnown_c _ HF).mono ?_
    rintro e v2 ⟨rfl, hb⟩
    go_wp2_with fail
    go_ret
    exact ⟨rfl, ext_trans B.out hb⟩
  by_cases h4 : 2000 < n2
  · have h3I : ¬ (300 : Int) < (n : Int) := by omega
    have h4I : (2000 : Int) < (n2 : Int) := by omega
    go_wp2_with fail
    refine (codeKnown_c _ HF).mono ?_
    rintro e v2 ⟨rfl, hb⟩
    go_wp2_with fail
    go_ret
    exact ⟨rfl, ext_trans B.out hb⟩
  have h3I : ¬ (300 : Int) < (n : Int) := by omega
  have h4I : ¬ (2000 : Int) < (n2 : Int) := by omega
  go_wp2_with fail
  refine (of_c _ A n d l R0 (by omega)).mono ?_
  rintro e v2 ⟨A3, d3, rfl, hR, hb⟩
  have R1 := Lib.hid hR
  clear hR
  replace R0 := Lib.hid (R0.out.ext hb)
  replace RB := Lib.hid (RB.out.ext hb)
  replace B := Lib.hid (ext_trans B.out hb)
  replace HF := Lib.hid (HF.out.ext hb)
  have hbX := Lib.hid hb
  clear hb
  rw [HL.out] at R1 ⊢
  go_wp2_with fail
  refine (encode_c _ HF A3 n d3 l R1 HOK).mono ?_
  rintro e v3 ⟨A4, n4, d4, rfl, hR, hb⟩
  have X1 := Lib.hid hR
  clear hR R1
  replace R0 := Lib.hid (R0.out.ext hb)
  replace RB := Lib.hid (RB.out.ext hb)
  replace B := Lib.hid (ext_trans B.out hb)
  replace HF := Lib.hid (HF.out.ext hb)
  have hbX := Lib.hid hb
  clear hb
  have hn4 : n4 ≤ 50000000 := by rw [← X1.out.len]; exact encV_short HOK.out
  by_cases hc0 : (checkV l 256).2 = 0
  · have HE : Hid (encV l = (encF l l.length, 0)) := by show _ = _; unfold encV; rw [if_pos hc0]
    rw [HE.out] at X1 ⊢
    dsimp only at X1 ⊢
    have HC := Lib.hid hc0
    clear hc0 HE
    obtain ⟨E, hE⟩ : ∃ E, E = encF l l.length := ⟨_, rfl⟩
    have HE := Lib.hid hE
    rw [← hE] at X1
    have n4p : 0 < n4 := by rw [← X1.out.len, hE]; exact encF_pos l _
    clear hE
    have n40 : ((n4 : Int) == 0) = false := by rw [beq_eq_false_iff_ne]; omega
    have D1 : Hid (decV E = (l, 0)) := by
      have h1 := dec_encF HC.out []
      rw [List.append_nil, if_neg (fun h => h rfl)] at h1
      rw [HE.out]
      exact h1
    go_wp2_with fail
    refine (decode_c _ HF A4 n4 d4 E X1 (by omega)).mono ?_
    rw [D1.out]
    rintro e v4 ⟨A5, n5, d5, rfl, hR, hb⟩
    have Y1 := Lib.hid hR
    clear hR D1
    replace R0 := Lib.hid (R0.out.ext hb)
    replace RB := Lib.hid (RB.out.ext hb)
    replace B := Lib.hid (ext_trans B.out hb)
    replace HF := Lib.hid (HF.out.ext hb)
    have hbX := Lib.hid hb
    clear hb
    replace X1 := Lib.hid (X1.out.ext hbX.out)
    dsimp only at Y1 ⊢
    have hn5 : n5 = n := by rw [← Y1.out.len, HL.out]
    subst hn5
    go_wp2_with fail
    refine (to_c _ A5 n5 d5 l Y1 (by omega)).mono ?_
    rintro e v5 ⟨A6, d6, rfl, hR, hb⟩
    have Z1 := Lib.hid hR
    clear hR Y1
    replace R0 := Lib.hid (R0.out.ext hb)
    replace RB := Lib.hid (RB.out.ext hb)
    replace B := Lib.hid (ext_trans B.out hb)
    replace HF := Lib.hid (HF.out.ext hb)
    have hbX := Lib.hid hb
    clear hb
    replace X1 := Lib.hid (X1.out.ext hbX.out)
    go_wp2_with fail
    refine (same_c _ A6 l.length d6 l Z1 A n5 d l R0 rfl).mono ?_
    rintro e v6 ⟨rfl, hb⟩
    clear Z1
    replace R0 := Lib.hid (R0.out.ext hb)
    replace RB := Lib.hid (RB.out.ext hb)
    replace B := Lib.hid (ext_trans B.out hb)
    replace HF := Lib.hid (HF.out.ext hb)
    have hbX := Lib.hid hb
    clear hb
    replace X1 := Lib.hid (X1.out.ext hbX.out)
    obtain ⟨j, hj⟩ : ∃ j, j = cut % n4 := ⟨_, rfl⟩
    have ljn : j < n4 := by rw [hj]; exact Nat.mod_lt _ n4p
    have r1 : (cut : Int) % (n4 : Int) = (j : Int) := by rw [hj]; exact (Int.natCast_emod _ _).symm
    have r2 : (cut : Int).tmod (n4 : Int) = (j : Int) := by rw [Int.tmod_eq_emod_of_nonneg (by omega)]; exact r1
    have r3 : IntKind.i64.wrap (j : Int) = (j : Int) := IntWalk.i64_in _ (by omega)
    have r4 : IntKind.i64.wrap (cut : Int) = (cut : Int) := IntWalk.i64_in _ (by omega)
    have r5 : (0 : Int) ≤ (j : Int) := by omega
    have r6 : (j : Int) ≤ (d4 : Int) := by have := X1.out.le; omega
    have D2 : Hid (decV (E.take j) = ([], 4)) := by
      rw [HE.out]
      exact dec_cutF HC.out (by rw [← HE.out, X1.out.len]; exact ljn)
    have D3 : Hid (decV (E ++ [0]) = ([], 5)) := by
      have h1 := dec_encF HC.out [0]
      rw [if_pos (by simp)] at h1
      rw [HE.out]
      exact h1
    have n4n : ¬ (n4 : Int) = 0 := by omega
    obtain ⟨xb, xo, rfl, _⟩ := X1.out.cells n4p
    have hd4 := X1.out.le
    have hd4m := X1.out.max
    clear hj
    go_wp2_with fail
    refine (decode_c _ HF (some ⟨xb, xo, none⟩) j d4 (E.take j) (Lib.hid (X1.out.front (by omega))) (by omega)).mono ?_
    rw [D2.out]
    rintro e v7 ⟨A7, n7, d7, rfl, hR, hb⟩
    have hn7 : n7 = 0 := hR.len.symm
    subst hn7
    clear hR D2 r1 r2 r3 r4 r5 r6
    replace R0 := Lib.hid (R0.out.ext hb)
    replace RB := Lib.hid (RB.out.ext hb)
    replace B := Lib.hid (ext_trans B.out hb)
    replace HF := Lib.hid (HF.out.ext hb)
    have hbX := Lib.hid hb
    clear hb
    replace X1 := Lib.hid (X1.out.ext hbX.out)
    dsimp only
    go_wp2_with (first
      | (refine wpList_push_all (o := ⟨some 73, _, _, _, _, _⟩) rfl (.tmp 71) (.tmp 72) 48 48 rfl 5 Tryd.underlying48 infoU8 v7.heap.size _ _ _ _ (by rfl) (Own.empty v7 _) _ n4 E (by rfl) ((X1.out.ext (ext_alloc _ _)).src Tryd.underlying48) (by omega) (by simp) ?_; intro A8 c8 w8 ho8 hb8; rw [Nat.zero_add, List.nil_append] at ho8; have O8 := Lib.hid ho8; have BB := Lib.hid hb8; have hz8 : v7.heap.size ≤ w8.heap.size := (by have := hb8.size; simp at this; omega); clear ho8 hb8; go_simp)
      | (refine wpList_push1 (o := ⟨some 75, _, _, _, _, _⟩) rfl (.tmp 73) (.tmp 74) 48 rfl 5 Tryd.underlying48 infoU8 v7.heap.size _ _ _ _ (by rfl) O8.out 0 0 (by rfl) (by rfl) (by omega) hz8 ?_; intro A9 c9 w9 ho9 hb9 _ _; have O9 := Lib.hid ho9; have BC := Lib.hid hb9; clear ho9 hb9; go_simp))
    have hb : Below v7.heap.size v7 w9 := ((ext_alloc v7 _).trans BB.out).trans BC.out
    replace R0 := Lib.hid (R0.out.ext hb)
    replace RB := Lib.hid (RB.out.ext hb)
    replace B := Lib.hid (ext_trans B.out hb)
    replace HF := Lib.hid (HF.out.ext hb)
    have hbX := Lib.hid hb
    clear hb
    clear BB BC O8
    replace X1 := Lib.hid (X1.out.ext hbX.out)
    refine (decode_c _ HF A9 _ c9 (E ++ [0]) (Lib.hid O9.out.rd) (by omega)).mono ?_
    rw [D3.out]
    rintro e v10 ⟨A10, n10, d10, rfl, hR, hb⟩
    clear hR D3 O9
    replace R0 := Lib.hid (R0.out.ext hb)
    replace RB := Lib.hid (RB.out.ext hb)
    replace B := Lib.hid (ext_trans B.out hb)
    replace HF := Lib.hid (HF.out.ext hb)
    have hbX := Lib.hid hb
    clear hb
    dsimp only
    clear X1 HE HC
    go_wp2_with fail
    refine (decode_c _ HF A2 n2 d2 bs RB (by omega)).mono ?_
    rintro e u1 ⟨A11, n11, d11, rfl, hR, hb⟩
    have Y1 := Lib.hid hR
    clear hR
    replace R0 := Lib.hid (R0.out.ext hb)
    replace RB := Lib.hid (RB.out.ext hb)
    replace B := Lib.hid (ext_trans B.out hb)
    replace HF := Lib.hid (HF.out.ext hb)
    have hbX := Lib.hid hb
    clear hb
    by_cases hd0 : (decV bs).2 = 0
    · have HOK2 := Lib.hid (dec_ok hd0)
      have HEV := Lib.hid (dec_enc hd0)
      obtain ⟨pd, hpd⟩ : ∃ p, p = decV bs := ⟨_, rfl⟩
      rw [← hpd] at hd0 Y1 HOK2 HEV ⊢
      clear hpd
      obtain ⟨ys, e2⟩ := pd
      dsimp only at hd0 Y1 HOK2 HEV ⊢
      subst hd0
      go_wp2_with fail
      refine (encode_c _ HF A11 n11 d11 ys Y1 HOK2).mono ?_
      rw [HEV.out]
      rintro e u2 ⟨A12, n12, d12, rfl, hR, hb⟩
      have X2 := Lib.hid hR
      replace RB := Lib.hid (RB.out.ext hb)
      replace B := Lib.hid (ext_trans B.out hb)
      clear hR hb
      dsimp only at X2 ⊢
      have T1 : (convert 48 9 (.slice A12 n12 d12)).run Tryd.prog u2 = .ok (.string ⟨bs.toArray⟩) u2 := X2.out.text Tryd.underlying48 Tryd.underlying5 Tryd.underlying9
      have T2 : (convert 48 9 (.slice A2 n2 d2)).run Tryd.prog u2 = .ok (.string ⟨bs.toArray⟩) u2 := RB.out.text Tryd.underlying48 Tryd.underlying5 Tryd.underlying9
      go_wp2_with fail
      go_ret
      exact ⟨rfl, B.out⟩
    · have HNIL := Lib.hid (decV_err hd0)
      have hn11 : n11 = 0 := by rw [← Y1.out.len, HNIL.out]; rfl
      subst hn11
      obtain ⟨p2, hp2⟩ : ∃ p, p = (decV bs).2 := ⟨_, rfl⟩
      rw [← hp2] at hd0 ⊢
      have hne : (p2 != 0) = true := by rw [bne_iff_ne]; exact hd0
      clear hp2 hd0 HNIL Y1
      go_wp2_with fail
      go_ret
      exact ⟨rfl, B.out⟩
  · have HE : Hid (encV l = ([], (checkV l 256).2)) := by show _ = _; unfold encV; rw [if_neg hc0]
    rw [HE.out] at X1 ⊢
    dsimp only at X1 ⊢
    have hn40 : n4 = 0 := X1.out.len.symm
    subst hn40
    obtain ⟨p2, hp2⟩ : ∃ p, p = (checkV l 256).2 := ⟨_, rfl⟩
    rw [← hp2] at hc0 ⊢
    have hne : (p2 == 0) = false := by rw [beq_eq_false_iff_ne]; exact hc0
    clear hp2 hc0 HE X1
    go_wp2_with fail
    refine (decode_c _ HF A2 n2 d2 bs RB (by omega)).mono ?_
    rintro e u1 ⟨A11, n11, d11, rfl, hR, hb⟩
    have Y1 := Lib.hid hR
    clear hR
    replace R0 := Lib.hid (R0.out.ext hb)
    replace RB := Lib.hid (RB.out.ext hb)
    replace B := Lib.hid (ext_trans B.out hb)
    replace HF := Lib.hid (HF.out.ext hb)
    have hbX := Lib.hid hb
    clear hb
    by_cases hd0 : (decV bs).2 = 0
    · have HOK2 := Lib.hid (dec_ok hd0)
      have HEV := Lib.hid (dec_enc hd0)
      obtain ⟨pd, hpd⟩ : ∃ p, p = decV bs := ⟨_, rfl⟩
      rw [← hpd] at hd0 Y1 HOK2 HEV ⊢
      clear hpd
      obtain ⟨ys, e2⟩ := pd
      dsimp only at hd0 Y1 HOK2 HEV ⊢
      subst hd0
      go_wp2_with fail
      refine (encode_c _ HF A11 n11 d11 ys Y1 HOK2).mono ?_
      rw [HEV.out]
      rintro e u2 ⟨A12, n12, d12, rfl, hR, hb⟩
      have X2 := Lib.hid hR
      replace RB := Lib.hid (RB.out.ext hb)
      replace B := Lib.hid (ext_trans B.out hb)
      clear hR hb
      dsimp only at X2 ⊢
      have T1 : (convert 48 9 (.slice A12 n12 d12)).run Tryd.prog u2 = .ok (.string ⟨bs.toArray⟩) u2 := X2.out.text Tryd.underlying48 Tryd.underlying5 Tryd.underlying9
      have T2 : (convert 48 9 (.slice A2 n2 d2)).run Tryd.prog u2 = .ok (.string ⟨bs.toArray⟩) u2 := RB.out.text Tryd.underlying48 Tryd.underlying5 Tryd.underlying9
      go_wp2_with fail
      go_ret
      exact ⟨rfl, B.out⟩
    · have HNIL := Lib.hid (decV_err hd0)
      have hn11 : n11 = 0 := by rw [← Y1.out.len, HNIL.out]; rfl
      subst hn11
      obtain ⟨p2, hp2⟩ : ∃ p, p = (decV bs).2 := ⟨_, rfl⟩
      rw [← hp2] at hd0 ⊢
      have hne : (p2 != 0) = true := by rw [bne_iff_ne]; exact hd0
      clear hp2 hd0 HNIL Y1
      go_wp2_with fail
      go_ret
      exact ⟨rfl, B.out⟩
#print axioms walkCodeBack
end Go.Proofs.YtibmkihehaedjaaDoor
