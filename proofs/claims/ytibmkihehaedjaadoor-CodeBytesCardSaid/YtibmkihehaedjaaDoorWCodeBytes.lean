/-
  CodeBytes: the walk.
-/
import Derived.Test.YtibmkihehaedjaaDoorGRDec
import Derived.Test.YtibmkihehaedjaaDoorGREnc
import Derived.Test.YtibmkihehaedjaaDoorGSame
import Derived.Test.YtibmkihehaedjaaDoorFrame
namespace Go.Proofs.YtibmkihehaedjaaDoor
open Go.RowKit


theorem manyR_len : ∀ (n : Nat) (bs : List UInt8), (manyR n bs).1.length ≤ n
  | 0, _ => Nat.le_refl _
  | n + 1, bs => by
    rw [manyR]
    split
    · simp
    · have := manyR_len n (insR bs).2.1
      simp only [List.length_cons]
      omega
theorem decV_len (bs : List UInt8) : (decV bs).1.length ≤ 2048 := by
  have h1 := manyR_len (rnum bs 0 2048).1 (rnum bs 0 2048).2.1
  have h2 := rnum_most bs 0 2048
  unfold decV
  split
  · simp
  · split
    · simp
    · split
      · simp
      · split
        · simp
        · show (manyR (rnum bs 0 2048).1 (rnum bs 0 2048).2.1).1.length ≤ 2048
          omega
theorem encV_len {l : List Ins} (h : ∀ x ∈ l, x.ok) : (encV l).1.length ≤ 50000000 := by
  unfold encV
  split
  · rename_i h0
    have hck := check_ok h0
    exact encF_len (fun x hx => insB_len (h x hx) (right_parts (hck.2 x hx)).1) (by omega) _
  · simp

set_option maxRecDepth 100000 in
set_option maxHeartbeats 8000000 in
theorem walkCodeBytes (w : World) (A : Option Addr) (n d : Nat) (l : List Ins) (A2 : Option Addr) (n2 d2 : Nat) (bs : List UInt8) (h : RdS w A n d l) (hl : ∀ x ∈ l, x.ok) (h2 : Rd w A2 n2 d2 bs) (hf : Hid (Forms w)) : Calls Tryd.prog 6 #[.slice A n d, .slice A2 n2 d2] w (Holds w) := by
  have HL := Lib.hid h.len
  have hle := h.le
  have hmx := h.max
  have hle2 := h2.le
  have hmx2 := h2.max
  have R0 := Lib.hid h
  have RB := Lib.hid h2
  have HOK := Lib.hid hl
  have B : Hid (Below w.heap.size w w) := Below.refl _ _
  have HF := hf
  clear h hl h2 hf
  go_enter Tryd.func6, Tryd.ntmps6
  go_wp2_with fail
  refine (codeKnown_c _ HF).mono ?_
  rintro e v ⟨rfl, hb⟩
  replace R0 := Lib.hid (R0.out.ext hb)
  replace RB := Lib.hid (RB.out.ext hb)
  replace B := Lib.hid (ext_trans B.out hb)
  replace HF := Lib.hid (HF.out.ext hb)
  have hbX := Lib.hid hb
  clear hb
  by_cases h3 : 300 < n
  · have h3I : (300 : Int) < (n : Int) := by omega
    go_wp2_with fail
    refine (codeKnown_c _ HF).mono ?_
    rintro e v2 ⟨rfl, hb⟩
    go_wp2_with fail
    go_ret
    exact ⟨rfl, ext_trans B.out hb⟩
  by_cases h4 : 2000 < n2
  · have h3I : ¬ (300 : Int) < (n : Int) := by omega
    have h4I : (2000 : Int) < (n2 : Int) := by omega
    go_wp2_with fail
    refine (codeKnown_c _ HF).mono ?_
    rintro e v2 ⟨rfl, hb⟩
    go_wp2_with fail
    go_ret
    exact ⟨rfl, ext_trans B.out hb⟩
  have h3I : ¬ (300 : Int) < (n : Int) := by omega
  have h4I : ¬ (2000 : Int) < (n2 : Int) := by omega
  go_wp2_with fail
  refine (of_c _ A n d l R0 (by omega)).mono ?_
  rintro e v2 ⟨A3, d3, rfl, hR, hb⟩
  have R1 := Lib.hid hR
  clear hR
  replace R0 := Lib.hid (R0.out.ext hb)
  replace RB := Lib.hid (RB.out.ext hb)
  replace B := Lib.hid (ext_trans B.out hb)
  replace HF := Lib.hid (HF.out.ext hb)
  have hbX := Lib.hid hb
  clear hb
  rw [HL.out] at R1 ⊢
  go_wp2_with fail
  refine (encode_c _ HF A3 n d3 l R1 HOK).mono ?_
  rintro e v3 ⟨A4, n4, d4, rfl, hR, hb⟩
  have X1 := Lib.hid hR
  clear hR R1
  replace R0 := Lib.hid (R0.out.ext hb)
  replace RB := Lib.hid (RB.out.ext hb)
  replace B := Lib.hid (ext_trans B.out hb)
  replace HF := Lib.hid (HF.out.ext hb)
  have hbX := Lib.hid hb
  clear hb
  have hn4 : n4 ≤ 50000000 := by rw [← X1.out.len]; exact encV_len HOK.out
  go_wp2_with fail
  refine (rencode_c _ A n d l R0 HOK).mono ?_
  rintro e v4 ⟨A5, n5, d5, rfl, hR, hb⟩
  have X2 := Lib.hid hR
  clear hR
  replace R0 := Lib.hid (R0.out.ext hb)
  replace RB := Lib.hid (RB.out.ext hb)
  replace B := Lib.hid (ext_trans B.out hb)
  replace HF := Lib.hid (HF.out.ext hb)
  have hbX := Lib.hid hb
  clear hb
  replace X1 := Lib.hid (X1.out.ext hbX.out)
  have hn5 : n5 ≤ 50000000 := by rw [← X2.out.len]; exact encV_len HOK.out
  go_wp2_with fail
  refine (decode_c _ HF A2 n2 d2 bs RB (by omega)).mono ?_
  rintro e v5 ⟨A6, n6, d6, rfl, hR, hb⟩
  have Y1 := Lib.hid hR
  clear hR
  replace R0 := Lib.hid (R0.out.ext hb)
  replace RB := Lib.hid (RB.out.ext hb)
  replace B := Lib.hid (ext_trans B.out hb)
  replace HF := Lib.hid (HF.out.ext hb)
  have hbX := Lib.hid hb
  clear hb
  replace X1 := Lib.hid (X1.out.ext hbX.out)
  replace X2 := Lib.hid (X2.out.ext hbX.out)
  have hn6 : n6 ≤ 2048 := by rw [← Y1.out.len]; exact decV_len bs
  go_wp2_with fail
  refine (rdecode_c _ A2 n2 d2 bs RB).mono ?_
  rintro e v6 ⟨A7, n7, d7, rfl, hR, hb⟩
  have Y2 := Lib.hid hR
  clear hR
  replace R0 := Lib.hid (R0.out.ext hb)
  replace RB := Lib.hid (RB.out.ext hb)
  replace B := Lib.hid (ext_trans B.out hb)
  replace HF := Lib.hid (HF.out.ext hb)
  have hbX := Lib.hid hb
  clear hb
  replace X1 := Lib.hid (X1.out.ext hbX.out)
  replace X2 := Lib.hid (X2.out.ext hbX.out)
  replace Y1 := Lib.hid (Y1.out.ext hbX.out)
  obtain ⟨pe, hpe⟩ : ∃ p, p = encV l := ⟨_, rfl⟩
  obtain ⟨pd, hpd⟩ : ∃ p, p = decV bs := ⟨_, rfl⟩
  rw [← hpe] at X1 X2 ⊢
  rw [← hpd] at Y1 Y2 ⊢
  clear hpe hpd
  have T1 : (convert 48 9 (.slice A4 n4 d4)).run Tryd.prog v6 = .ok (.string ⟨pe.1.toArray⟩) v6 := X1.out.text Tryd.underlying48 Tryd.underlying5 Tryd.underlying9
  have T2 : (convert 48 9 (.slice A5 n5 d5)).run Tryd.prog v6 = .ok (.string ⟨pe.1.toArray⟩) v6 := X2.out.text Tryd.underlying48 Tryd.underlying5 Tryd.underlying9
  go_wp2_with fail
  refine (to_c _ A6 n6 d6 pd.1 Y1 (by omega)).mono ?_
  rintro e v7 ⟨A8, d8, rfl, hR, hb⟩
  have Z1 := Lib.hid hR
  clear hR T1 T2
  replace Y2 := Lib.hid (Y2.out.ext hb)
  replace B := Lib.hid (ext_trans B.out hb)
  clear hb
  go_wp2_with fail
  refine (same_c _ A8 pd.1.length d8 pd.1 Z1 A7 n7 d7 pd.1 Y2 rfl).mono ?_
  rintro e v8 ⟨rfl, hb⟩
  go_wp2_with fail
  go_ret
  exact ⟨rfl, ext_trans B.out hb⟩
#print axioms walkCodeBytes
end Go.Proofs.YtibmkihehaedjaaDoor
