/-
  veil: Commit, the check word: contracts, the document's too.
-/
import Derived.Test.YtdejlahgeckobaaVPure
import Derived.Test.YtdejlahgeckobaaHWord
import Derived.Test.YtdejlahgeckobaaHChain
namespace Go.Proofs.Ytdejlahgeckobaa
open Go.RowKit

set_option maxRecDepth 100000 in
set_option maxHeartbeats 1000000 in
theorem commit_s (w : World) (d : Nat) (hd : d < 18446744073709551616) (A : Option Addr) (n c : Nat) (bs : List UInt8) (h : Hid (Rd w A n c bs)) (hn : n ≤ 65536) :
    Calls Try.prog 36 #[digV d, .slice A n c] w (Hands (digV (commitN d bs)) w) := by
  have hle := h.out.le
  have hmax := h.out.max
  have HL := Lib.hid h.out.len
  have HC : Hid (commitN d bs = saltN d bs) := by show _ = _; unfold commitN; rw [if_pos (by rw [HL.out]; omega)]
  rw [HC.out]
  have gI : ¬ (65536 : Int) < (n : Int) := by omega
  obtain ⟨x1, hx1⟩ : ∃ x, x = wordN d [115, 97, 108, 116] := ⟨_, rfl⟩
  obtain ⟨x2, hx2⟩ : ∃ x, x = ofN bs := ⟨_, rfl⟩
  obtain ⟨x, hx⟩ : ∃ x, x = twoN x1 x2 := ⟨_, rfl⟩
  have L1 : x1 < 18446744073709551616 := by rw [hx1]; exact wordN_lt hd (by decide)
  have L2 : x2 < 18446744073709551616 := by rw [hx2]; exact ofN_lt (by rw [HL.out]; omega)
  have HX1 : Hid (wordN d (⟨#[115, 97, 108, 116]⟩ : ByteArray).data.toList = x1) := hx1.symm
  have HX2 : Hid (ofN bs = x2) := hx2.symm
  have HX3 : Hid (twoN x1 x2 = x) := hx.symm
  have HX : saltN d bs = x := by rw [hx, hx1, hx2]; rfl
  rw [HX]
  clear hx1 hx2 hx HX
  unfold digV
  go_enter Try.func36, Try.ntmps36
  go_upto_region 1 with fail
  generalize hW : World.alloc (World.alloc w (.cells #[.int .u8 (byt d 0), .int .u8 (byt d 1), .int .u8 (byt d 2), .int .u8 (byt d 3), .int .u8 (byt d 4), .int .u8 (byt d 5), .int .u8 (byt d 6), .int .u8 (byt d 7)] 31)) (.cells #[.int .u8 0, .int .u8 0, .int .u8 0, .int .u8 0, .int .u8 0, .int .u8 0, .int .u8 0, .int .u8 0] 31) = W
  have D : Hid (W.heap[w.heap.size]? = some (.cells #[.int .u8 (byt d 0), .int .u8 (byt d 1), .int .u8 (byt d 2), .int .u8 (byt d 3), .int .u8 (byt d 4), .int .u8 (byt d 5), .int .u8 (byt d 6), .int .u8 (byt d 7)] 31 (0, 0))) := by rw [← hW]; exact keepA (Go.heap_alloc_new w _)
  have R : Hid (W.heap[w.heap.size + 1]? = some (.cells #[.int .u8 0, .int .u8 0, .int .u8 0, .int .u8 0, .int .u8 0, .int .u8 0, .int .u8 0, .int .u8 0] 31 (0, 0))) := by rw [← hW]; exact heap_alloc_newest (w := World.alloc _ _) (by simp)
  have B : Hid (Below w.heap.size w W) := by rw [← hW]; exact ext_trans (ext_alloc _ _) (ext_alloc _ _)
  clear hW
  obtain ⟨d0, d1, d2, d3, d4, d5, d6, d7, _, _, _, _, _, _, _, _⟩ := full8 D.out
  go_wp2_with fail
  refine (word_c _ d hd (⟨#[115, 97, 108, 116]⟩ : ByteArray) (by decide)).mono ?_
  rw [HX1.out]
  unfold digV
  rintro e w1 ⟨rfl, hb⟩
  replace R := Lib.hid (keepB hb R.out)
  replace B := Lib.hid (ext_trans B.out hb)
  clear hb d0 d1 d2 d3 d4 d5 d6 d7 D
  go_wp2_with fail
  refine (of_c _ _ _ _ _ (Lib.hid (h.out.ext B.out)) (by omega)).mono ?_
  rw [HX2.out]
  unfold digV
  rintro e w2 ⟨rfl, hb⟩
  replace R := Lib.hid (keepB hb R.out)
  replace B := Lib.hid (ext_trans B.out hb)
  clear hb
  go_wp2_with fail
  refine (two_c _ x1 x2 L1 L2).mono ?_
  rw [HX3.out]
  unfold digV
  rintro e w3 ⟨rfl, hb⟩
  replace R := Lib.hid (keepB hb R.out)
  replace B := Lib.hid (ext_trans B.out hb)
  obtain ⟨q0, q1, q2, q3, q4, q5, q6, q7, f0, f1, f2, f3, f4, f5, f6, f7⟩ := full8 R.out
  clear hb
  go_wp2_with fail
  obtain ⟨g0, g1, g2, g3, g4, g5, g6, g7⟩ := put8 R.out (.int .u8 (byt x 0)) (.int .u8 (byt x 1)) (.int .u8 (byt x 2)) (.int .u8 (byt x 3)) (.int .u8 (byt x 4)) (.int .u8 (byt x 5)) (.int .u8 (byt x 6)) (.int .u8 (byt x 7))
  refine bodyPost_ret (v := digV x) (by unfold digV; simp only [results, Try.results36]; simp [go_sem, g0, g1, g2, g3, g4, g5, g6, g7]) rfl ⟨by unfold digV; rfl, bel8 B.out (Nat.le_refl _) (by omega) _ _ _ _ _ _ _ _⟩
#print axioms commit_s

set_option maxRecDepth 100000 in
set_option maxHeartbeats 1000000 in
theorem rcommit_s (w : World) (d : Nat) (hd : d < 18446744073709551616) (A : Option Addr) (n c : Nat) (bs : List UInt8) (h : Hid (Rd w A n c bs)) (hn : n ≤ 65536) :
    Calls Try.prog 34 #[digV d, .slice A n c] w (Hands (digV (commitN d bs)) w) := by
  have hle := h.out.le
  have hmax := h.out.max
  have HL := Lib.hid h.out.len
  have HC : Hid (commitN d bs = saltN d bs) := by show _ = _; unfold commitN; rw [if_pos (by rw [HL.out]; omega)]
  rw [HC.out]
  have gI : ¬ (65536 : Int) < (n : Int) := by omega
  obtain ⟨x1, hx1⟩ : ∃ x, x = wordN d [115, 97, 108, 116] := ⟨_, rfl⟩
  obtain ⟨x2, hx2⟩ : ∃ x, x = ofN bs := ⟨_, rfl⟩
  obtain ⟨x, hx⟩ : ∃ x, x = twoN x1 x2 := ⟨_, rfl⟩
  have L1 : x1 < 18446744073709551616 := by rw [hx1]; exact wordN_lt hd (by decide)
  have L2 : x2 < 18446744073709551616 := by rw [hx2]; exact ofN_lt (by rw [HL.out]; omega)
  have HX1 : Hid (wordN d (⟨#[115, 97, 108, 116]⟩ : ByteArray).data.toList = x1) := hx1.symm
  have HX2 : Hid (ofN bs = x2) := hx2.symm
  have HX3 : Hid (twoN x1 x2 = x) := hx.symm
  have HX : saltN d bs = x := by rw [hx, hx1, hx2]; rfl
  rw [HX]
  clear hx1 hx2 hx HX
  unfold digV
  go_enter Try.func34, Try.ntmps34
  go_upto_region 1 with fail
  generalize hW : World.alloc (World.alloc w (.cells #[.int .u8 (byt d 0), .int .u8 (byt d 1), .int .u8 (byt d 2), .int .u8 (byt d 3), .int .u8 (byt d 4), .int .u8 (byt d 5), .int .u8 (byt d 6), .int .u8 (byt d 7)] 30)) (.cells #[.int .u8 0, .int .u8 0, .int .u8 0, .int .u8 0, .int .u8 0, .int .u8 0, .int .u8 0, .int .u8 0] 30) = W
  have D : Hid (W.heap[w.heap.size]? = some (.cells #[.int .u8 (byt d 0), .int .u8 (byt d 1), .int .u8 (byt d 2), .int .u8 (byt d 3), .int .u8 (byt d 4), .int .u8 (byt d 5), .int .u8 (byt d 6), .int .u8 (byt d 7)] 30 (0, 0))) := by rw [← hW]; exact keepA (Go.heap_alloc_new w _)
  have R : Hid (W.heap[w.heap.size + 1]? = some (.cells #[.int .u8 0, .int .u8 0, .int .u8 0, .int .u8 0, .int .u8 0, .int .u8 0, .int .u8 0, .int .u8 0] 30 (0, 0))) := by rw [← hW]; exact heap_alloc_newest (w := World.alloc _ _) (by simp)
  have B : Hid (Below w.heap.size w W) := by rw [← hW]; exact ext_trans (ext_alloc _ _) (ext_alloc _ _)
  clear hW
  obtain ⟨d0, d1, d2, d3, d4, d5, d6, d7, _, _, _, _, _, _, _, _⟩ := full8 D.out
  go_wp2_with fail
  refine (rword_c _ d hd (⟨#[115, 97, 108, 116]⟩ : ByteArray) (by decide)).mono ?_
  rw [HX1.out]
  unfold digV
  rintro e w1 ⟨rfl, hb⟩
  replace R := Lib.hid (keepB hb R.out)
  replace B := Lib.hid (ext_trans B.out hb)
  clear hb d0 d1 d2 d3 d4 d5 d6 d7 D
  go_wp2_with fail
  refine (rof_c _ _ _ _ _ (Lib.hid (h.out.ext B.out)) (by omega)).mono ?_
  rw [HX2.out]
  unfold digV
  rintro e w2 ⟨rfl, hb⟩
  replace R := Lib.hid (keepB hb R.out)
  replace B := Lib.hid (ext_trans B.out hb)
  clear hb
  go_wp2_with fail
  refine (rtwo_c _ x1 x2 L1 L2).mono ?_
  rw [HX3.out]
  unfold digV
  rintro e w3 ⟨rfl, hb⟩
  replace R := Lib.hid (keepB hb R.out)
  replace B := Lib.hid (ext_trans B.out hb)
  obtain ⟨q0, q1, q2, q3, q4, q5, q6, q7, f0, f1, f2, f3, f4, f5, f6, f7⟩ := full8 R.out
  clear hb
  go_wp2_with fail
  obtain ⟨g0, g1, g2, g3, g4, g5, g6, g7⟩ := put8 R.out (.int .u8 (byt x 0)) (.int .u8 (byt x 1)) (.int .u8 (byt x 2)) (.int .u8 (byt x 3)) (.int .u8 (byt x 4)) (.int .u8 (byt x 5)) (.int .u8 (byt x 6)) (.int .u8 (byt x 7))
  refine bodyPost_ret (v := digV x) (by unfold digV; simp only [results, Try.results34]; simp [go_sem, g0, g1, g2, g3, g4, g5, g6, g7]) rfl ⟨by unfold digV; rfl, bel8 B.out (Nat.le_refl _) (by omega) _ _ _ _ _ _ _ _⟩
#print axioms rcommit_s

set_option maxRecDepth 100000 in
set_option maxHeartbeats 1000000 in
theorem check_c (w : World) (d : Nat) (hd : d < 18446744073709551616) (A : Option Addr) (n c : Nat) (bs : List UInt8) (h : Hid (Rd w A n c bs)) (hn : n ≤ 65536) :
    Calls Try.prog 74 #[digV d, .slice A n c] w (Hands (digV (chkN d bs)) w) := by
  have hle := h.out.le
  have hmax := h.out.max
  have HL := Lib.hid h.out.len
  obtain ⟨x1, hx1⟩ : ∃ x, x = wordN d [99, 104, 101, 99, 107] := ⟨_, rfl⟩
  obtain ⟨x2, hx2⟩ : ∃ x, x = ofN bs := ⟨_, rfl⟩
  obtain ⟨x, hx⟩ : ∃ x, x = twoN x1 x2 := ⟨_, rfl⟩
  have L1 : x1 < 18446744073709551616 := by rw [hx1]; exact wordN_lt hd (by decide)
  have L2 : x2 < 18446744073709551616 := by rw [hx2]; exact ofN_lt (by rw [HL.out]; omega)
  have HX1 : Hid (wordN d (⟨#[99, 104, 101, 99, 107]⟩ : ByteArray).data.toList = x1) := hx1.symm
  have HX2 : Hid (ofN bs = x2) := hx2.symm
  have HX3 : Hid (twoN x1 x2 = x) := hx.symm
  have HX : chkN d bs = x := by rw [hx, hx1, hx2]; rfl
  rw [HX]
  clear hx1 hx2 hx HX
  unfold digV
  go_enter Try.func74, Try.ntmps74
  go_upto_region 1 with fail
  generalize hW : World.alloc (World.alloc w (.cells #[.int .u8 (byt d 0), .int .u8 (byt d 1), .int .u8 (byt d 2), .int .u8 (byt d 3), .int .u8 (byt d 4), .int .u8 (byt d 5), .int .u8 (byt d 6), .int .u8 (byt d 7)] 31)) (.cells #[.int .u8 0, .int .u8 0, .int .u8 0, .int .u8 0, .int .u8 0, .int .u8 0, .int .u8 0, .int .u8 0] 31) = W
  have D : Hid (W.heap[w.heap.size]? = some (.cells #[.int .u8 (byt d 0), .int .u8 (byt d 1), .int .u8 (byt d 2), .int .u8 (byt d 3), .int .u8 (byt d 4), .int .u8 (byt d 5), .int .u8 (byt d 6), .int .u8 (byt d 7)] 31 (0, 0))) := by rw [← hW]; exact keepA (Go.heap_alloc_new w _)
  have R : Hid (W.heap[w.heap.size + 1]? = some (.cells #[.int .u8 0, .int .u8 0, .int .u8 0, .int .u8 0, .int .u8 0, .int .u8 0, .int .u8 0, .int .u8 0] 31 (0, 0))) := by rw [← hW]; exact heap_alloc_newest (w := World.alloc _ _) (by simp)
  have B : Hid (Below w.heap.size w W) := by rw [← hW]; exact ext_trans (ext_alloc _ _) (ext_alloc _ _)
  clear hW
  obtain ⟨d0, d1, d2, d3, d4, d5, d6, d7, _, _, _, _, _, _, _, _⟩ := full8 D.out
  go_wp2_with fail
  refine (word_c _ d hd (⟨#[99, 104, 101, 99, 107]⟩ : ByteArray) (by decide)).mono ?_
  rw [HX1.out]
  unfold digV
  rintro e w1 ⟨rfl, hb⟩
  replace R := Lib.hid (keepB hb R.out)
  replace B := Lib.hid (ext_trans B.out hb)
  clear hb d0 d1 d2 d3 d4 d5 d6 d7 D
  go_wp2_with fail
  refine (of_c _ _ _ _ _ (Lib.hid (h.out.ext B.out)) (by omega)).mono ?_
  rw [HX2.out]
  unfold digV
  rintro e w2 ⟨rfl, hb⟩
  replace R := Lib.hid (keepB hb R.out)
  replace B := Lib.hid (ext_trans B.out hb)
  clear hb
  go_wp2_with fail
  refine (two_c _ x1 x2 L1 L2).mono ?_
  rw [HX3.out]
  unfold digV
  rintro e w3 ⟨rfl, hb⟩
  replace R := Lib.hid (keepB hb R.out)
  replace B := Lib.hid (ext_trans B.out hb)
  obtain ⟨q0, q1, q2, q3, q4, q5, q6, q7, f0, f1, f2, f3, f4, f5, f6, f7⟩ := full8 R.out
  clear hb
  go_wp2_with fail
  obtain ⟨g0, g1, g2, g3, g4, g5, g6, g7⟩ := put8 R.out (.int .u8 (byt x 0)) (.int .u8 (byt x 1)) (.int .u8 (byt x 2)) (.int .u8 (byt x 3)) (.int .u8 (byt x 4)) (.int .u8 (byt x 5)) (.int .u8 (byt x 6)) (.int .u8 (byt x 7))
  refine bodyPost_ret (v := digV x) (by unfold digV; simp only [results, Try.results74]; simp [go_sem, g0, g1, g2, g3, g4, g5, g6, g7]) rfl ⟨by unfold digV; rfl, bel8 B.out (Nat.le_refl _) (by omega) _ _ _ _ _ _ _ _⟩
#print axioms check_c

set_option maxRecDepth 100000 in
set_option maxHeartbeats 1000000 in
theorem rcheck_c (w : World) (d : Nat) (hd : d < 18446744073709551616) (A : Option Addr) (n c : Nat) (bs : List UInt8) (h : Hid (Rd w A n c bs)) (hn : n ≤ 65536) :
    Calls Try.prog 76 #[digV d, .slice A n c] w (Hands (digV (chkN d bs)) w) := by
  have hle := h.out.le
  have hmax := h.out.max
  have HL := Lib.hid h.out.len
  obtain ⟨x1, hx1⟩ : ∃ x, x = wordN d [99, 104, 101, 99, 107] := ⟨_, rfl⟩
  obtain ⟨x2, hx2⟩ : ∃ x, x = ofN bs := ⟨_, rfl⟩
  obtain ⟨x, hx⟩ : ∃ x, x = twoN x1 x2 := ⟨_, rfl⟩
  have L1 : x1 < 18446744073709551616 := by rw [hx1]; exact wordN_lt hd (by decide)
  have L2 : x2 < 18446744073709551616 := by rw [hx2]; exact ofN_lt (by rw [HL.out]; omega)
  have HX1 : Hid (wordN d (⟨#[99, 104, 101, 99, 107]⟩ : ByteArray).data.toList = x1) := hx1.symm
  have HX2 : Hid (ofN bs = x2) := hx2.symm
  have HX3 : Hid (twoN x1 x2 = x) := hx.symm
  have HX : chkN d bs = x := by rw [hx, hx1, hx2]; rfl
  rw [HX]
  clear hx1 hx2 hx HX
  unfold digV
  go_enter Try.func76, Try.ntmps76
  go_upto_region 1 with fail
  generalize hW : World.alloc (World.alloc w (.cells #[.int .u8 (byt d 0), .int .u8 (byt d 1), .int .u8 (byt d 2), .int .u8 (byt d 3), .int .u8 (byt d 4), .int .u8 (byt d 5), .int .u8 (byt d 6), .int .u8 (byt d 7)] 30)) (.cells #[.int .u8 0, .int .u8 0, .int .u8 0, .int .u8 0, .int .u8 0, .int .u8 0, .int .u8 0, .int .u8 0] 30) = W
  have D : Hid (W.heap[w.heap.size]? = some (.cells #[.int .u8 (byt d 0), .int .u8 (byt d 1), .int .u8 (byt d 2), .int .u8 (byt d 3), .int .u8 (byt d 4), .int .u8 (byt d 5), .int .u8 (byt d 6), .int .u8 (byt d 7)] 30 (0, 0))) := by rw [← hW]; exact keepA (Go.heap_alloc_new w _)
  have R : Hid (W.heap[w.heap.size + 1]? = some (.cells #[.int .u8 0, .int .u8 0, .int .u8 0, .int .u8 0, .int .u8 0, .int .u8 0, .int .u8 0, .int .u8 0] 30 (0, 0))) := by rw [← hW]; exact heap_alloc_newest (w := World.alloc _ _) (by simp)
  have B : Hid (Below w.heap.size w W) := by rw [← hW]; exact ext_trans (ext_alloc _ _) (ext_alloc _ _)
  clear hW
  obtain ⟨d0, d1, d2, d3, d4, d5, d6, d7, _, _, _, _, _, _, _, _⟩ := full8 D.out
  go_wp2_with fail
  refine (rword_c _ d hd (⟨#[99, 104, 101, 99, 107]⟩ : ByteArray) (by decide)).mono ?_
  rw [HX1.out]
  unfold digV
  rintro e w1 ⟨rfl, hb⟩
  replace R := Lib.hid (keepB hb R.out)
  replace B := Lib.hid (ext_trans B.out hb)
  clear hb d0 d1 d2 d3 d4 d5 d6 d7 D
  go_wp2_with fail
  refine (rof_c _ _ _ _ _ (Lib.hid (h.out.ext B.out)) (by omega)).mono ?_
  rw [HX2.out]
  unfold digV
  rintro e w2 ⟨rfl, hb⟩
  replace R := Lib.hid (keepB hb R.out)
  replace B := Lib.hid (ext_trans B.out hb)
  clear hb
  go_wp2_with fail
  refine (rtwo_c _ x1 x2 L1 L2).mono ?_
  rw [HX3.out]
  unfold digV
  rintro e w3 ⟨rfl, hb⟩
  replace R := Lib.hid (keepB hb R.out)
  replace B := Lib.hid (ext_trans B.out hb)
  obtain ⟨q0, q1, q2, q3, q4, q5, q6, q7, f0, f1, f2, f3, f4, f5, f6, f7⟩ := full8 R.out
  clear hb
  go_wp2_with fail
  obtain ⟨g0, g1, g2, g3, g4, g5, g6, g7⟩ := put8 R.out (.int .u8 (byt x 0)) (.int .u8 (byt x 1)) (.int .u8 (byt x 2)) (.int .u8 (byt x 3)) (.int .u8 (byt x 4)) (.int .u8 (byt x 5)) (.int .u8 (byt x 6)) (.int .u8 (byt x 7))
  refine bodyPost_ret (v := digV x) (by unfold digV; simp only [results, Try.results76]; simp [go_sem, g0, g1, g2, g3, g4, g5, g6, g7]) rfl ⟨by unfold digV; rfl, bel8 B.out (Nat.le_refl _) (by omega) _ _ _ _ _ _ _ _⟩
#print axioms rcheck_c
end Go.Proofs.Ytdejlahgeckobaa
