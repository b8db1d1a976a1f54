/-
  veil: few, Opens, veiled; the document's turn: contracts.
-/
import Derived.Test.YtdejlahgeckobaaVCom
import Derived.Test.YtdejlahgeckobaaHKnown
import Derived.Test.YtdejlahgeckobaaHRow
import Derived.Test.YtdejlahgeckobaaHStrmR
import Derived.Test.YtdejlahgeckobaaHSam
namespace Go.Proofs.Ytdejlahgeckobaa
open Go.RowKit

set_option maxRecDepth 100000 in
theorem few_c (w : World) (A : Option Addr) (n c : Nat) (bs : List UInt8) (h : Hid (Rd w A n c bs)) :
    Calls Try.prog 33 #[.slice A n c] w (fun e w' => e = .returned (.slice A (min n 300) c) ∧ w = w') := by
  have hle := h.out.le
  have hmax := h.out.max
  by_cases hn : 300 < n
  · have e : min n 300 = 300 := by omega
    have i1 : (300 : Int) < (n : Int) := by omega
    have i2 : (300 : Int) ≤ (c : Int) := by omega
    rw [e]
    clear hn e
    go_enter Try.func33, Try.ntmps33
    go_wp2_with fail
    go_ret
    exact ⟨rfl, rfl⟩
  · have e : min n 300 = n := by omega
    have i1 : ¬ (300 : Int) < (n : Int) := by omega
    rw [e]
    clear hn e
    go_enter Try.func33, Try.ntmps33
    go_wp2_with fail
    go_ret
    exact ⟨rfl, rfl⟩
#print axioms few_c

theorem digV0 : digV 0 = .agg #[.int .u8 0, .int .u8 0, .int .u8 0, .int .u8 0, .int .u8 0, .int .u8 0, .int .u8 0, .int .u8 0] := by unfold digV byt; rfl
set_option maxRecDepth 100000 in
set_option maxHeartbeats 1000000 in
theorem commit_c (w : World) (d : Nat) (hd : d < 18446744073709551616) (A : Option Addr) (n c : Nat) (bs : List UInt8) (h : Hid (Rd w A n c bs)) (hn : n ≤ 1000000) :
    Calls Try.prog 36 #[digV d, .slice A n c] w (Hands (digV (commitN d bs)) w) := by
  by_cases hl : n ≤ 65536
  · exact commit_s w d hd A n c bs h hl
  have hc : commitN d bs = 0 := by unfold commitN; rw [if_neg (by rw [h.out.len]; exact hl)]
  rw [hc]
  have gI : (65536 : Int) < (n : Int) := by omega
  have hle := h.out.le
  have hmax := h.out.max
  clear hl hc h
  unfold digV
  go_enter Try.func36, Try.ntmps36
  go_upto_region 1 with fail
  generalize hW : World.alloc (World.alloc w (.cells #[.int .u8 (byt d 0), .int .u8 (byt d 1), .int .u8 (byt d 2), .int .u8 (byt d 3), .int .u8 (byt d 4), .int .u8 (byt d 5), .int .u8 (byt d 6), .int .u8 (byt d 7)] 31)) (.cells #[.int .u8 0, .int .u8 0, .int .u8 0, .int .u8 0, .int .u8 0, .int .u8 0, .int .u8 0, .int .u8 0] 31) = W
  have R : Hid (W.heap[w.heap.size + 1]? = some (.cells #[.int .u8 0, .int .u8 0, .int .u8 0, .int .u8 0, .int .u8 0, .int .u8 0, .int .u8 0, .int .u8 0] 31 (0, 0))) := by rw [← hW]; exact heap_alloc_newest (w := World.alloc _ _) (by simp)
  have B : Hid (Below w.heap.size w W) := by rw [← hW]; exact ext_trans (ext_alloc _ _) (ext_alloc _ _)
  clear hW
  obtain ⟨q0, q1, q2, q3, q4, q5, q6, q7, f0, f1, f2, f3, f4, f5, f6, f7⟩ := full8 R.out
  go_wp2_with fail
  obtain ⟨g0, g1, g2, g3, g4, g5, g6, g7⟩ := put8 R.out (.int .u8 0) (.int .u8 0) (.int .u8 0) (.int .u8 0) (.int .u8 0) (.int .u8 0) (.int .u8 0) (.int .u8 0)
  refine bodyPost_ret (v := digV 0) (by rw [digV0]; simp only [results, Try.results36]; simp [go_sem, g0, g1, g2, g3, g4, g5, g6, g7]) rfl ⟨by unfold digV; rfl, bel8 B.out (Nat.le_refl _) (by omega) _ _ _ _ _ _ _ _⟩
#print axioms commit_c

set_option maxRecDepth 100000 in
set_option maxHeartbeats 1000000 in
theorem opens_c (w : World) (x d : Nat) (hx : x < 18446744073709551616) (hd : d < 18446744073709551616) (A : Option Addr) (n c : Nat) (bs : List UInt8) (h : Hid (Rd w A n c bs)) (hn : n ≤ 1000000) :
    Calls Try.prog 37 #[digV x, digV d, .slice A n c] w (Hands (.bool (decide (n ≤ 65536) && decide (x = commitN d bs))) w) := by
  have hle := h.out.le
  have hmax := h.out.max
  obtain ⟨y, hy⟩ : ∃ y, y = commitN d bs := ⟨_, rfl⟩
  have Ly : y < 18446744073709551616 := by rw [hy]; exact commitN_lt hd
  have HY : Hid (commitN d bs = y) := hy.symm
  rw [← hy]
  clear hy
  have E := eql_d hx Ly
  have G := guard_d .eql x y
  obtain ⟨q, hq⟩ : ∃ q, q = decide (x = y) := ⟨_, rfl⟩
  rw [← hq] at E
  rw [← hq]
  clear hq
  unfold digV at E G
  by_cases hl : n ≤ 65536
  · rw [decide_eq_true hl, Bool.true_and]
    have gI : (n : Int) ≤ (65536 : Int) := by omega
    have gB : decide ((n : Int) ≤ (65536 : Int)) = true := by simp; omega
    clear hl
    unfold digV
    go_enter Try.func37, Try.ntmps37
    go_wp2_with fail
    generalize hW : World.alloc (World.alloc w (.cells #[.int .u8 (byt x 0), .int .u8 (byt x 1), .int .u8 (byt x 2), .int .u8 (byt x 3), .int .u8 (byt x 4), .int .u8 (byt x 5), .int .u8 (byt x 6), .int .u8 (byt x 7)] 31)) (.cells #[.int .u8 (byt d 0), .int .u8 (byt d 1), .int .u8 (byt d 2), .int .u8 (byt d 3), .int .u8 (byt d 4), .int .u8 (byt d 5), .int .u8 (byt d 6), .int .u8 (byt d 7)] 31) = W
    have DX : Hid (W.heap[w.heap.size]? = some (.cells #[.int .u8 (byt x 0), .int .u8 (byt x 1), .int .u8 (byt x 2), .int .u8 (byt x 3), .int .u8 (byt x 4), .int .u8 (byt x 5), .int .u8 (byt x 6), .int .u8 (byt x 7)] 31 (0, 0))) := by rw [← hW]; exact keepA (Go.heap_alloc_new w _)
    have D : Hid (W.heap[w.heap.size + 1]? = some (.cells #[.int .u8 (byt d 0), .int .u8 (byt d 1), .int .u8 (byt d 2), .int .u8 (byt d 3), .int .u8 (byt d 4), .int .u8 (byt d 5), .int .u8 (byt d 6), .int .u8 (byt d 7)] 31 (0, 0))) := by rw [← hW]; exact heap_alloc_newest (w := World.alloc _ _) (by simp)
    have B : Hid (Below w.heap.size w W) := by rw [← hW]; exact ext_trans (ext_alloc _ _) (ext_alloc _ _)
    clear hW
    refine wp_region_schedC (fun v => Below W.heap.size W v) [(true, 0), (true, 1), (true, 2), (true, 3), (true, 4), (true, 5), (true, 6), (false, 7), (true, 8), (true, 9), (true, 10)] (by kernel_rfl) rfl (by kernel_rfl) (by kernel_rfl) (fun _ _ d _ _ h => by cases d <;> exact h) (ext_drew W) ?_
    intro J0 hJ0
    iterate 2 (refine schedC_pure (v := ?_) rfl (by rfl) ?_ ?_; rotate_left; (focus (intro v hC; go_simp; try with_reducible rfl)); try go_simp)
    refine schedC_pure (v := .bool true) rfl (by rfl) ?_ ?_
    · intro v hC; go_simp
    try go_simp
    iterate 4 (refine schedC_pure (v := ?_) rfl (by rfl) ?_ ?_; rotate_left; (focus (intro v hC; obtain ⟨d0, d1, d2, d3, d4, d5, d6, d7, _, _, _, _, _, _, _, _⟩ := full8 (keepB hC D.out); obtain ⟨x0, x1, x2, x3, x4, x5, x6, x7, _, _, _, _, _, _, _, _⟩ := full8 (keepB hC DX.out); go_simp; try with_reducible rfl)); try go_simp)
    refine schedC_eff rfl ?_
    intro J hJ
    go_wp2_with fail
    refine (commit_c _ d hd _ _ _ _ (Lib.hid (h.out.ext (ext_trans B.out (ext_drew W)))) hn).mono ?_
    rw [HY.out]
    unfold digV
    rintro e w1 ⟨rfl, hb⟩
    have CC : Hid (Below W.heap.size W w1) := Lib.hid (ext_trans (ext_drew W) hb)
    clear hb
    go_wp2_with fail
    refine ⟨CC.out, ?_⟩
    iterate 3 (refine schedC_pure (v := ?_) rfl (by rfl) ?_ ?_; rotate_left; (focus (intro v hC; go_simp; try with_reducible rfl)); try go_simp)
    refine schedC_nil (hJ0 _ _ ?_)
    clear hJ0
    go_wp2_with fail
    go_ret
    exact ⟨rfl, ext_trans B.out CC.out⟩
  · rw [decide_eq_false hl, Bool.false_and]
    have gI : ¬ (n : Int) ≤ (65536 : Int) := by omega
    have gB : decide ((n : Int) ≤ (65536 : Int)) = false := by simp; omega
    clear hl
    unfold digV
    go_enter Try.func37, Try.ntmps37
    go_wp2_with fail
    generalize hW : World.alloc (World.alloc w (.cells #[.int .u8 (byt x 0), .int .u8 (byt x 1), .int .u8 (byt x 2), .int .u8 (byt x 3), .int .u8 (byt x 4), .int .u8 (byt x 5), .int .u8 (byt x 6), .int .u8 (byt x 7)] 31)) (.cells #[.int .u8 (byt d 0), .int .u8 (byt d 1), .int .u8 (byt d 2), .int .u8 (byt d 3), .int .u8 (byt d 4), .int .u8 (byt d 5), .int .u8 (byt d 6), .int .u8 (byt d 7)] 31) = W
    have B : Hid (Below w.heap.size w W) := by rw [← hW]; exact ext_trans (ext_alloc _ _) (ext_alloc _ _)
    clear hW
    refine wp_region_schedC (fun v => Below W.heap.size W v) [(true, 0), (true, 1), (true, 2), (true, 3), (true, 4), (true, 5), (true, 6), (true, 7), (true, 8), (true, 9), (true, 10)] (by kernel_rfl) rfl (by kernel_rfl) (by kernel_rfl) (fun _ _ d _ _ h => by cases d <;> exact h) (ext_drew W) ?_
    intro J0 hJ0
    iterate 2 (refine schedC_pure (v := ?_) rfl (by rfl) ?_ ?_; rotate_left; (focus (intro v hC; go_simp; try with_reducible rfl)); try go_simp)
    refine schedC_pure (v := .bool false) rfl (by rfl) ?_ ?_
    · intro v hC; go_simp
    try go_simp
    iterate 1 (refine schedC_pure (v := ?_) rfl (by rfl) ?_ ?_; rotate_left; (focus (intro v hC; go_simp; try with_reducible rfl)); try go_simp)
    iterate 5 (refine schedC_none rfl (by rfl) ?_; try go_simp)
    iterate 2 (refine schedC_pure (v := ?_) rfl (by rfl) ?_ ?_; rotate_left; (focus (intro v hC; go_simp; try with_reducible rfl)); try go_simp)
    refine schedC_nil (hJ0 _ _ ?_)
    clear hJ0
    go_wp2_with fail
    go_ret
    exact ⟨rfl, ext_trans B.out (ext_drew W)⟩
#print axioms opens_c
end Go.Proofs.Ytdejlahgeckobaa
