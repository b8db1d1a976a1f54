/-
  once: the document's Shown: contract.
-/
import Derived.Test.YtbhibfdlkahagaaODigs
import Derived.Test.YtbhibfdlkahagaaOShown
namespace Go.Proofs.Ytbhibfdlkahagaa
open Go.RowKit

set_option maxRecDepth 100000 in
set_option maxHeartbeats 4000000 in
theorem rshown_c (w : World) (A : Option Addr) (n c : Nat) (sg : List UInt8) (h : Hid (Rd w A n c sg)) (hn : n = 144) (k : Nat) (hk : k < 18) : Calls Try.prog 34 #[.slice A n c, .int .i64 k] w (Hands (digV (partN sg k)) w) := by
  have hle := h.out.le
  have hmax := h.out.max
  subst hn
  obtain ⟨x, hx⟩ : ∃ x, x = partN sg k := ⟨_, rfl⟩
  obtain ⟨b0, o0, rfl, hb0, hc0⟩ := h.out.cells (by omega)
  have HC : Hid (∀ i, i < 8 → w.cell? ⟨b0, o0 + (8 * k + i), none⟩ = some (.int .u8 (byt x i))) := fun i hi => by
    rw [hc0 (8 * k + i) (by omega), hx]
    unfold partN
    rw [byt_num8]
    simp [List.getD, hi, List.getElem?_drop, Nat.mul_comm]
  rw [← hx]
  clear hx hc0 h
  go_enter Try.func34, Try.ntmps34
  go_upto_region 2 with fail
  generalize hW : World.alloc (World.alloc w (.cells #[.int .u8 0, .int .u8 0, .int .u8 0, .int .u8 0, .int .u8 0, .int .u8 0, .int .u8 0, .int .u8 0] 30)) (.cells #[.int .u8 0, .int .u8 0, .int .u8 0, .int .u8 0, .int .u8 0, .int .u8 0, .int .u8 0, .int .u8 0] 30) = W
  have R : Hid (W.heap[w.heap.size]? = some (.cells #[.int .u8 0, .int .u8 0, .int .u8 0, .int .u8 0, .int .u8 0, .int .u8 0, .int .u8 0, .int .u8 0] 30 (0, 0))) := by rw [← hW]; exact keepA (Go.heap_alloc_new w _)
  have F : Hid (W.heap[w.heap.size + 1]? = some (.cells (fillB x 0) 30 (0, 0))) := by rw [← hW]; exact heap_alloc_newest (w := World.alloc _ _) (by simp)
  have B : Hid (Below w.heap.size w W) := by rw [← hW]; exact ext_trans (ext_alloc _ _) (ext_alloc _ _)
  clear hW
  go_wp2_with fail
  go_loopw [6] (fun iv wr => ∃ j : Nat, j ≤ 8 ∧ iv = .int .i64 j ∧ Hid (wr.heap[w.heap.size + 1]? = some (.cells (fillB x j) 30 (0, 0))) ∧ Hid (wr.heap[w.heap.size]? = some (.cells #[.int .u8 0, .int .u8 0, .int .u8 0, .int .u8 0, .int .u8 0, .int .u8 0, .int .u8 0, .int .u8 0] 30 (0, 0))) ∧ Hid (Below w.heap.size w wr)) (fun iv _ => 8 - (intOf iv).toNat)
  case atStart => exact ⟨0, by omega, rfl, F.out, R.out, B.out⟩
  case round =>
    clear F R B
    rename World => w4
    obtain ⟨j, hj, rfl, F, R, B⟩ := hrel
    by_cases hlt : j < 8
    · have hltI : (j : Int) < 8 := by omega
      have hjI : (0 : Int) ≤ (j : Int) := by omega
      have hkI : (0 : Int) ≤ (k : Int) := by omega
      have i0 : (0 : Int) ≤ 8 * (k : Int) + (j : Int) := by omega
      have i1 : 8 * (k : Int) + (j : Int) < 144 := by omega
      have c1 : w4.cell? ⟨b0, o0 + (8 * k + j), none⟩ = some (.int .u8 (byt x j)) := (B.out.cell (p := ⟨b0, o0 + (8 * k + j), none⟩) hb0).trans (HC.out j hlt)
      have c6 : w4.cell? ⟨w.heap.size + 1, j, none⟩ = some (.int .u8 0) := by rw [cell_of_row w4 _ _ _ _ _ F.out]; exact fillB_at x j hlt
      have f6 : w4.frozen? ⟨w.heap.size + 1, j, none⟩ = false := by simp only [World.frozen?, F.out]; simp
      have F2 : Hid ((w4.setCell ⟨w.heap.size + 1, j, none⟩ (.int .u8 (byt x j))).heap[w.heap.size + 1]? = some (.cells (fillB x (j + 1)) 30 (0, 0))) := by
        show _ = _
        rw [← fillB_on x j hlt]
        exact heap_set_same _ F.out
      have R2 : Hid ((w4.setCell ⟨w.heap.size + 1, j, none⟩ (.int .u8 (byt x j))).heap[w.heap.size]? = some (.cells #[.int .u8 0, .int .u8 0, .int .u8 0, .int .u8 0, .int .u8 0, .int .u8 0, .int .u8 0, .int .u8 0] 30 (0, 0))) := heap_set_other _ (by omega) R.out
      have B2 : Hid (Below w.heap.size w (w4.setCell ⟨w.heap.size + 1, j, none⟩ (.int .u8 (byt x j)))) := below_set B.out (Nat.le_refl _) (by omega)
      have cc : ¬ c = 8 * k + j := by omega
      go_wp2_with fail
      exact ⟨⟨j + 1, by omega, by go_num, F2.out, R2.out, B2.out⟩, by simp [intOf]; omega⟩
    · obtain rfl : j = 8 := by omega
      replace F : Hid (w4.heap[w.heap.size + 1]? = some (.cells #[.int .u8 (byt x 0), .int .u8 (byt x 1), .int .u8 (byt x 2), .int .u8 (byt x 3), .int .u8 (byt x 4), .int .u8 (byt x 5), .int .u8 (byt x 6), .int .u8 (byt x 7)] 30 (0, 0))) := F.out
      obtain ⟨x0, x1, x2, x3, x4, x5, x6, x7, _, _, _, _, _, _, _, _⟩ := full8 F.out
      obtain ⟨q0, q1, q2, q3, q4, q5, q6, q7, f0, f1, f2, f3, f4, f5, f6, f7⟩ := full8 R.out
      go_wp2_with fail
      obtain ⟨g0, g1, g2, g3, g4, g5, g6, g7⟩ := put8 R.out (.int .u8 (byt x 0)) (.int .u8 (byt x 1)) (.int .u8 (byt x 2)) (.int .u8 (byt x 3)) (.int .u8 (byt x 4)) (.int .u8 (byt x 5)) (.int .u8 (byt x 6)) (.int .u8 (byt x 7))
      refine bodyPost_ret (v := digV x) (by unfold digV; simp only [results, Try.results34]; simp [go_sem, g0, g1, g2, g3, g4, g5, g6, g7]) rfl ⟨rfl, bel8 B.out (Nat.le_refl _) (by omega) _ _ _ _ _ _ _ _⟩
#print axioms rshown_c
end Go.Proofs.Ytbhibfdlkahagaa
