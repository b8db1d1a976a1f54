/-
  once: begin, part: contracts.
-/
import Derived.Test.YtbhibfdlkahagaaOReach
import Derived.Test.YtbhibfdlkahagaaHStrm
import Derived.Test.YtbhibfdlkahagaaSchedF
namespace Go.Proofs.Ytbhibfdlkahagaa
open Go.RowKit

set_option maxRecDepth 100000 in
set_option maxHeartbeats 1000000 in
theorem begin1_c (w : World) (s k : Nat) (hs : s < 18446744073709551616) (hk : k < 18) : Calls Try.prog 59 #[digV s, .int .i64 k] w (Hands (digV (begN s k)) w) := by
  have Lk : k < 18446744073709551616 := by omega
  obtain ⟨x, hx⟩ : ∃ x, x = begN s k := ⟨_, rfl⟩
  have HX : Hid (twoN s k = x) := hx.symm
  rw [← hx]
  clear hx
  unfold digV
  go_enter Try.func59, Try.ntmps59
  go_wp2_with fail
  generalize hW : World.alloc (World.alloc w (.cells #[.int .u8 (byt s 0), .int .u8 (byt s 1), .int .u8 (byt s 2), .int .u8 (byt s 3), .int .u8 (byt s 4), .int .u8 (byt s 5), .int .u8 (byt s 6), .int .u8 (byt s 7)] 31)) (.cells #[.int .u8 0, .int .u8 0, .int .u8 0, .int .u8 0, .int .u8 0, .int .u8 0, .int .u8 0, .int .u8 0] 31) = W
  have D : Hid (W.heap[w.heap.size]? = some (.cells #[.int .u8 (byt s 0), .int .u8 (byt s 1), .int .u8 (byt s 2), .int .u8 (byt s 3), .int .u8 (byt s 4), .int .u8 (byt s 5), .int .u8 (byt s 6), .int .u8 (byt s 7)] 31 (0, 0))) := by rw [← hW]; exact keepA (Go.heap_alloc_new w _)
  have R : Hid (W.heap[w.heap.size + 1]? = some (.cells #[.int .u8 0, .int .u8 0, .int .u8 0, .int .u8 0, .int .u8 0, .int .u8 0, .int .u8 0, .int .u8 0] 31 (0, 0))) := by rw [← hW]; exact heap_alloc_newest (w := World.alloc _ _) (by simp)
  have B : Hid (Below w.heap.size w W) := by rw [← hW]; exact ext_trans (ext_alloc _ _) (ext_alloc _ _)
  clear hW
  refine wp_region_schedF (fin := 5) (fun v => Below W.heap.size W v) [(true, 0), (true, 1), (true, 2), (false, 3), (false, 4), (false, 5)] (by kernel_rfl) rfl (by kernel_rfl) (by kernel_rfl) (by kernel_rfl) (fun _ _ d _ _ h => by cases d <;> exact h) (ext_drew W) ?_
  intro J0 hJ0
  iterate 3 (refine schedF_pure (v := ?_) rfl (by rfl) ?_ ?_; rotate_left; (focus (intro v hC; obtain ⟨d0, d1, d2, d3, d4, d5, d6, d7, _, _, _, _, _, _, _, _⟩ := full8 (keepB hC D.out); go_simp; try with_reducible rfl)); try go_simp)
  refine schedF_eff rfl ?_
  intro J hJ
  go_wp2_with fail
  refine (fromNum_c _ k Lk).mono ?_
  try unfold digV
  rintro e w1 ⟨rfl, hb⟩
  have CC : Hid (Below W.heap.size W w1) := Lib.hid (ext_trans (ext_drew W) hb)
  clear hb
  go_wp2_with fail
  refine ⟨fun _ => CC.out, ?_⟩
  refine schedF_eff rfl ?_
  intro J hJ
  go_wp2_with fail
  refine (two_c _ s k hs Lk).mono ?_
  rw [HX.out]
  unfold digV
  rintro e w2 ⟨rfl, hb⟩
  replace CC : Hid (Below W.heap.size W w2) := Lib.hid (ext_trans CC.out hb)
  clear hb
  go_wp2_with fail
  refine ⟨fun _ => CC.out, ?_⟩
  replace R := Lib.hid (keepB CC.out R.out)
  replace B := Lib.hid (ext_trans B.out CC.out)
  obtain ⟨q0, q1, q2, q3, q4, q5, q6, q7, f0, f1, f2, f3, f4, f5, f6, f7⟩ := full8 R.out
  refine schedF_eff rfl ?_
  intro J hJ
  go_wp2_with fail
  refine ⟨fun h => absurd rfl h, ?_⟩
  refine schedF_nil (hJ0 _ _ ?_)
  go_wp2_with fail
  obtain ⟨g0, g1, g2, g3, g4, g5, g6, g7⟩ := put8 R.out (.int .u8 (byt x 0)) (.int .u8 (byt x 1)) (.int .u8 (byt x 2)) (.int .u8 (byt x 3)) (.int .u8 (byt x 4)) (.int .u8 (byt x 5)) (.int .u8 (byt x 6)) (.int .u8 (byt x 7))
  refine bodyPost_ret (v := digV x) (by unfold digV; simp only [results, Try.results59]; simp [go_sem, g0, g1, g2, g3, g4, g5, g6, g7]) rfl ⟨by unfold digV; rfl, bel8 B.out (Nat.le_refl _) (by omega) _ _ _ _ _ _ _ _⟩
#print axioms begin1_c

set_option maxRecDepth 100000 in
set_option maxHeartbeats 1000000 in
theorem part_c (w : World) (A : Option Addr) (n c : Nat) (bs : List UInt8) (h : Hid (Rd w A n c bs)) (hn : n = 144) (k : Nat) (hk : k < 18) : Calls Try.prog 66 #[.slice A n c, .int .i64 k] w (Hands (digV (partN bs k)) w) := by
  have hle := h.out.le
  have hmax := h.out.max
  subst hn
  obtain ⟨x, hx⟩ : ∃ x, x = partN bs k := ⟨_, rfl⟩
  obtain ⟨b0, o0, rfl, hb0, hc0⟩ := h.out.cells (by omega)
  have HC : Hid (∀ i, i < 8 → w.cell? ⟨b0, o0 + k * 8 + i, none⟩ = some (.int .u8 (byt x i))) := fun i hi => by
    rw [Nat.add_assoc, hc0 (k * 8 + i) (by omega), hx]
    unfold partN
    rw [byt_num8]
    simp [List.getD, hi, List.getElem?_drop]
  rw [← hx]
  clear hx hc0 h
  have ck : ¬ c = k * 8 := by omega
  have kI : (k : Int) * 8 ≤ 144 := by omega
  have kI0 : (0 : Int) ≤ (k : Int) := by omega
  have AAT : ∀ w, (Instr.arrayAt 31 (.slice (some ⟨b0, o0 + k * 8, none⟩) (144 - k * 8) (c - k * 8))).run Try.prog w = .ok (.pointer (some ⟨b0, o0 + k * 8, none⟩)) w := fun w => by simp [Instr.arrayAt, run_underlying Try.underlying31]; omega
  go_enter Try.func66, Try.ntmps66
  go_upto_region 1 with fail
  have R : Hid ((World.alloc w (.cells #[.int .u8 0, .int .u8 0, .int .u8 0, .int .u8 0, .int .u8 0, .int .u8 0, .int .u8 0, .int .u8 0] 31)).heap[w.heap.size]? = some (.cells #[.int .u8 0, .int .u8 0, .int .u8 0, .int .u8 0, .int .u8 0, .int .u8 0, .int .u8 0, .int .u8 0] 31 (0, 0))) := Go.heap_alloc_new w _
  have B : Hid (Below w.heap.size w (World.alloc w (.cells #[.int .u8 0, .int .u8 0, .int .u8 0, .int .u8 0, .int .u8 0, .int .u8 0, .int .u8 0, .int .u8 0] 31))) := ext_alloc _ _
  have HC2 : Hid (∀ i, i < 8 → (World.alloc w (.cells #[.int .u8 0, .int .u8 0, .int .u8 0, .int .u8 0, .int .u8 0, .int .u8 0, .int .u8 0, .int .u8 0] 31)).cell? ⟨b0, o0 + k * 8 + i, none⟩ = some (.int .u8 (byt x i))) := fun i hi => ((ext_alloc w _).cell (p := ⟨b0, o0 + k * 8 + i, none⟩) hb0).trans (HC.out i hi)
  generalize World.alloc w (.cells #[.int .u8 0, .int .u8 0, .int .u8 0, .int .u8 0, .int .u8 0, .int .u8 0, .int .u8 0, .int .u8 0] 31) = W at *
  obtain ⟨x0, x1, x2, x3, x4, x5, x6, x7⟩ := (⟨HC2.out 0 (by omega), HC2.out 1 (by omega), HC2.out 2 (by omega), HC2.out 3 (by omega), HC2.out 4 (by omega), HC2.out 5 (by omega), HC2.out 6 (by omega), HC2.out 7 (by omega)⟩ : _ ∧ _ ∧ _ ∧ _ ∧ _ ∧ _ ∧ _ ∧ _)
  rw [Nat.add_zero] at x0
  obtain ⟨q0, q1, q2, q3, q4, q5, q6, q7, f0, f1, f2, f3, f4, f5, f6, f7⟩ := full8 R.out
  clear HC HC2
  go_wp2_with fail
  obtain ⟨g0, g1, g2, g3, g4, g5, g6, g7⟩ := put8 R.out (.int .u8 (byt x 0)) (.int .u8 (byt x 1)) (.int .u8 (byt x 2)) (.int .u8 (byt x 3)) (.int .u8 (byt x 4)) (.int .u8 (byt x 5)) (.int .u8 (byt x 6)) (.int .u8 (byt x 7))
  refine bodyPost_ret (v := digV x) (by unfold digV; simp only [results, Try.results66]; simp [go_sem, g0, g1, g2, g3, g4, g5, g6, g7]) rfl ⟨by unfold digV; rfl, bel8 B.out (Nat.le_refl _) (by omega) _ _ _ _ _ _ _ _⟩
#print axioms part_c
end Go.Proofs.Ytbhibfdlkahagaa
