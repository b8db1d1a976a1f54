/-
  once: Shown: contract.
-/
import Derived.Test.YtbhibfdlkahagaaOPub
namespace Go.Proofs.Ytbhibfdlkahagaa
open Go.RowKit

/-- what a signature shows of a chain, and whether it shows any -/
def shownR (sig : List UInt8) (K : Int) : Nat × Bool := if sig.length = 144 ∧ 0 ≤ K ∧ K < 18 then (partN sig K.toNat, true) else (0, false)
theorem shownR_lt (sig : List UInt8) (K : Int) : (shownR sig K).1 < 18446744073709551616 := by
  unfold shownR
  split
  · exact partN_lt sig _
  · show 0 < 18446744073709551616; omega
def Shows (sig : List UInt8) (K : Int) (w : World) (e : Ending) (w' : World) : Prop := e = .returned (.tuple #[digV (shownR sig K).1, .bool (shownR sig K).2]) ∧ Below w.heap.size w w'

set_option maxRecDepth 100000 in
set_option maxHeartbeats 4000000 in
theorem shown_c (w : World) (A : Option Addr) (n c : Nat) (sg : List UInt8) (h : Hid (Rd w A n c sg)) (K : Int) : Calls Try.prog 33 #[.slice A n c, .int .i64 K] w (Shows sg K w) := by
  have hle := h.out.le
  have hmax := h.out.max
  have HL := Lib.hid h.out.len
  unfold Shows
  by_cases hn : n = 144
  case neg =>
    have HV : shownR sg K = (0, false) := by unfold shownR; rw [if_neg (by rw [HL.out]; omega)]
    rw [HV]
    show Calls _ _ _ _ (fun e w' => e = .returned (.tuple #[digV 0, .bool false]) ∧ Below w.heap.size w w')
    rw [digV0]
    clear HV
    have gI : ((n : Int) != 144) = true := by rw [bne_iff_ne]; omega
    have gJ : ¬ (n : Int) = 144 := by omega
    go_enter Try.func33, Try.ntmps33
    go_upto_region 1 with fail
    have R : Hid ((World.alloc w (.cells #[.int .u8 0, .int .u8 0, .int .u8 0, .int .u8 0, .int .u8 0, .int .u8 0, .int .u8 0, .int .u8 0] 31)).heap[w.heap.size]? = some (.cells #[.int .u8 0, .int .u8 0, .int .u8 0, .int .u8 0, .int .u8 0, .int .u8 0, .int .u8 0, .int .u8 0] 31 (0, 0))) := Go.heap_alloc_new w _
    have B : Hid (Below w.heap.size w (World.alloc w (.cells #[.int .u8 0, .int .u8 0, .int .u8 0, .int .u8 0, .int .u8 0, .int .u8 0, .int .u8 0, .int .u8 0] 31))) := ext_alloc _ _
    generalize World.alloc w (.cells #[.int .u8 0, .int .u8 0, .int .u8 0, .int .u8 0, .int .u8 0, .int .u8 0, .int .u8 0, .int .u8 0] 31) = W at *
    obtain ⟨q0, q1, q2, q3, q4, q5, q6, q7, f0, f1, f2, f3, f4, f5, f6, f7⟩ := full8 R.out
    go_wp2_with fail
    obtain ⟨g0, g1, g2, g3, g4, g5, g6, g7⟩ := put8 R.out (.int .u8 0) (.int .u8 0) (.int .u8 0) (.int .u8 0) (.int .u8 0) (.int .u8 0) (.int .u8 0) (.int .u8 0)
    refine bodyPost_ret (v := .tuple #[.agg #[.int .u8 0, .int .u8 0, .int .u8 0, .int .u8 0, .int .u8 0, .int .u8 0, .int .u8 0, .int .u8 0], .bool false]) (by simp only [results, Try.results33]; simp [go_sem, g0, g1, g2, g3, g4, g5, g6, g7]) rfl ⟨rfl, bel8 B.out (Nat.le_refl _) (by omega) _ _ _ _ _ _ _ _⟩
  subst hn
  by_cases h0 : K < 0
  · have HV : shownR sg K = (0, false) := by unfold shownR; rw [if_neg (by rw [HL.out]; omega)]
    rw [HV]
    show Calls _ _ _ _ (fun e w' => e = .returned (.tuple #[digV 0, .bool false]) ∧ Below w.heap.size w w')
    rw [digV0]
    clear HV
    go_enter Try.func33, Try.ntmps33
    go_upto_region 1 with fail
    have R : Hid ((World.alloc w (.cells #[.int .u8 0, .int .u8 0, .int .u8 0, .int .u8 0, .int .u8 0, .int .u8 0, .int .u8 0, .int .u8 0] 31)).heap[w.heap.size]? = some (.cells #[.int .u8 0, .int .u8 0, .int .u8 0, .int .u8 0, .int .u8 0, .int .u8 0, .int .u8 0, .int .u8 0] 31 (0, 0))) := Go.heap_alloc_new w _
    have B : Hid (Below w.heap.size w (World.alloc w (.cells #[.int .u8 0, .int .u8 0, .int .u8 0, .int .u8 0, .int .u8 0, .int .u8 0, .int .u8 0, .int .u8 0] 31))) := ext_alloc _ _
    generalize World.alloc w (.cells #[.int .u8 0, .int .u8 0, .int .u8 0, .int .u8 0, .int .u8 0, .int .u8 0, .int .u8 0, .int .u8 0] 31) = W at *
    obtain ⟨q0, q1, q2, q3, q4, q5, q6, q7, f0, f1, f2, f3, f4, f5, f6, f7⟩ := full8 R.out
    go_wp2_with fail
    obtain ⟨g0, g1, g2, g3, g4, g5, g6, g7⟩ := put8 R.out (.int .u8 0) (.int .u8 0) (.int .u8 0) (.int .u8 0) (.int .u8 0) (.int .u8 0) (.int .u8 0) (.int .u8 0)
    refine bodyPost_ret (v := .tuple #[.agg #[.int .u8 0, .int .u8 0, .int .u8 0, .int .u8 0, .int .u8 0, .int .u8 0, .int .u8 0, .int .u8 0], .bool false]) (by simp only [results, Try.results33]; simp [go_sem, g0, g1, g2, g3, g4, g5, g6, g7]) rfl ⟨rfl, bel8 B.out (Nat.le_refl _) (by omega) _ _ _ _ _ _ _ _⟩
  by_cases h1 : 18 ≤ K
  · have HV : shownR sg K = (0, false) := by unfold shownR; rw [if_neg (by rw [HL.out]; omega)]
    rw [HV]
    show Calls _ _ _ _ (fun e w' => e = .returned (.tuple #[digV 0, .bool false]) ∧ Below w.heap.size w w')
    rw [digV0]
    clear HV
    go_enter Try.func33, Try.ntmps33
    go_upto_region 1 with fail
    have R : Hid ((World.alloc w (.cells #[.int .u8 0, .int .u8 0, .int .u8 0, .int .u8 0, .int .u8 0, .int .u8 0, .int .u8 0, .int .u8 0] 31)).heap[w.heap.size]? = some (.cells #[.int .u8 0, .int .u8 0, .int .u8 0, .int .u8 0, .int .u8 0, .int .u8 0, .int .u8 0, .int .u8 0] 31 (0, 0))) := Go.heap_alloc_new w _
    have B : Hid (Below w.heap.size w (World.alloc w (.cells #[.int .u8 0, .int .u8 0, .int .u8 0, .int .u8 0, .int .u8 0, .int .u8 0, .int .u8 0, .int .u8 0] 31))) := ext_alloc _ _
    generalize World.alloc w (.cells #[.int .u8 0, .int .u8 0, .int .u8 0, .int .u8 0, .int .u8 0, .int .u8 0, .int .u8 0, .int .u8 0] 31) = W at *
    obtain ⟨q0, q1, q2, q3, q4, q5, q6, q7, f0, f1, f2, f3, f4, f5, f6, f7⟩ := full8 R.out
    go_wp2_with fail
    obtain ⟨g0, g1, g2, g3, g4, g5, g6, g7⟩ := put8 R.out (.int .u8 0) (.int .u8 0) (.int .u8 0) (.int .u8 0) (.int .u8 0) (.int .u8 0) (.int .u8 0) (.int .u8 0)
    refine bodyPost_ret (v := .tuple #[.agg #[.int .u8 0, .int .u8 0, .int .u8 0, .int .u8 0, .int .u8 0, .int .u8 0, .int .u8 0, .int .u8 0], .bool false]) (by simp only [results, Try.results33]; simp [go_sem, g0, g1, g2, g3, g4, g5, g6, g7]) rfl ⟨rfl, bel8 B.out (Nat.le_refl _) (by omega) _ _ _ _ _ _ _ _⟩
  · obtain ⟨k, rfl⟩ : ∃ k : Nat, K = k := ⟨K.toNat, by omega⟩
    have hk : k < 18 := by omega
    have HV : shownR sg (k : Int) = (partN sg k, true) := by unfold shownR; rw [if_pos (by rw [HL.out]; omega)]; rfl
    rw [HV]
    obtain ⟨x, hx⟩ : ∃ x, x = partN sg k := ⟨_, rfl⟩
    have HX : Hid (partN sg k = x) := hx.symm
    show Calls _ _ _ _ (fun e w' => e = .returned (.tuple #[digV (partN sg k), .bool true]) ∧ Below w.heap.size w w')
    rw [← hx]
    clear hx HV
    go_enter Try.func33, Try.ntmps33
    go_upto_region 1 with fail
    have R : Hid ((World.alloc w (.cells #[.int .u8 0, .int .u8 0, .int .u8 0, .int .u8 0, .int .u8 0, .int .u8 0, .int .u8 0, .int .u8 0] 31)).heap[w.heap.size]? = some (.cells #[.int .u8 0, .int .u8 0, .int .u8 0, .int .u8 0, .int .u8 0, .int .u8 0, .int .u8 0, .int .u8 0] 31 (0, 0))) := Go.heap_alloc_new w _
    have B : Hid (Below w.heap.size w (World.alloc w (.cells #[.int .u8 0, .int .u8 0, .int .u8 0, .int .u8 0, .int .u8 0, .int .u8 0, .int .u8 0, .int .u8 0] 31))) := ext_alloc _ _
    generalize World.alloc w (.cells #[.int .u8 0, .int .u8 0, .int .u8 0, .int .u8 0, .int .u8 0, .int .u8 0, .int .u8 0, .int .u8 0] 31) = W at *
    go_wp2_with fail
    refine (part_c _ A 144 c sg (Lib.hid (h.out.ext B.out)) rfl k hk).mono ?_
    rw [HX.out]
    unfold digV
    rintro e w3 ⟨rfl, hb⟩
    replace R := Lib.hid (keepB hb R.out)
    replace B := Lib.hid (ext_trans B.out hb)
    obtain ⟨q0, q1, q2, q3, q4, q5, q6, q7, f0, f1, f2, f3, f4, f5, f6, f7⟩ := full8 R.out
    clear hb
    go_wp2_with fail
    obtain ⟨g0, g1, g2, g3, g4, g5, g6, g7⟩ := put8 R.out (.int .u8 (byt x 0)) (.int .u8 (byt x 1)) (.int .u8 (byt x 2)) (.int .u8 (byt x 3)) (.int .u8 (byt x 4)) (.int .u8 (byt x 5)) (.int .u8 (byt x 6)) (.int .u8 (byt x 7))
    refine bodyPost_ret (v := .tuple #[digV x, .bool true]) (by unfold digV; simp only [results, Try.results33]; simp [go_sem, g0, g1, g2, g3, g4, g5, g6, g7]) rfl ⟨by unfold digV; rfl, bel8 B.out (Nat.le_refl _) (by omega) _ _ _ _ _ _ _ _⟩
#print axioms shown_c
end Go.Proofs.Ytbhibfdlkahagaa
