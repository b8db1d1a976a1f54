/-
  once: Public, Told, Verify: contracts.
-/
import Derived.Test.YtbhibfdlkahagaaOClo
import Derived.Test.YtbhibfdlkahagaaODig8
import Derived.Test.YtbhibfdlkahagaaHManyR
namespace Go.Proofs.Ytbhibfdlkahagaa
open Go.RowKit

set_option maxRecDepth 100000 in
set_option maxHeartbeats 2000000 in
theorem public_c (w : World) (s : Nat) (hs : s < 18446744073709551616) : Calls Try.prog 24 #[digV s] w (Hands (digV (pubN s)) w) := by
  obtain ⟨x, hx⟩ : ∃ x, x = pubN s := ⟨_, rfl⟩
  have HX : Hid (manyN (walkL (begN s) (fun _ => 15)) = x) := hx.symm
  rw [← hx]
  clear hx
  unfold digV
  go_enter Try.func24, Try.ntmps24
  go_upto_region 1 with fail
  generalize hW : World.alloc (World.alloc w (.cells #[.int .u8 (byt s 0), .int .u8 (byt s 1), .int .u8 (byt s 2), .int .u8 (byt s 3), .int .u8 (byt s 4), .int .u8 (byt s 5), .int .u8 (byt s 6), .int .u8 (byt s 7)] 31)) (.cells #[.int .u8 0, .int .u8 0, .int .u8 0, .int .u8 0, .int .u8 0, .int .u8 0, .int .u8 0, .int .u8 0] 31) = W
  have D : Hid (W.heap[w.heap.size]? = some (.cells #[.int .u8 (byt s 0), .int .u8 (byt s 1), .int .u8 (byt s 2), .int .u8 (byt s 3), .int .u8 (byt s 4), .int .u8 (byt s 5), .int .u8 (byt s 6), .int .u8 (byt s 7)] 31 (0, 0))) := by rw [← hW]; exact keepA (Go.heap_alloc_new w _)
  have R : Hid (W.heap[w.heap.size + 1]? = some (.cells #[.int .u8 0, .int .u8 0, .int .u8 0, .int .u8 0, .int .u8 0, .int .u8 0, .int .u8 0, .int .u8 0] 31 (0, 0))) := by rw [← hW]; exact heap_alloc_newest (w := World.alloc _ _) (by simp)
  have B : Hid (Below w.heap.size w W) := by rw [← hW]; exact ext_trans (ext_alloc _ _) (ext_alloc _ _)
  clear hW
  go_wp2_with fail
  refine (walkPub_c W (begN s) (fun _ => 15) (Lib.hid (fun c hc => begN_lt hs (by omega))) ⟨w.heap.size, 0, none⟩ (Lib.hid (fun v hv k hk => pub1_c W s hs w.heap.size D v hv k hk))).mono ?_
  rintro e w1 ⟨b, rfl, hr, hb⟩
  have RD := Lib.hid hr
  replace R := Lib.hid (keepB hb R.out)
  replace B := Lib.hid (ext_trans B.out hb)
  clear hr hb D
  go_wp2_with fail
  refine (many_c _ _ _ _ _ RD).mono ?_
  rw [HX.out]
  unfold digV
  rintro e w2 ⟨rfl, hb⟩
  replace R := Lib.hid (keepB hb R.out)
  replace B := Lib.hid (ext_trans B.out hb)
  obtain ⟨q0, q1, q2, q3, q4, q5, q6, q7, f0, f1, f2, f3, f4, f5, f6, f7⟩ := full8 R.out
  clear hb
  go_wp2_with fail
  obtain ⟨g0, g1, g2, g3, g4, g5, g6, g7⟩ := put8 R.out (.int .u8 (byt x 0)) (.int .u8 (byt x 1)) (.int .u8 (byt x 2)) (.int .u8 (byt x 3)) (.int .u8 (byt x 4)) (.int .u8 (byt x 5)) (.int .u8 (byt x 6)) (.int .u8 (byt x 7))
  refine bodyPost_ret (v := digV x) (by unfold digV; simp only [results, Try.results24]; simp [go_sem, g0, g1, g2, g3, g4, g5, g6, g7]) rfl ⟨by unfold digV; rfl, bel8 B.out (Nat.le_refl _) (by omega) _ _ _ _ _ _ _ _⟩
#print axioms public_c

theorem digV0 : digV 0 = .agg #[.int .u8 0, .int .u8 0, .int .u8 0, .int .u8 0, .int .u8 0, .int .u8 0, .int .u8 0, .int .u8 0] := by unfold digV byt; rfl
/-- the key that bytes tell of a message, and whether they are a signature by any -/
def toldR (m : Nat) (sig : List UInt8) : Nat × Bool := if sig.length = 144 then (toldN m sig, true) else (0, false)
def Tolds (m : Nat) (sig : List UInt8) (w : World) (e : Ending) (w' : World) : Prop := e = .returned (.tuple #[digV (toldR m sig).1, .bool (toldR m sig).2]) ∧ Below w.heap.size w w'

set_option maxRecDepth 100000 in
set_option maxHeartbeats 4000000 in
theorem told_c (w : World) (m : Nat) (A : Option Addr) (n c : Nat) (sg : List UInt8) (h : Hid (Rd w A n c sg)) : Calls Try.prog 31 #[digV m, .slice A n c] w (Tolds m sg w) := by
  have hle := h.out.le
  have hmax := h.out.max
  have HL := Lib.hid h.out.len
  unfold Tolds
  by_cases hn : n = 144
  · subst hn
    have HV : toldR m sg = (toldN m sg, true) := by unfold toldR; rw [if_pos HL.out]
    rw [HV]
    obtain ⟨x, hx⟩ : ∃ x, x = toldN m sg := ⟨_, rfl⟩
    have HX : Hid (manyN (walkL (partN sg) (fun c => 15 - dg m c)) = x) := hx.symm
    show Calls _ _ _ _ (fun e w' => e = .returned (.tuple #[digV (toldN m sg), .bool true]) ∧ Below w.heap.size w w')
    rw [← hx]
    clear hx HV
    unfold digV
    go_enter Try.func31, Try.ntmps31
    go_upto_region 1 with fail
    generalize hW : World.alloc (World.alloc (World.alloc w (.cells #[.int .u8 (byt m 0), .int .u8 (byt m 1), .int .u8 (byt m 2), .int .u8 (byt m 3), .int .u8 (byt m 4), .int .u8 (byt m 5), .int .u8 (byt m 6), .int .u8 (byt m 7)] 31)) (.cells #[.slice A 144 c] 22)) (.cells #[.int .u8 0, .int .u8 0, .int .u8 0, .int .u8 0, .int .u8 0, .int .u8 0, .int .u8 0, .int .u8 0] 31) = W
    have D : Hid (W.heap[w.heap.size]? = some (.cells #[.int .u8 (byt m 0), .int .u8 (byt m 1), .int .u8 (byt m 2), .int .u8 (byt m 3), .int .u8 (byt m 4), .int .u8 (byt m 5), .int .u8 (byt m 6), .int .u8 (byt m 7)] 31 (0, 0))) := by rw [← hW]; exact keepA (keepA (Go.heap_alloc_new w _))
    have G : Hid (W.heap[w.heap.size + 1]? = some (.cells #[.slice A 144 c] 22 (0, 0))) := by rw [← hW]; exact keepA (heap_alloc_newest (w := World.alloc _ _) (by simp))
    have R : Hid (W.heap[w.heap.size + 2]? = some (.cells #[.int .u8 0, .int .u8 0, .int .u8 0, .int .u8 0, .int .u8 0, .int .u8 0, .int .u8 0, .int .u8 0] 31 (0, 0))) := by rw [← hW]; exact heap_alloc_newest (w := World.alloc _ _) (by simp)
    have B : Hid (Below w.heap.size w W) := by rw [← hW]; exact ext_trans (ext_trans (ext_alloc _ _) (ext_alloc _ _)) (ext_alloc _ _)
    clear hW
    obtain ⟨d0, d1, d2, d3, d4, d5, d6, d7, _, _, _, _, _, _, _, _⟩ := full8 D.out
    have g0 : W.cell? ⟨w.heap.size + 1, 0, none⟩ = some (.slice A 144 c) := by rw [cell_of_row W _ _ _ _ _ G.out]; rfl
    go_wp2_with fail
    rw [← show digV m = .agg #[.int .u8 (byt m 0), .int .u8 (byt m 1), .int .u8 (byt m 2), .int .u8 (byt m 3), .int .u8 (byt m 4), .int .u8 (byt m 5), .int .u8 (byt m 6), .int .u8 (byt m 7)] from rfl]
    refine (reach_c _ m).mono ?_
    unfold digV18
    rintro e w1 ⟨rfl, hb⟩
    replace G := Lib.hid (keepB hb G.out)
    replace R := Lib.hid (keepB hb R.out)
    replace B := Lib.hid (ext_trans B.out hb)
    clear hb d0 d1 d2 d3 d4 d5 d6 d7 g0 D
    go_upto_region 4 with fail
    have DM : Hid ((World.alloc w1 (.cells #[.int .i64 (dg m 0), .int .i64 (dg m 1), .int .i64 (dg m 2), .int .i64 (dg m 3), .int .i64 (dg m 4), .int .i64 (dg m 5), .int .i64 (dg m 6), .int .i64 (dg m 7), .int .i64 (dg m 8), .int .i64 (dg m 9), .int .i64 (dg m 10), .int .i64 (dg m 11), .int .i64 (dg m 12), .int .i64 (dg m 13), .int .i64 (dg m 14), .int .i64 (dg m 15), .int .i64 (dg m 16), .int .i64 (dg m 17)] 42)).heap[w1.heap.size]? = some (.cells (digA18 m) 42 (0, 0))) := Go.heap_alloc_new w1 _
    replace G := Lib.hid (keepA (x := .cells #[.int .i64 (dg m 0), .int .i64 (dg m 1), .int .i64 (dg m 2), .int .i64 (dg m 3), .int .i64 (dg m 4), .int .i64 (dg m 5), .int .i64 (dg m 6), .int .i64 (dg m 7), .int .i64 (dg m 8), .int .i64 (dg m 9), .int .i64 (dg m 10), .int .i64 (dg m 11), .int .i64 (dg m 12), .int .i64 (dg m 13), .int .i64 (dg m 14), .int .i64 (dg m 15), .int .i64 (dg m 16), .int .i64 (dg m 17)] 42) G.out)
    replace R := Lib.hid (keepA (x := .cells #[.int .i64 (dg m 0), .int .i64 (dg m 1), .int .i64 (dg m 2), .int .i64 (dg m 3), .int .i64 (dg m 4), .int .i64 (dg m 5), .int .i64 (dg m 6), .int .i64 (dg m 7), .int .i64 (dg m 8), .int .i64 (dg m 9), .int .i64 (dg m 10), .int .i64 (dg m 11), .int .i64 (dg m 12), .int .i64 (dg m 13), .int .i64 (dg m 14), .int .i64 (dg m 15), .int .i64 (dg m 16), .int .i64 (dg m 17)] 42) R.out)
    replace B := Lib.hid (ext_trans B.out (ext_alloc w1 (.cells #[.int .i64 (dg m 0), .int .i64 (dg m 1), .int .i64 (dg m 2), .int .i64 (dg m 3), .int .i64 (dg m 4), .int .i64 (dg m 5), .int .i64 (dg m 6), .int .i64 (dg m 7), .int .i64 (dg m 8), .int .i64 (dg m 9), .int .i64 (dg m 10), .int .i64 (dg m 11), .int .i64 (dg m 12), .int .i64 (dg m 13), .int .i64 (dg m 14), .int .i64 (dg m 15), .int .i64 (dg m 16), .int .i64 (dg m 17)] 42)))
    generalize World.alloc w1 (.cells #[.int .i64 (dg m 0), .int .i64 (dg m 1), .int .i64 (dg m 2), .int .i64 (dg m 3), .int .i64 (dg m 4), .int .i64 (dg m 5), .int .i64 (dg m 6), .int .i64 (dg m 7), .int .i64 (dg m 8), .int .i64 (dg m 9), .int .i64 (dg m 10), .int .i64 (dg m 11), .int .i64 (dg m 12), .int .i64 (dg m 13), .int .i64 (dg m 14), .int .i64 (dg m 15), .int .i64 (dg m 16), .int .i64 (dg m 17)] 42) = V at *
    go_wp2_with fail
    refine (walkTold_c V (partN sg) (fun c => 15 - dg m c) (Lib.hid (fun c _ => partN_lt sg c)) ⟨w.heap.size + 1, 0, none⟩ ⟨w1.heap.size, 0, none⟩ (Lib.hid (fun v hv k hk => told1_c V A c sg (Lib.hid (h.out.ext B.out)) (w.heap.size + 1) G m w1.heap.size DM v hv k hk))).mono ?_
    rintro e w2 ⟨b, rfl, hr, hb⟩
    have RD := Lib.hid hr
    replace R := Lib.hid (keepB hb R.out)
    replace B := Lib.hid (ext_trans B.out hb)
    clear hr hb DM G
    go_wp2_with fail
    refine (many_c _ _ _ _ _ RD).mono ?_
    rw [HX.out]
    unfold digV
    rintro e w3 ⟨rfl, hb⟩
    replace R := Lib.hid (keepB hb R.out)
    replace B := Lib.hid (ext_trans B.out hb)
    obtain ⟨q0, q1, q2, q3, q4, q5, q6, q7, f0, f1, f2, f3, f4, f5, f6, f7⟩ := full8 R.out
    clear hb
    go_wp2_with fail
    obtain ⟨g0, g1, g2, g3, g4, g5, g6, g7⟩ := put8 R.out (.int .u8 (byt x 0)) (.int .u8 (byt x 1)) (.int .u8 (byt x 2)) (.int .u8 (byt x 3)) (.int .u8 (byt x 4)) (.int .u8 (byt x 5)) (.int .u8 (byt x 6)) (.int .u8 (byt x 7))
    refine bodyPost_ret (v := .tuple #[digV x, .bool true]) (by unfold digV; simp only [results, Try.results31]; simp [go_sem, g0, g1, g2, g3, g4, g5, g6, g7]) rfl ⟨by unfold digV; rfl, bel8 B.out (Nat.le_refl _) (by omega) _ _ _ _ _ _ _ _⟩
  · have HV : toldR m sg = (0, false) := by unfold toldR; rw [if_neg (by rw [HL.out]; exact hn)]
    rw [HV]
    show Calls _ _ _ _ (fun e w' => e = .returned (.tuple #[digV 0, .bool false]) ∧ Below w.heap.size w w')
    rw [digV0]
    clear HV
    have gI : ((n : Int) != 144) = true := by rw [bne_iff_ne]; omega
    have gJ : ¬ (n : Int) = 144 := by omega
    unfold digV
    go_enter Try.func31, Try.ntmps31
    go_upto_region 1 with fail
    generalize hW : World.alloc (World.alloc (World.alloc w (.cells #[.int .u8 (byt m 0), .int .u8 (byt m 1), .int .u8 (byt m 2), .int .u8 (byt m 3), .int .u8 (byt m 4), .int .u8 (byt m 5), .int .u8 (byt m 6), .int .u8 (byt m 7)] 31)) (.cells #[.slice A n c] 22)) (.cells #[.int .u8 0, .int .u8 0, .int .u8 0, .int .u8 0, .int .u8 0, .int .u8 0, .int .u8 0, .int .u8 0] 31) = W
    have G : Hid (W.heap[w.heap.size + 1]? = some (.cells #[.slice A n c] 22 (0, 0))) := by rw [← hW]; exact keepA (heap_alloc_newest (w := World.alloc _ _) (by simp))
    have R : Hid (W.heap[w.heap.size + 2]? = some (.cells #[.int .u8 0, .int .u8 0, .int .u8 0, .int .u8 0, .int .u8 0, .int .u8 0, .int .u8 0, .int .u8 0] 31 (0, 0))) := by rw [← hW]; exact heap_alloc_newest (w := World.alloc _ _) (by simp)
    have B : Hid (Below w.heap.size w W) := by rw [← hW]; exact ext_trans (ext_trans (ext_alloc _ _) (ext_alloc _ _)) (ext_alloc _ _)
    clear hW
    have g0 : W.cell? ⟨w.heap.size + 1, 0, none⟩ = some (.slice A n c) := by rw [cell_of_row W _ _ _ _ _ G.out]; rfl
    obtain ⟨q0, q1, q2, q3, q4, q5, q6, q7, f0, f1, f2, f3, f4, f5, f6, f7⟩ := full8 R.out
    go_wp2_with fail
    obtain ⟨g0, g1, g2, g3, g4, g5, g6, g7⟩ := put8 R.out (.int .u8 0) (.int .u8 0) (.int .u8 0) (.int .u8 0) (.int .u8 0) (.int .u8 0) (.int .u8 0) (.int .u8 0)
    refine bodyPost_ret (v := .tuple #[.agg #[.int .u8 0, .int .u8 0, .int .u8 0, .int .u8 0, .int .u8 0, .int .u8 0, .int .u8 0, .int .u8 0], .bool false]) (by simp only [results, Try.results31]; simp [go_sem, g0, g1, g2, g3, g4, g5, g6, g7]) rfl ⟨rfl, bel8 B.out (Nat.le_refl _) (by omega) _ _ _ _ _ _ _ _⟩
#print axioms told_c
end Go.Proofs.Ytbhibfdlkahagaa
