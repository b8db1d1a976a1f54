/-
  tree: Len, Root, Path of a tree: contracts.
-/
import Derived.Test.YtbejjmmopdcjoaaDoorTNew
namespace Go.Proofs.YtbejjmmopdcjoaaDoor
open Go.RowKit Go.Deep

set_option maxRecDepth 100000 in
set_option maxHeartbeats 1000000 in
theorem len_c (w : World) (Lo T : Nat) (l : List Nat) (h : Hid (TrAt w Lo T l)) : Calls Tryd.prog 27 #[.pointer (some ⟨T, 0, none⟩)] w (fun e w' => e = .returned (.int .i64 (l.length : Int)) ∧ w' = w) := by
  obtain ⟨g0, c0, e0, _, _⟩ := h.out.leaves
  obtain ⟨n, hn⟩ : ∃ n, n = l.length := ⟨_, rfl⟩
  rw [← hn] at e0 ⊢
  clear hn h
  go_enter Tryd.func27, Tryd.ntmps27
  go_wp2_with fail
  go_ret
  exact ⟨rfl, rfl⟩
set_option maxRecDepth 100000 in
theorem len_nil (w : World) : Calls Tryd.prog 27 #[.pointer none] w (fun e w' => e = .returned (.int .i64 0) ∧ w' = w) := by
  go_enter Tryd.func27, Tryd.ntmps27
  go_wp2_with fail
  go_ret
  exact ⟨rfl, rfl⟩

set_option maxRecDepth 100000 in
set_option maxHeartbeats 1000000 in
theorem has_c (w : World) (Lo T : Nat) (l : List Nat) (i : Int) (h : Hid (TrAt w Lo T l)) : Calls Tryd.prog 46 #[.pointer (some ⟨T, 0, none⟩), .int .i64 i] w (fun e w' => e = .returned (.bool (decide (0 ≤ i ∧ i < (l.length : Int)))) ∧ w' = w) := by
  by_cases h1 : 0 ≤ i
  · by_cases h2 : i < (l.length : Int)
    · rw [show decide (0 ≤ i ∧ i < (l.length : Int)) = true from decide_eq_true ⟨h1, h2⟩]
      go_enter Tryd.func46, Tryd.ntmps46
      go_wp2_with fail
      refine (len_c _ Lo T l h).mono ?_
      rintro e w1 ⟨rfl, rfl⟩
      go_wp2_with fail
      go_ret
      exact ⟨rfl, rfl⟩
    · rw [show decide (0 ≤ i ∧ i < (l.length : Int)) = false from decide_eq_false (fun e => h2 e.2)]
      go_enter Tryd.func46, Tryd.ntmps46
      go_wp2_with fail
      refine (len_c _ Lo T l h).mono ?_
      rintro e w1 ⟨rfl, rfl⟩
      go_wp2_with fail
      refine bodyPost_ret (v := .bool false) (by simp only [results, Tryd.results46]; simp [go_sem, h2]) rfl ⟨rfl, rfl⟩
  · rw [show decide (0 ≤ i ∧ i < (l.length : Int)) = false from decide_eq_false (fun e => h1 e.1)]
    go_enter Tryd.func46, Tryd.ntmps46
    go_wp2_with fail
    go_ret
    exact ⟨rfl, rfl⟩
set_option maxRecDepth 100000 in
theorem has_nil (w : World) (i : Int) : Calls Tryd.prog 46 #[.pointer none, .int .i64 i] w (fun e w' => e = .returned (.bool false) ∧ w' = w) := by
  by_cases h1 : 0 ≤ i
  · have h2 : ¬ i < 0 := by omega
    go_enter Tryd.func46, Tryd.ntmps46
    go_wp2_with fail
    refine (len_nil _).mono ?_
    rintro e w1 ⟨rfl, rfl⟩
    go_wp2_with fail
    refine bodyPost_ret (v := .bool false) (by simp only [results, Tryd.results46]; simp [go_sem, h1]) rfl ⟨rfl, rfl⟩
  · go_enter Tryd.func46, Tryd.ntmps46
    go_wp2_with fail
    go_ret
    exact ⟨rfl, rfl⟩

set_option maxRecDepth 100000 in
set_option maxHeartbeats 1000000 in
theorem rootm_c (w : World) (Lo T : Nat) (l : List Nat) (h : Hid (TrAt w Lo T l)) : Calls Tryd.prog 26 #[.pointer (some ⟨T, 0, none⟩)] w (Hands (digV (treeN l (hgt l.length))) w) := by
  have HH := Lib.hid (heightI_ok h.out.n1 h.out.n2)
  have H12 := hgt_le h.out.n2
  have L9 : l.length < 9223372036854775808 := by have := h.out.n2; omega
  have WT := Lib.hid (wid_top (h := hgt l.length) (by have := h.out.n1; omega) (hgt_ge l.length))
  have HSm := Lib.hid h.out.small
  have LX := Lib.hid (levX_top l)
  obtain ⟨H, hH⟩ : ∃ H, H = hgt l.length := ⟨_, rfl⟩
  rw [← hH] at HH H12 WT LX ⊢
  obtain ⟨x, hx⟩ : ∃ x, x = nd l H 0 := ⟨_, rfl⟩
  have lx : x < 18446744073709551616 := by rw [hx]; exact nd_lt HSm.out _ _
  have HX : Hid ((levX l H).getD 0 0 = x) := by show _ = _; rw [LX.out, level_get (by rw [WT.out]; omega), hx]
  have HN : Hid ((levX l H).length = 1) := by show _ = _; rw [LX.out, level_len, WT.out]
  obtain ⟨y, hy⟩ : ∃ y, y = treeN l H := ⟨_, rfl⟩
  have HY : Hid (rootN x H = y) := by show _ = _; rw [hy, hx]; rfl
  rw [← hy]
  have HK : Hid (∃ g c, w.cell? ⟨T, 1 + H, none⟩ = some (.slice (some ⟨g, 0, none⟩) 1 c) ∧ g < w.heap.size ∧ (w.cell? ⟨g, 0 + 0 * 8, none⟩ = some (.int .u8 (byt x 0)) ∧ w.cell? ⟨g, 0 + 0 * 8 + 1, none⟩ = some (.int .u8 (byt x 1)) ∧ w.cell? ⟨g, 0 + 0 * 8 + 2, none⟩ = some (.int .u8 (byt x 2)) ∧ w.cell? ⟨g, 0 + 0 * 8 + 3, none⟩ = some (.int .u8 (byt x 3)) ∧ w.cell? ⟨g, 0 + 0 * 8 + 4, none⟩ = some (.int .u8 (byt x 4)) ∧ w.cell? ⟨g, 0 + 0 * 8 + 5, none⟩ = some (.int .u8 (byt x 5)) ∧ w.cell? ⟨g, 0 + 0 * 8 + 6, none⟩ = some (.int .u8 (byt x 6)) ∧ w.cell? ⟨g, 0 + 0 * 8 + 7, none⟩ = some (.int .u8 (byt x 7)))) := by
    obtain ⟨g, c, k1, k2⟩ := h.out.row (k := H) (by omega)
    obtain ⟨b, o, hA, hb, hc⟩ := k2.at (k := 0) (by rw [HN.out]; omega)
    injection hA with hA
    injection hA with e1 e2 _
    subst e1 e2
    rw [HX.out] at hc
    rw [HN.out] at k1
    exact ⟨g, c, k1, hb, hc⟩
  have T0 := h.out.part.tlt
  clear hH hx hy LX WT HN HX
  go_enter Tryd.func26, Tryd.ntmps26
  go_wp2_with fail
  refine (len_c _ Lo T l (Lib.hid (h.out.ext (ext_alloc _ _)))).mono ?_
  rintro e w1 ⟨rfl, rfl⟩
  go_wp2_with fail
  refine (height_c _ _ L9).mono ?_
  rw [HH.out]
  rintro e w1 ⟨rfl, rfl⟩
  have kI : (H : Int) < 13 := by omega
  have kI0 : (0 : Int) ≤ (H : Int) := by omega
  have kI1 : ¬ (H : Int) < 0 := by omega
  have HK2 : Hid (∃ g c, (w.alloc (.cells #[.int .u8 0, .int .u8 0, .int .u8 0, .int .u8 0, .int .u8 0, .int .u8 0, .int .u8 0, .int .u8 0] 26)).cell? ⟨T, 1 + H, none⟩ = some (.slice (some ⟨g, 0, none⟩) 1 c) ∧ ((w.alloc (.cells #[.int .u8 0, .int .u8 0, .int .u8 0, .int .u8 0, .int .u8 0, .int .u8 0, .int .u8 0, .int .u8 0] 26)).cell? ⟨g, 0 + 0 * 8, none⟩ = some (.int .u8 (byt x 0)) ∧ (w.alloc (.cells #[.int .u8 0, .int .u8 0, .int .u8 0, .int .u8 0, .int .u8 0, .int .u8 0, .int .u8 0, .int .u8 0] 26)).cell? ⟨g, 0 + 0 * 8 + 1, none⟩ = some (.int .u8 (byt x 1)) ∧ (w.alloc (.cells #[.int .u8 0, .int .u8 0, .int .u8 0, .int .u8 0, .int .u8 0, .int .u8 0, .int .u8 0, .int .u8 0] 26)).cell? ⟨g, 0 + 0 * 8 + 2, none⟩ = some (.int .u8 (byt x 2)) ∧ (w.alloc (.cells #[.int .u8 0, .int .u8 0, .int .u8 0, .int .u8 0, .int .u8 0, .int .u8 0, .int .u8 0, .int .u8 0] 26)).cell? ⟨g, 0 + 0 * 8 + 3, none⟩ = some (.int .u8 (byt x 3)) ∧ (w.alloc (.cells #[.int .u8 0, .int .u8 0, .int .u8 0, .int .u8 0, .int .u8 0, .int .u8 0, .int .u8 0, .int .u8 0] 26)).cell? ⟨g, 0 + 0 * 8 + 4, none⟩ = some (.int .u8 (byt x 4)) ∧ (w.alloc (.cells #[.int .u8 0, .int .u8 0, .int .u8 0, .int .u8 0, .int .u8 0, .int .u8 0, .int .u8 0, .int .u8 0] 26)).cell? ⟨g, 0 + 0 * 8 + 5, none⟩ = some (.int .u8 (byt x 5)) ∧ (w.alloc (.cells #[.int .u8 0, .int .u8 0, .int .u8 0, .int .u8 0, .int .u8 0, .int .u8 0, .int .u8 0, .int .u8 0] 26)).cell? ⟨g, 0 + 0 * 8 + 6, none⟩ = some (.int .u8 (byt x 6)) ∧ (w.alloc (.cells #[.int .u8 0, .int .u8 0, .int .u8 0, .int .u8 0, .int .u8 0, .int .u8 0, .int .u8 0, .int .u8 0] 26)).cell? ⟨g, 0 + 0 * 8 + 7, none⟩ = some (.int .u8 (byt x 7)))) := by
    obtain ⟨g, c, k1, k2, k3⟩ := HK.out
    obtain ⟨c0, c1, c2, c3, c4, c5, c6, c7⟩ := k3
    exact ⟨g, c, ((ext_alloc w _).cell (p := ⟨T, 1 + H, none⟩) T0).trans k1, ((ext_alloc w _).cell (p := ⟨g, 0 + 0 * 8, none⟩) k2).trans c0, ((ext_alloc w _).cell (p := ⟨g, 0 + 0 * 8 + 1, none⟩) k2).trans c1, ((ext_alloc w _).cell (p := ⟨g, 0 + 0 * 8 + 2, none⟩) k2).trans c2, ((ext_alloc w _).cell (p := ⟨g, 0 + 0 * 8 + 3, none⟩) k2).trans c3, ((ext_alloc w _).cell (p := ⟨g, 0 + 0 * 8 + 4, none⟩) k2).trans c4, ((ext_alloc w _).cell (p := ⟨g, 0 + 0 * 8 + 5, none⟩) k2).trans c5, ((ext_alloc w _).cell (p := ⟨g, 0 + 0 * 8 + 6, none⟩) k2).trans c6, ((ext_alloc w _).cell (p := ⟨g, 0 + 0 * 8 + 7, none⟩) k2).trans c7⟩
  clear HK
  obtain ⟨g, c, ce, c0, c1, c2, c3, c4, c5, c6, c7⟩ := HK2.out
  clear HK2
  simp only [Nat.zero_mul, Nat.zero_add] at c0 c1 c2 c3 c4 c5 c6 c7
  go_wp2_with fail
  rw [← show digV x = .agg #[.int .u8 (byt x 0), .int .u8 (byt x 1), .int .u8 (byt x 2), .int .u8 (byt x 3), .int .u8 (byt x 4), .int .u8 (byt x 5), .int .u8 (byt x 6), .int .u8 (byt x 7)] from rfl]
  refine (rootOf_c _ x lx H H12).mono ?_
  rw [HY.out]
  unfold digV
  rintro e w1 ⟨rfl, hb⟩
  have R := Lib.hid (keepB (b := w.heap.size) hb (heap_alloc_newest (w := w) rfl))
  have B := Lib.hid (ext_trans (ext_alloc _ _) hb)
  have z1 : w.heap.size < w1.heap.size := (Array.getElem?_eq_some_iff.1 R.out).1
  clear hb c0 c1 c2 c3 c4 c5 c6 c7 ce
  obtain ⟨c0, c1, c2, c3, c4, c5, c6, c7, f0, f1, f2, f3, f4, f5, f6, f7⟩ := full8 R.out
  go_wp2_with fail
  obtain ⟨g0, g1, g2, g3, g4, g5, g6, g7⟩ := put8 R.out (.int .u8 (byt y 0)) (.int .u8 (byt y 1)) (.int .u8 (byt y 2)) (.int .u8 (byt y 3)) (.int .u8 (byt y 4)) (.int .u8 (byt y 5)) (.int .u8 (byt y 6)) (.int .u8 (byt y 7))
  refine bodyPost_ret (v := digV y) (by unfold digV; simp only [results, Tryd.results26]; simp [go_sem, g0, g1, g2, g3, g4, g5, g6, g7]) rfl ⟨by unfold digV; rfl, bel8 B.out (Nat.le_refl _) (by omega) _ _ _ _ _ _ _ _⟩
#print axioms rootm_c

set_option maxRecDepth 100000 in
set_option maxHeartbeats 1000000 in
theorem rootm_nil (w : World) : Calls Tryd.prog 26 #[.pointer none] w (Hands (digV 0) w) := by
  go_enter Tryd.func26, Tryd.ntmps26
  go_wp2_with fail
  refine (len_nil _).mono ?_
  rintro e w1 ⟨rfl, rfl⟩
  go_wp2_with fail
  refine (height_c _ 0 (by omega)).mono ?_
  rw [show heightI 0 = -1 from rfl]
  rintro e w1 ⟨rfl, rfl⟩
  have R := Lib.hid (heap_alloc_newest (w := w) (x := .cells #[.int .u8 0, .int .u8 0, .int .u8 0, .int .u8 0, .int .u8 0, .int .u8 0, .int .u8 0, .int .u8 0] 26) rfl)
  obtain ⟨c0, c1, c2, c3, c4, c5, c6, c7, f0, f1, f2, f3, f4, f5, f6, f7⟩ := full8 R.out
  go_wp2_with fail
  refine bodyPost_ret (v := .agg #[.int .u8 0, .int .u8 0, .int .u8 0, .int .u8 0, .int .u8 0, .int .u8 0, .int .u8 0, .int .u8 0]) (by simp only [results, Tryd.results26]; simp [go_sem, c0, c1, c2, c3, c4, c5, c6, c7]) rfl ⟨by rw [dig_zero], ?_⟩
  exact ext_alloc _ _
#print axioms rootm_nil

end Go.Proofs.YtbejjmmopdcjoaaDoor
