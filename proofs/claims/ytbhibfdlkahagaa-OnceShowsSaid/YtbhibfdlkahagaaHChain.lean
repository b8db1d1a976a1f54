/-
  hash: Chain, and the document's: contracts.
-/
import Derived.Test.YtbhibfdlkahagaaHDigR
namespace Go.Proofs.Ytbhibfdlkahagaa
open Go.RowKit

theorem set8 {w : World} {b : Nat} {T : TypeId} {x0 x1 x2 x3 x4 x5 x6 x7 : Value} (h : w.heap[b]? = some (.cells #[x0, x1, x2, x3, x4, x5, x6, x7] T (0, 0))) (y0 y1 y2 y3 y4 y5 y6 y7 : Value) :
    ((World.setCell (World.setCell (World.setCell (World.setCell (World.setCell (World.setCell (World.setCell (World.setCell w ⟨b, 0, none⟩ y0) ⟨b, 1, none⟩ y1) ⟨b, 2, none⟩ y2) ⟨b, 3, none⟩ y3) ⟨b, 4, none⟩ y4) ⟨b, 5, none⟩ y5) ⟨b, 6, none⟩ y6) ⟨b, 7, none⟩ y7)).heap[b]? = some (.cells #[y0, y1, y2, y3, y4, y5, y6, y7] T (0, 0)) := by
  have h0 : ((World.setCell w ⟨b, 0, none⟩ y0)).heap[b]? = some (.cells #[y0, x1, x2, x3, x4, x5, x6, x7] T (0, 0)) := heap_set_same (j := 0) y0 h
  have h1 : ((World.setCell (World.setCell w ⟨b, 0, none⟩ y0) ⟨b, 1, none⟩ y1)).heap[b]? = some (.cells #[y0, y1, x2, x3, x4, x5, x6, x7] T (0, 0)) := heap_set_same (j := 1) y1 h0
  have h2 : ((World.setCell (World.setCell (World.setCell w ⟨b, 0, none⟩ y0) ⟨b, 1, none⟩ y1) ⟨b, 2, none⟩ y2)).heap[b]? = some (.cells #[y0, y1, y2, x3, x4, x5, x6, x7] T (0, 0)) := heap_set_same (j := 2) y2 h1
  have h3 : ((World.setCell (World.setCell (World.setCell (World.setCell w ⟨b, 0, none⟩ y0) ⟨b, 1, none⟩ y1) ⟨b, 2, none⟩ y2) ⟨b, 3, none⟩ y3)).heap[b]? = some (.cells #[y0, y1, y2, y3, x4, x5, x6, x7] T (0, 0)) := heap_set_same (j := 3) y3 h2
  have h4 : ((World.setCell (World.setCell (World.setCell (World.setCell (World.setCell w ⟨b, 0, none⟩ y0) ⟨b, 1, none⟩ y1) ⟨b, 2, none⟩ y2) ⟨b, 3, none⟩ y3) ⟨b, 4, none⟩ y4)).heap[b]? = some (.cells #[y0, y1, y2, y3, y4, x5, x6, x7] T (0, 0)) := heap_set_same (j := 4) y4 h3
  have h5 : ((World.setCell (World.setCell (World.setCell (World.setCell (World.setCell (World.setCell w ⟨b, 0, none⟩ y0) ⟨b, 1, none⟩ y1) ⟨b, 2, none⟩ y2) ⟨b, 3, none⟩ y3) ⟨b, 4, none⟩ y4) ⟨b, 5, none⟩ y5)).heap[b]? = some (.cells #[y0, y1, y2, y3, y4, y5, x6, x7] T (0, 0)) := heap_set_same (j := 5) y5 h4
  have h6 : ((World.setCell (World.setCell (World.setCell (World.setCell (World.setCell (World.setCell (World.setCell w ⟨b, 0, none⟩ y0) ⟨b, 1, none⟩ y1) ⟨b, 2, none⟩ y2) ⟨b, 3, none⟩ y3) ⟨b, 4, none⟩ y4) ⟨b, 5, none⟩ y5) ⟨b, 6, none⟩ y6)).heap[b]? = some (.cells #[y0, y1, y2, y3, y4, y5, y6, x7] T (0, 0)) := heap_set_same (j := 6) y6 h5
  have h7 : ((World.setCell (World.setCell (World.setCell (World.setCell (World.setCell (World.setCell (World.setCell (World.setCell w ⟨b, 0, none⟩ y0) ⟨b, 1, none⟩ y1) ⟨b, 2, none⟩ y2) ⟨b, 3, none⟩ y3) ⟨b, 4, none⟩ y4) ⟨b, 5, none⟩ y5) ⟨b, 6, none⟩ y6) ⟨b, 7, none⟩ y7)).heap[b]? = some (.cells #[y0, y1, y2, y3, y4, y5, y6, y7] T (0, 0)) := heap_set_same (j := 7) y7 h6
  exact h7
theorem oth8 {w : World} {b c : Nat} {o : Option Obj} (hne : c ≠ b) (hc : w.heap[c]? = o) (y0 y1 y2 y3 y4 y5 y6 y7 : Value) : ((World.setCell (World.setCell (World.setCell (World.setCell (World.setCell (World.setCell (World.setCell (World.setCell w ⟨b, 0, none⟩ y0) ⟨b, 1, none⟩ y1) ⟨b, 2, none⟩ y2) ⟨b, 3, none⟩ y3) ⟨b, 4, none⟩ y4) ⟨b, 5, none⟩ y5) ⟨b, 6, none⟩ y6) ⟨b, 7, none⟩ y7)).heap[c]? = o := (heap_set_other _ hne (heap_set_other _ hne (heap_set_other _ hne (heap_set_other _ hne (heap_set_other _ hne (heap_set_other _ hne (heap_set_other _ hne (heap_set_other _ hne hc))))))))

def chainN (n : Nat) : Nat → Nat
  | 0 => n
  | k + 1 => oneN (chainN n k)
theorem chainN_lt {n : Nat} (h : n < 18446744073709551616) : ∀ k, chainN n k < 18446744073709551616
  | 0 => h
  | k + 1 => oneN_lt (chainN_lt h k)
/-- a chain of so many steps, whatever number it is -/
def chainI (n : Nat) (K : Int) : Nat := if 1 ≤ K ∧ K ≤ 1048576 then chainN n K.toNat else n
theorem chainI_lt {n : Nat} (h : n < 18446744073709551616) (K : Int) : chainI n K < 18446744073709551616 := by
  unfold chainI; split
  · exact chainN_lt h _
  · exact h
set_option maxRecDepth 100000 in
set_option maxHeartbeats 1000000 in
theorem chain_c (w : World) (n : Nat) (hn : n < 18446744073709551616) (K : Int) : Calls Try.prog 39 #[digV n, .int .i64 K] w (Hands (digV (chainI n K)) w) := by
  obtain ⟨X, hX⟩ : ∃ X, X = chainI n K := ⟨_, rfl⟩
  rw [← hX]
  have HX := Lib.hid hX
  clear hX
  by_cases hk : 1 ≤ K ∧ K ≤ 1048576
  · obtain ⟨N, rfl⟩ : ∃ N : Nat, K = N := ⟨K.toNat, by omega⟩
    have hN1 : 1 ≤ N := by omega
    have hN2 : N ≤ 1048576 := by omega
    have HX2 : Hid (X = chainN n N) := by
      have := HX.out
      unfold chainI at this
      rw [if_pos hk] at this
      exact this
    have k1 : ¬ (N : Int) < 1 := by omega
    have k2 : ¬ (1048576 : Int) < (N : Int) := by omega
    clear hk HX
    unfold digV
    go_enter Try.func39, Try.ntmps39
    go_wp2_with fail
    go_loopw [13] (fun iv wr => ∃ (k z : Nat), k ≤ N ∧ iv = .int .i64 k ∧ z < 18446744073709551616 ∧ Hid (z = chainN n k) ∧ Hid (wr.heap[w.heap.size]? = some (.cells #[.int .u8 (byt z 0), .int .u8 (byt z 1), .int .u8 (byt z 2), .int .u8 (byt z 3), .int .u8 (byt z 4), .int .u8 (byt z 5), .int .u8 (byt z 6), .int .u8 (byt z 7)] 31 (0, 0))) ∧ Hid (wr.heap[w.heap.size + 1]? = some (.cells #[.int .u8 0, .int .u8 0, .int .u8 0, .int .u8 0, .int .u8 0, .int .u8 0, .int .u8 0, .int .u8 0] 31 (0, 0))) ∧ Hid (Below w.heap.size w wr)) (fun iv _ => N - (intOf iv).toNat)
    case atStart => exact ⟨0, n, Nat.zero_le _, rfl, hn, rfl, keepA (Go.heap_alloc_new w _), heap_alloc_newest (w := World.alloc _ _) (by simp), ext_trans (ext_alloc _ _) (ext_alloc _ _)⟩
    case round =>
      obtain ⟨k, z, hk, rfl, hz, HZ, D, R, B⟩ := hrel
      obtain ⟨d0, d1, d2, d3, d4, d5, d6, d7, _, _, _, _, _, _, _, _⟩ := full8 D.out
      by_cases hlt : k < N
      · go_wp2_with fail
        refine (one_c _ z hz).mono ?_
        obtain ⟨y, hy⟩ : ∃ y, y = oneN z := ⟨_, rfl⟩
        rw [← hy]
        have HY : Hid (y = chainN n (k + 1)) := by show y = oneN (chainN n k); rw [← HZ.out]; exact hy
        have Ly : y < 18446744073709551616 := by rw [hy]; exact oneN_lt hz
        clear hy
        unfold digV
        rintro e w2 ⟨rfl, hb⟩
        replace D := Lib.hid (keepB hb D.out)
        replace R := Lib.hid (keepB hb R.out)
        replace B := Lib.hid (ext_trans B.out hb)
        obtain ⟨c0, c1, c2, c3, c4, c5, c6, c7, f0, f1, f2, f3, f4, f5, f6, f7⟩ := full8 D.out
        clear hb d0 d1 d2 d3 d4 d5 d6 d7
        go_wp2_with fail
        exact ⟨⟨k + 1, y, by omega, by go_num, Ly, HY, set8 D.out _ _ _ _ _ _ _ _, oth8 (by omega) R.out _ _ _ _ _ _ _ _, bel8 B.out (Nat.le_refl _) (Nat.le_refl _) _ _ _ _ _ _ _ _⟩, by simp [intOf]; omega⟩
      · obtain rfl : k = N := by omega
        obtain ⟨c0, c1, c2, c3, c4, c5, c6, c7, f0, f1, f2, f3, f4, f5, f6, f7⟩ := full8 R.out
        have e : z = X := by rw [HZ.out, HX2.out]
        clear HZ HX2
        subst e
        go_wp2_with fail
        obtain ⟨g0, g1, g2, g3, g4, g5, g6, g7⟩ := put8 R.out (.int .u8 (byt z 0)) (.int .u8 (byt z 1)) (.int .u8 (byt z 2)) (.int .u8 (byt z 3)) (.int .u8 (byt z 4)) (.int .u8 (byt z 5)) (.int .u8 (byt z 6)) (.int .u8 (byt z 7))
        refine bodyPost_ret (v := digV z) (by unfold digV; simp only [results, Try.results39]; simp [go_sem, g0, g1, g2, g3, g4, g5, g6, g7]) rfl ⟨by unfold digV; rfl, bel8 B.out (Nat.le_refl _) (by omega) _ _ _ _ _ _ _ _⟩
  · by_cases hk1 : K < 1
    · have hX' : X = n := by have := HX.out; unfold chainI at this; rw [if_neg hk] at this; exact this
      clear HX hk
      subst hX'
      unfold digV
      go_enter Try.func39, Try.ntmps39
      go_wp2_with fail
      refine bodyPost_ret (v := digV X) (by unfold digV; simp [results, Try.results39, go_sem]) rfl ⟨by unfold digV; rfl, ext_trans (ext_alloc _ _) (ext_alloc _ _)⟩
    · have hk2 : (1048576 : Int) < K := by omega
      have hX' : X = n := by have := HX.out; unfold chainI at this; rw [if_neg hk] at this; exact this
      clear HX hk
      subst hX'
      unfold digV
      go_enter Try.func39, Try.ntmps39
      go_wp2_with fail
      refine bodyPost_ret (v := digV X) (by unfold digV; simp [results, Try.results39, go_sem]) rfl ⟨by unfold digV; rfl, ext_trans (ext_alloc _ _) (ext_alloc _ _)⟩

set_option maxRecDepth 100000 in
set_option maxHeartbeats 1000000 in
theorem rchain_c (w : World) (n : Nat) (hn : n < 18446744073709551616) (K : Int) : Calls Try.prog 61 #[digV n, .int .i64 K] w (Hands (digV (chainI n K)) w) := by
  obtain ⟨X, hX⟩ : ∃ X, X = chainI n K := ⟨_, rfl⟩
  rw [← hX]
  have HX := Lib.hid hX
  clear hX
  by_cases hk : 1 ≤ K ∧ K ≤ 1048576
  · obtain ⟨N, rfl⟩ : ∃ N : Nat, K = N := ⟨K.toNat, by omega⟩
    have hN1 : 1 ≤ N := by omega
    have hN2 : N ≤ 1048576 := by omega
    have HX2 : Hid (X = chainN n N) := by
      have := HX.out
      unfold chainI at this
      rw [if_pos hk] at this
      exact this
    have k1 : ¬ (N : Int) < 1 := by omega
    have k2 : ¬ (1048576 : Int) < (N : Int) := by omega
    clear hk HX
    unfold digV
    go_enter Try.func61, Try.ntmps61
    go_wp2_with fail
    go_loopw [5] (fun iv wr => ∃ (k z : Nat), k ≤ N ∧ iv = .int .i64 k ∧ z < 18446744073709551616 ∧ Hid (z = chainN n k) ∧ Hid (wr.heap[w.heap.size]? = some (.cells #[.int .u8 (byt z 0), .int .u8 (byt z 1), .int .u8 (byt z 2), .int .u8 (byt z 3), .int .u8 (byt z 4), .int .u8 (byt z 5), .int .u8 (byt z 6), .int .u8 (byt z 7)] 30 (0, 0))) ∧ Hid (wr.heap[w.heap.size + 1]? = some (.cells #[.int .u8 0, .int .u8 0, .int .u8 0, .int .u8 0, .int .u8 0, .int .u8 0, .int .u8 0, .int .u8 0] 30 (0, 0))) ∧ Hid (Below w.heap.size w wr)) (fun iv _ => N - (intOf iv).toNat)
    case atStart => exact ⟨0, n, Nat.zero_le _, rfl, hn, rfl, keepA (Go.heap_alloc_new w _), heap_alloc_newest (w := World.alloc _ _) (by simp), ext_trans (ext_alloc _ _) (ext_alloc _ _)⟩
    case round =>
      obtain ⟨k, z, hk, rfl, hz, HZ, D, R, B⟩ := hrel
      obtain ⟨d0, d1, d2, d3, d4, d5, d6, d7, _, _, _, _, _, _, _, _⟩ := full8 D.out
      by_cases hlt : k < N
      · go_wp2_with fail
        refine (rone_c _ z hz).mono ?_
        obtain ⟨y, hy⟩ : ∃ y, y = oneN z := ⟨_, rfl⟩
        rw [← hy]
        have HY : Hid (y = chainN n (k + 1)) := by show y = oneN (chainN n k); rw [← HZ.out]; exact hy
        have Ly : y < 18446744073709551616 := by rw [hy]; exact oneN_lt hz
        clear hy
        unfold digV
        rintro e w2 ⟨rfl, hb⟩
        replace D := Lib.hid (keepB hb D.out)
        replace R := Lib.hid (keepB hb R.out)
        replace B := Lib.hid (ext_trans B.out hb)
        obtain ⟨c0, c1, c2, c3, c4, c5, c6, c7, f0, f1, f2, f3, f4, f5, f6, f7⟩ := full8 D.out
        clear hb d0 d1 d2 d3 d4 d5 d6 d7
        go_wp2_with fail
        exact ⟨⟨k + 1, y, by omega, by go_num, Ly, HY, set8 D.out _ _ _ _ _ _ _ _, oth8 (by omega) R.out _ _ _ _ _ _ _ _, bel8 B.out (Nat.le_refl _) (Nat.le_refl _) _ _ _ _ _ _ _ _⟩, by simp [intOf]; omega⟩
      · obtain rfl : k = N := by omega
        obtain ⟨c0, c1, c2, c3, c4, c5, c6, c7, f0, f1, f2, f3, f4, f5, f6, f7⟩ := full8 R.out
        have e : z = X := by rw [HZ.out, HX2.out]
        clear HZ HX2
        subst e
        go_wp2_with fail
        obtain ⟨g0, g1, g2, g3, g4, g5, g6, g7⟩ := put8 R.out (.int .u8 (byt z 0)) (.int .u8 (byt z 1)) (.int .u8 (byt z 2)) (.int .u8 (byt z 3)) (.int .u8 (byt z 4)) (.int .u8 (byt z 5)) (.int .u8 (byt z 6)) (.int .u8 (byt z 7))
        refine bodyPost_ret (v := digV z) (by unfold digV; simp only [results, Try.results61]; simp [go_sem, g0, g1, g2, g3, g4, g5, g6, g7]) rfl ⟨by unfold digV; rfl, bel8 B.out (Nat.le_refl _) (by omega) _ _ _ _ _ _ _ _⟩
  · by_cases hk1 : K < 1
    · have hX' : X = n := by have := HX.out; unfold chainI at this; rw [if_neg hk] at this; exact this
      clear HX hk
      subst hX'
      unfold digV
      go_enter Try.func61, Try.ntmps61
      go_wp2_with fail
      have kk : ¬ (0 : Int) < K := by omega
      go_rounds 1
      refine bodyPost_ret (v := digV X) (by unfold digV; simp [results, Try.results61, go_sem]) rfl ⟨by unfold digV; rfl, ext_trans (ext_alloc _ _) (ext_alloc _ _)⟩
    · have hk2 : (1048576 : Int) < K := by omega
      have hX' : X = n := by have := HX.out; unfold chainI at this; rw [if_neg hk] at this; exact this
      clear HX hk
      subst hX'
      unfold digV
      go_enter Try.func61, Try.ntmps61
      go_wp2_with fail
      refine bodyPost_ret (v := digV X) (by unfold digV; simp [results, Try.results61, go_sem]) rfl ⟨by unfold digV; rfl, ext_trans (ext_alloc _ _) (ext_alloc _ _)⟩
#print axioms rchain_c
#print axioms chain_c
end Go.Proofs.Ytbhibfdlkahagaa
