/-
  tree: the document's name, node, Root: contracts.
-/
import Derived.Test.YtbejjmmopdcjoaaDoorTRow
import Derived.Test.YtbejjmmopdcjoaaDoorTBits
namespace Go.Proofs.YtbejjmmopdcjoaaDoor
open Go.RowKit Go.Deep

theorem cells8r {v u : World} {b p : Nat} {x0 x1 x2 x3 x4 x5 x6 x7 : Value} (hC : Below v.heap.size v u) (hb : b < v.heap.size) (h : v.cell? ⟨b, p, none⟩ = some x0 ∧ v.cell? ⟨b, p + 1, none⟩ = some x1 ∧ v.cell? ⟨b, p + 2, none⟩ = some x2 ∧ v.cell? ⟨b, p + 3, none⟩ = some x3 ∧ v.cell? ⟨b, p + 4, none⟩ = some x4 ∧ v.cell? ⟨b, p + 5, none⟩ = some x5 ∧ v.cell? ⟨b, p + 6, none⟩ = some x6 ∧ v.cell? ⟨b, p + 7, none⟩ = some x7) : u.cell? ⟨b, p, none⟩ = some x0 ∧ u.cell? ⟨b, p + 1, none⟩ = some x1 ∧ u.cell? ⟨b, p + 2, none⟩ = some x2 ∧ u.cell? ⟨b, p + 3, none⟩ = some x3 ∧ u.cell? ⟨b, p + 4, none⟩ = some x4 ∧ u.cell? ⟨b, p + 5, none⟩ = some x5 ∧ u.cell? ⟨b, p + 6, none⟩ = some x6 ∧ u.cell? ⟨b, p + 7, none⟩ = some x7 :=
  ⟨(hC.cell (p := ⟨b, p, none⟩) hb).trans h.1, (hC.cell (p := ⟨b, p + 1, none⟩) hb).trans h.2.1, (hC.cell (p := ⟨b, p + 2, none⟩) hb).trans h.2.2.1, (hC.cell (p := ⟨b, p + 3, none⟩) hb).trans h.2.2.2.1, (hC.cell (p := ⟨b, p + 4, none⟩) hb).trans h.2.2.2.2.1, (hC.cell (p := ⟨b, p + 5, none⟩) hb).trans h.2.2.2.2.2.1, (hC.cell (p := ⟨b, p + 6, none⟩) hb).trans h.2.2.2.2.2.2.1, (hC.cell (p := ⟨b, p + 7, none⟩) hb).trans h.2.2.2.2.2.2.2⟩
set_option maxRecDepth 100000 in
set_option maxHeartbeats 2000000 in
theorem rname_c (w : World) (h : Nat) (hh : h ≤ 12) : Calls Tryd.prog 34 #[.int .i64 h] w (fun e w' => ∃ rs : ByteArray, e = .returned (.string rs) ∧ rs.data.toList = rootB h ∧ Below w.heap.size w w') := by
  have hc : h = 0 ∨ h = 1 ∨ h = 2 ∨ h = 3 ∨ h = 4 ∨ h = 5 ∨ h = 6 ∨ h = 7 ∨ h = 8 ∨ h = 9 ∨ h = 10 ∨ h = 11 ∨ h = 12 := by omega
  clear hh
  have TX : ∀ (d : UInt8) (m : Nat), m = d.toNat → (convert 93 9 (.slice (some ⟨w.heap.size, 0, none⟩) 1 1)).run Tryd.prog (w.alloc (.cells #[.int .u8 (m : Int)] 5)) = .ok (.string ⟨#[d]⟩) (w.alloc (.cells #[.int .u8 (m : Int)] 5)) := fun d m hm => by
    subst hm
    exact (Rd.lit (w := w) (E := 5) (n := 1) (bs := [d]) (vs := #[.int .u8 (d.toNat : Int)]) rfl rfl (by omega)).text Tryd.underlying93 Tryd.underlying5 Tryd.underlying9
  rcases hc with rfl | rfl | rfl | rfl | rfl | rfl | rfl | rfl | rfl | rfl | rfl | rfl | rfl
  · have T1 := TX 48 48 rfl
    clear TX
    simp only [Int.cast_ofNat_Int] at T1
    go_enter Tryd.func34, Tryd.ntmps34
    go_wp2_with fail
    go_ret
    exact ⟨_, rfl, rfl, ext_alloc _ _⟩
  · have T1 := TX 49 49 rfl
    clear TX
    simp only [Int.cast_ofNat_Int] at T1
    go_enter Tryd.func34, Tryd.ntmps34
    go_wp2_with fail
    go_ret
    exact ⟨_, rfl, rfl, ext_alloc _ _⟩
  · have T1 := TX 50 50 rfl
    clear TX
    simp only [Int.cast_ofNat_Int] at T1
    go_enter Tryd.func34, Tryd.ntmps34
    go_wp2_with fail
    go_ret
    exact ⟨_, rfl, rfl, ext_alloc _ _⟩
  · have T1 := TX 51 51 rfl
    clear TX
    simp only [Int.cast_ofNat_Int] at T1
    go_enter Tryd.func34, Tryd.ntmps34
    go_wp2_with fail
    go_ret
    exact ⟨_, rfl, rfl, ext_alloc _ _⟩
  · have T1 := TX 52 52 rfl
    clear TX
    simp only [Int.cast_ofNat_Int] at T1
    go_enter Tryd.func34, Tryd.ntmps34
    go_wp2_with fail
    go_ret
    exact ⟨_, rfl, rfl, ext_alloc _ _⟩
  · have T1 := TX 53 53 rfl
    clear TX
    simp only [Int.cast_ofNat_Int] at T1
    go_enter Tryd.func34, Tryd.ntmps34
    go_wp2_with fail
    go_ret
    exact ⟨_, rfl, rfl, ext_alloc _ _⟩
  · have T1 := TX 54 54 rfl
    clear TX
    simp only [Int.cast_ofNat_Int] at T1
    go_enter Tryd.func34, Tryd.ntmps34
    go_wp2_with fail
    go_ret
    exact ⟨_, rfl, rfl, ext_alloc _ _⟩
  · have T1 := TX 55 55 rfl
    clear TX
    simp only [Int.cast_ofNat_Int] at T1
    go_enter Tryd.func34, Tryd.ntmps34
    go_wp2_with fail
    go_ret
    exact ⟨_, rfl, rfl, ext_alloc _ _⟩
  · have T1 := TX 56 56 rfl
    clear TX
    simp only [Int.cast_ofNat_Int] at T1
    go_enter Tryd.func34, Tryd.ntmps34
    go_wp2_with fail
    go_ret
    exact ⟨_, rfl, rfl, ext_alloc _ _⟩
  · have T1 := TX 57 57 rfl
    clear TX
    simp only [Int.cast_ofNat_Int] at T1
    go_enter Tryd.func34, Tryd.ntmps34
    go_wp2_with fail
    go_ret
    exact ⟨_, rfl, rfl, ext_alloc _ _⟩
  · have T1 := TX 48 48 rfl
    clear TX
    simp only [Int.cast_ofNat_Int] at T1
    go_enter Tryd.func34, Tryd.ntmps34
    go_wp2_with fail
    go_ret
    exact ⟨_, rfl, rfl, ext_alloc _ _⟩
  · have T1 := TX 49 49 rfl
    clear TX
    simp only [Int.cast_ofNat_Int] at T1
    go_enter Tryd.func34, Tryd.ntmps34
    go_wp2_with fail
    go_ret
    exact ⟨_, rfl, rfl, ext_alloc _ _⟩
  · have T1 := TX 50 50 rfl
    clear TX
    simp only [Int.cast_ofNat_Int] at T1
    go_enter Tryd.func34, Tryd.ntmps34
    go_wp2_with fail
    go_ret
    exact ⟨_, rfl, rfl, ext_alloc _ _⟩
#print axioms rname_c

set_option maxRecDepth 100000 in
set_option maxHeartbeats 2000000 in
theorem rnode_c (A : Option Addr) (n c : Nat) (l : List Nat) : ∀ (lv : Nat) (w : World) (k : Nat) (_ : Hid (RdD w A n c l)) (_ : (k + 1) * 2 ^ lv ≤ 1000000000000), Calls Tryd.prog 33 #[.slice A n c, .int .i64 lv, .int .i64 k] w (Hands (digV (nd l lv k)) w)
  | 0, w, k, h, hk => by
    have hle := h.out.le
    have hmx := h.out.max
    have HL := Lib.hid h.out.len
    have HSm : Hid (Small l) := h.out.small
    have hk2 : k < 1000000000000 := by rw [Nat.pow_zero, Nat.mul_one] at hk; omega
    clear hk
    obtain ⟨y, hy⟩ : ∃ y, y = nd l 0 k := ⟨_, rfl⟩
    have HY := Lib.hid hy
    rw [← hy]
    clear hy
    by_cases hkn : k < n
    · obtain ⟨x, hx⟩ : ∃ x, x = l.getD k 0 := ⟨_, rfl⟩
      have lx : x < 18446744073709551616 := by rw [hx]; exact small_getD HSm.out _
      have HY2 : Hid (lowN x = y) := by show _ = _; rw [HY.out]; unfold nd; rw [if_pos (by rw [HL.out]; exact hkn), ← hx]
      obtain ⟨b, o, rfl, hb, hc⟩ := h.out.at hkn
      rw [← hx] at hc
      obtain ⟨c0, c1, c2, c3, c4, c5, c6, c7⟩ := cells8r (ext_alloc w (.cells #[.int .u8 0, .int .u8 0, .int .u8 0, .int .u8 0, .int .u8 0, .int .u8 0, .int .u8 0, .int .u8 0] 25)) hb hc
      have gI : (k : Int) < (n : Int) := by omega
      have gI0 : (0 : Int) ≤ (k : Int) := by omega
      clear hc hx
      unfold digV
      go_enter Tryd.func33, Tryd.ntmps33
      go_wp2_with fail
      rw [← show digV x = .agg #[.int .u8 (byt x 0), .int .u8 (byt x 1), .int .u8 (byt x 2), .int .u8 (byt x 3), .int .u8 (byt x 4), .int .u8 (byt x 5), .int .u8 (byt x 6), .int .u8 (byt x 7)] from rfl]
      refine (rlow_c _ x lx).mono ?_
      rw [HY2.out]
      unfold digV
      rintro e w1 ⟨rfl, hb1⟩
      have R := Lib.hid (keepB (b := w.heap.size) hb1 (heap_alloc_newest (w := w) rfl))
      have B := Lib.hid (ext_trans (ext_alloc _ _) hb1)
      have z1 : w.heap.size < w1.heap.size := (Array.getElem?_eq_some_iff.1 R.out).1
      clear hb1 c0 c1 c2 c3 c4 c5 c6 c7
      obtain ⟨c0, c1, c2, c3, c4, c5, c6, c7, f0, f1, f2, f3, f4, f5, f6, f7⟩ := full8 R.out
      go_wp2_with fail
      obtain ⟨g0, g1, g2, g3, g4, g5, g6, g7⟩ := put8 R.out (.int .u8 (byt y 0)) (.int .u8 (byt y 1)) (.int .u8 (byt y 2)) (.int .u8 (byt y 3)) (.int .u8 (byt y 4)) (.int .u8 (byt y 5)) (.int .u8 (byt y 6)) (.int .u8 (byt y 7))
      refine bodyPost_ret (v := digV y) (by unfold digV; simp only [results, Tryd.results33]; simp [go_sem, g0, g1, g2, g3, g4, g5, g6, g7]) rfl ⟨by unfold digV; rfl, bel8 B.out (Nat.le_refl _) (by omega) _ _ _ _ _ _ _ _⟩
    · have HY2 : Hid (lackT = y) := by show _ = _; rw [HY.out]; unfold nd; rw [if_neg (by rw [HL.out]; exact hkn)]
      have gI : ¬ (k : Int) < (n : Int) := by omega
      unfold digV
      go_enter Tryd.func33, Tryd.ntmps33
      go_wp2_with fail
      refine (rlack_c _).mono ?_
      rw [HY2.out]
      unfold digV
      rintro e w1 ⟨rfl, hb1⟩
      have R := Lib.hid (keepB (b := w.heap.size) hb1 (heap_alloc_newest (w := w) rfl))
      have B := Lib.hid (ext_trans (ext_alloc _ _) hb1)
      have z1 : w.heap.size < w1.heap.size := (Array.getElem?_eq_some_iff.1 R.out).1
      clear hb1
      obtain ⟨c0, c1, c2, c3, c4, c5, c6, c7, f0, f1, f2, f3, f4, f5, f6, f7⟩ := full8 R.out
      go_wp2_with fail
      obtain ⟨g0, g1, g2, g3, g4, g5, g6, g7⟩ := put8 R.out (.int .u8 (byt y 0)) (.int .u8 (byt y 1)) (.int .u8 (byt y 2)) (.int .u8 (byt y 3)) (.int .u8 (byt y 4)) (.int .u8 (byt y 5)) (.int .u8 (byt y 6)) (.int .u8 (byt y 7))
      refine bodyPost_ret (v := digV y) (by unfold digV; simp only [results, Tryd.results33]; simp [go_sem, g0, g1, g2, g3, g4, g5, g6, g7]) rfl ⟨by unfold digV; rfl, bel8 B.out (Nat.le_refl _) (by omega) _ _ _ _ _ _ _ _⟩
  | lv + 1, w, k, h, hk => by
    have HSm : Hid (Small l) := h.out.small
    have hk2 : (2 * k + 1 + 1) * 2 ^ lv ≤ 1000000000000 := by
      rw [pow_more] at hk
      rw [show 2 * k + 1 + 1 = (k + 1) * 2 by omega, Nat.mul_assoc]
      exact hk
    have hk3 : (2 * k + 1) * 2 ^ lv ≤ 1000000000000 := Nat.le_trans (Nat.mul_le_mul_right _ (by omega)) hk2
    have hk4 : 2 * k + 2 ≤ 1000000000000 := Nat.le_trans (Nat.le_mul_of_pos_right _ (Nat.pow_pos (by omega))) hk2
    have hlv : lv < 1000000000000 := by
      have h1 : 2 ^ lv ≤ (2 * k + 1 + 1) * 2 ^ lv := Nat.le_mul_of_pos_left _ (by omega)
      have h2 := Nat.lt_two_pow_self (n := lv)
      omega
    obtain ⟨p, hp⟩ : ∃ p, p = 2 * k := ⟨_, rfl⟩
    obtain ⟨q, hq⟩ : ∃ q, q = 2 * k + 1 := ⟨_, rfl⟩
    obtain ⟨lw, hlw⟩ : ∃ lw, lw = lv + 1 := ⟨_, rfl⟩
    have IH1 := Lib.hid (fun v hv => rnode_c A n c l lv v p hv (by rw [hp]; exact hk3))
    have IH2 := Lib.hid (fun v hv => rnode_c A n c l lv v q hv (by rw [hq]; exact hk2))
    obtain ⟨x, hx⟩ : ∃ x, x = nd l lv p := ⟨_, rfl⟩
    obtain ⟨x', hx'⟩ : ∃ x', x' = nd l lv q := ⟨_, rfl⟩
    have lx : x < 18446744073709551616 := by rw [hx]; exact nd_lt HSm.out _ _
    have lx' : x' < 18446744073709551616 := by rw [hx']; exact nd_lt HSm.out _ _
    obtain ⟨y, hy⟩ : ∃ y, y = nd l (lv + 1) k := ⟨_, rfl⟩
    have HY : Hid (twoN x x' = y) := by show _ = _; rw [hy, hx, hx', hp, hq]; rfl
    rw [← hy]
    rw [← hx] at IH1
    rw [← hx'] at IH2
    rw [← hlw]
    have w1 : IntKind.i64.wrap (2 * (k : Int)) = (p : Int) := by rw [IntKind.wrap_i64]; omega
    have w2 : IntKind.i64.wrap ((p : Int) + 1) = (q : Int) := by rw [IntKind.wrap_i64]; omega
    have w3 : IntKind.i64.wrap ((lw : Int) - 1) = (lv : Int) := by rw [IntKind.wrap_i64]; omega
    have w4 : (lw : Int) - 1 = (lv : Int) := by omega
    have w5 : 2 * (k : Int) = (p : Int) := by omega
    have w6 : (p : Int) + 1 = (q : Int) := by omega
    have gl : ¬ (lw : Int) = 0 := by omega
    clear hp hq hx hx' hy hlw hk hk2 hk3
    unfold digV
    go_enter Tryd.func33, Tryd.ntmps33
    go_wp2_with fail
    refine (IH1.out _ (Lib.hid (h.out.ext (ext_alloc _ _)))).mono ?_
    unfold digV
    rintro e v1 ⟨rfl, hb1⟩
    have R := Lib.hid (keepB (b := w.heap.size) hb1 (heap_alloc_newest (w := w) rfl))
    have B := Lib.hid (ext_trans (ext_alloc w (.cells #[.int .u8 0, .int .u8 0, .int .u8 0, .int .u8 0, .int .u8 0, .int .u8 0, .int .u8 0, .int .u8 0] 25)) hb1)
    clear hb1
    go_wp2_with fail
    refine (IH2.out _ (Lib.hid (h.out.ext B.out))).mono ?_
    unfold digV
    rintro e v2 ⟨rfl, hb1⟩
    replace R := Lib.hid (keepB hb1 R.out)
    replace B := Lib.hid (ext_trans B.out hb1)
    clear hb1
    go_wp2_with fail
    rw [← show digV x = .agg #[.int .u8 (byt x 0), .int .u8 (byt x 1), .int .u8 (byt x 2), .int .u8 (byt x 3), .int .u8 (byt x 4), .int .u8 (byt x 5), .int .u8 (byt x 6), .int .u8 (byt x 7)] from rfl, ← show digV x' = .agg #[.int .u8 (byt x' 0), .int .u8 (byt x' 1), .int .u8 (byt x' 2), .int .u8 (byt x' 3), .int .u8 (byt x' 4), .int .u8 (byt x' 5), .int .u8 (byt x' 6), .int .u8 (byt x' 7)] from rfl]
    refine (rtwo_c _ x x' lx lx').mono ?_
    rw [HY.out]
    unfold digV
    rintro e v3 ⟨rfl, hb1⟩
    replace R := Lib.hid (keepB hb1 R.out)
    replace B := Lib.hid (ext_trans B.out hb1)
    have z1 : w.heap.size < v3.heap.size := (Array.getElem?_eq_some_iff.1 R.out).1
    clear hb1
    obtain ⟨c0, c1, c2, c3, c4, c5, c6, c7, f0, f1, f2, f3, f4, f5, f6, f7⟩ := full8 R.out
    go_wp2_with fail
    obtain ⟨g0, g1, g2, g3, g4, g5, g6, g7⟩ := put8 R.out (.int .u8 (byt y 0)) (.int .u8 (byt y 1)) (.int .u8 (byt y 2)) (.int .u8 (byt y 3)) (.int .u8 (byt y 4)) (.int .u8 (byt y 5)) (.int .u8 (byt y 6)) (.int .u8 (byt y 7))
    refine bodyPost_ret (v := digV y) (by unfold digV; simp only [results, Tryd.results33]; simp [go_sem, g0, g1, g2, g3, g4, g5, g6, g7]) rfl ⟨by unfold digV; rfl, bel8 B.out (Nat.le_refl _) (by omega) _ _ _ _ _ _ _ _⟩
#print axioms rnode_c

end Go.Proofs.YtbejjmmopdcjoaaDoor
