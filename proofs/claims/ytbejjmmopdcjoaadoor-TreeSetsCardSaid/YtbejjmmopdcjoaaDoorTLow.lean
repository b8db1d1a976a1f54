/-
  tree: the lowest level, the level above: contracts.
-/
import Derived.Test.YtbejjmmopdcjoaaDoorTRow
namespace Go.Proofs.YtbejjmmopdcjoaaDoor
open Go.RowKit

theorem lowL_len {xs : List Nat} {n : Nat} (hl : xs.length = n) : (xs.map lowN).length = n := by rw [List.length_map]; exact hl
theorem lowL_get {xs : List Nat} {n : Nat} (hl : xs.length = n) (j : Nat) (hj : j < n) : lowN (xs.getD j 0) = (xs.map lowN).getD j 0 := by
  have : j < xs.length := by omega
  rw [List.getD_eq_getElem?_getD, List.getD_eq_getElem?_getD, List.getElem?_map, List.getElem?_eq_getElem this, Option.map_some, Option.getD_some, Option.getD_some]
theorem lowL_small {xs : List Nat} (h : Small xs) : Small (xs.map lowN) := fun x hx => by
  obtain ⟨y, hy, e⟩ := List.mem_map.1 hx
  rw [← e]
  exact lowN_lt (h y hy)
theorem pairs_len (xs : List Nat) (m : Nat) : (pairs xs m).length = m := by unfold pairs; rw [List.length_map, List.length_range]
theorem pairs_get (xs : List Nat) (m : Nat) (j : Nat) (hj : j < m) : twoN (xs.getD (2 * j) 0) (xs.getD (2 * j + 1) 0) = (pairs xs m).getD j 0 := by
  unfold pairs
  rw [List.getD_eq_getElem?_getD (i := j), List.getElem?_map, List.getElem?_range hj, Option.map_some, Option.getD_some]
theorem pairs_small {xs : List Nat} (h : Small xs) (m : Nat) : Small (pairs xs m) := fun x hx => by
  obtain ⟨y, hy, e⟩ := List.mem_map.1 hx
  rw [← e]
  exact twoN_lt (small_getD h _) (small_getD h _)

theorem cells8 {v u : World} {b p : Nat} {x0 x1 x2 x3 x4 x5 x6 x7 : Value} {g : Nat} (hC : World.grownBy v u (some g)) (hb : b < v.heap.size) (hn : b ≠ g) (h : v.cell? ⟨b, p, none⟩ = some x0 ∧ v.cell? ⟨b, p + 1, none⟩ = some x1 ∧ v.cell? ⟨b, p + 2, none⟩ = some x2 ∧ v.cell? ⟨b, p + 3, none⟩ = some x3 ∧ v.cell? ⟨b, p + 4, none⟩ = some x4 ∧ v.cell? ⟨b, p + 5, none⟩ = some x5 ∧ v.cell? ⟨b, p + 6, none⟩ = some x6 ∧ v.cell? ⟨b, p + 7, none⟩ = some x7) : u.cell? ⟨b, p, none⟩ = some x0 ∧ u.cell? ⟨b, p + 1, none⟩ = some x1 ∧ u.cell? ⟨b, p + 2, none⟩ = some x2 ∧ u.cell? ⟨b, p + 3, none⟩ = some x3 ∧ u.cell? ⟨b, p + 4, none⟩ = some x4 ∧ u.cell? ⟨b, p + 5, none⟩ = some x5 ∧ u.cell? ⟨b, p + 6, none⟩ = some x6 ∧ u.cell? ⟨b, p + 7, none⟩ = some x7 :=
  have k : ∀ i, u.cell? ⟨b, i, none⟩ = v.cell? ⟨b, i, none⟩ := fun i => World.cell?_of_block (a := ⟨b, i, none⟩) (hC.block b hb (fun e => hn (by injection e)))
  ⟨(k _).trans h.1, (k _).trans h.2.1, (k _).trans h.2.2.1, (k _).trans h.2.2.2.1, (k _).trans h.2.2.2.2.1, (k _).trans h.2.2.2.2.2.1, (k _).trans h.2.2.2.2.2.2.1, (k _).trans h.2.2.2.2.2.2.2⟩

theorem grownR (w : World) (b j : Nat) {x : Nat} : w.grownBy (World.setCell (World.setCell (World.setCell (World.setCell (World.setCell (World.setCell (World.setCell (World.setCell w ⟨b, j * 8, none⟩ (.int .u8 (byt x 0))) ⟨b, j * 8 + 1, none⟩ (.int .u8 (byt x 1))) ⟨b, j * 8 + 2, none⟩ (.int .u8 (byt x 2))) ⟨b, j * 8 + 3, none⟩ (.int .u8 (byt x 3))) ⟨b, j * 8 + 4, none⟩ (.int .u8 (byt x 4))) ⟨b, j * 8 + 5, none⟩ (.int .u8 (byt x 5))) ⟨b, j * 8 + 6, none⟩ (.int .u8 (byt x 6))) ⟨b, j * 8 + 7, none⟩ (.int .u8 (byt x 7))) (some b) := (grown_then (grown_then (grown_then (grown_then (grown_then (grown_then (grown_then (setCell_grown _) (setCell_grown _)) (setCell_grown _)) (setCell_grown _)) (setCell_grown _)) (setCell_grown _)) (setCell_grown _)) (setCell_grown _))

def Made (w : World) (n : Nat) (xs : List Nat) (e : Ending) (w' : World) : Prop := e = .returned (.slice (some ⟨w.heap.size, 0, none⟩) n (n + 1)) ∧ OwnD w' 26 w.heap.size (some ⟨w.heap.size, 0, none⟩) n (n + 1) xs ∧ Below w.heap.size w w'

set_option maxRecDepth 100000 in
set_option maxHeartbeats 1000000 in
theorem lowest_c (w : World) (A : Option Addr) (n c : Nat) (xs : List Nat) (h : Hid (RdD w A n c xs)) (hn : n ≤ 100000) : Calls Tryd.prog 42 #[.slice A n c] w (Made w n (xs.map lowN)) := by
  have hle := h.out.le
  have HL := Lib.hid h.out.len
  have HSm := Lib.hid h.out.small
  go_enter Tryd.func42, Tryd.ntmps42
  go_wp2_with (refine wpList_makeD (o := ⟨some 11, _, _, _, _, _⟩) rfl (.tmp 7) (.tmp 10) rfl n (n + 1) (by rfl) (by go_num) (by omega) (by omega) ?_; intro v1 hr hb; have R := Lib.hid hr; have B := Lib.hid hb; clear hr hb; go_simp)
  go_loopw [14] (fun iv wr => ∃ k : Nat, k ≤ n ∧ iv = .int .i64 k ∧ Hid (RowK wr 26 w.heap.size (n + 1) (fun j => lowN (xs.getD j 0)) k) ∧ Hid (Below w.heap.size w wr)) (fun iv _ => n - (intOf iv).toNat)
  case atStart => exact ⟨0, Nat.zero_le _, rfl, ⟨by omega, R.out.blk.imp fun _ q => ⟨q.1, q.2.1, fun j hj => by omega⟩⟩, B.out⟩
  case round =>
    clear R B
    obtain ⟨k, hk, rfl, R, B⟩ := hrel
    have zr := R.out.lt
    by_cases hlt : k < n
    · have hlen : k < xs.length := by rw [HL.out]; exact hlt
      obtain ⟨b, o, rfl, hbo, hc⟩ := (h.out.ext B.out).at hlt
      obtain ⟨y, hy⟩ : ∃ y, y = xs.getD k 0 := ⟨_, rfl⟩
      rw [← hy] at hc
      have ly : y < 18446744073709551616 := by rw [hy]; exact getD_lt HSm.out hlen
      obtain ⟨z, hz⟩ : ∃ z, z = lowN y := ⟨_, rfl⟩
      have HZ : Hid (lowN y = z) := hz.symm
      have HZ2 : Hid (z = lowN (xs.getD k 0)) := by show _ = _; rw [hz, hy]
      obtain ⟨c0, c1, c2, c3, c4, c5, c6, c7⟩ := hc
      have hltI : (k : Int) < (n : Int) := by omega
      have hkI : (0 : Int) ≤ (k : Int) := by omega
      clear hy hz
      go_wp2_with fail
      rw [← show digV y = .agg #[.int .u8 (byt y 0), .int .u8 (byt y 1), .int .u8 (byt y 2), .int .u8 (byt y 3), .int .u8 (byt y 4), .int .u8 (byt y 5), .int .u8 (byt y 6), .int .u8 (byt y 7)] from rfl]
      refine (lowest1_c _ y ly).mono ?_
      rw [HZ.out]
      unfold digV
      rintro e w2 ⟨rfl, hb⟩
      replace R := Lib.hid ((R.out.ext (ext_alloc wr (.cells #[.int .u8 (byt y 0), .int .u8 (byt y 1), .int .u8 (byt y 2), .int .u8 (byt y 3), .int .u8 (byt y 4), .int .u8 (byt y 5), .int .u8 (byt y 6), .int .u8 (byt y 7)] 26))).ext hb)
      replace B := Lib.hid (ext_trans (ext_trans B.out (ext_alloc wr (.cells #[.int .u8 (byt y 0), .int .u8 (byt y 1), .int .u8 (byt y 2), .int .u8 (byt y 3), .int .u8 (byt y 4), .int .u8 (byt y 5), .int .u8 (byt y 6), .int .u8 (byt y 7)] 26))) hb)
      obtain ⟨y0, y1, y2, y3, y4, y5, y6, y7, p0, p1, p2, p3, p4, p5, p6, p7, q0, q1, q2, q3, q4, q5, q6, q7⟩ := R.out.place (j := k) (by omega)
      clear hb c0 c1 c2 c3 c4 c5 c6 c7
      go_wp2_with fail
      exact ⟨⟨k + 1, by omega, by go_num, R.out.on (by omega) HZ2.out, below_row B.out (Nat.le_refl _) (Nat.le_refl _)⟩, by simp [intOf]; omega⟩
    · obtain rfl : k = n := by omega
      have hI : ¬ (k : Int) < (k : Int) := by omega
      go_wp2_with fail
      go_ret
      exact ⟨rfl, R.out.own (by omega) (Nat.le_refl _) _ (lowL_len HL.out) (lowL_get HL.out) (lowL_small HSm.out), B.out⟩
#print axioms lowest_c

set_option maxRecDepth 100000 in
set_option maxHeartbeats 1000000 in
theorem above_c (w : World) (A : Option Addr) (n c m : Nat) (xs : List Nat) (h : Hid (RdD w A n c xs)) (hn : n ≤ 100000) (hm : m = n / 2) : Calls Tryd.prog 44 #[.slice A n c] w (Made w m (pairs xs m)) := by
  have hle := h.out.le
  have HL := Lib.hid h.out.len
  have HSm := Lib.hid h.out.small
  have hm2 : 2 * m ≤ n := by omega
  have hq : (n : Int) / 2 = (m : Int) := by omega
  have hq2 : (n : Int).tdiv 2 = (m : Int) := by rw [Int.tdiv_eq_ediv_of_nonneg (by omega)]; exact hq
  clear hm
  go_enter Tryd.func44, Tryd.ntmps44
  go_wp2_with (refine wpList_makeD (o := ⟨some 12, _, _, _, _, _⟩) rfl (.tmp 9) (.tmp 11) rfl m (m + 1) (by rfl) (by go_num) (by omega) (by omega) ?_; intro v1 hr hb; have R := Lib.hid hr; have B := Lib.hid hb; clear hr hb; go_simp)
  go_loopw [15] (fun iv wr => ∃ k : Nat, k ≤ m ∧ iv = .int .i64 k ∧ Hid (RowK wr 26 w.heap.size (m + 1) (fun j => twoN (xs.getD (2 * j) 0) (xs.getD (2 * j + 1) 0)) k) ∧ Hid (Below w.heap.size w wr)) (fun iv _ => m - (intOf iv).toNat)
  case atStart => exact ⟨0, Nat.zero_le _, rfl, ⟨by omega, R.out.blk.imp fun _ q => ⟨q.1, q.2.1, fun j hj => by omega⟩⟩, B.out⟩
  case round =>
    clear R B
    obtain ⟨k, hk, rfl, R, B⟩ := hrel
    have zr := R.out.lt
    by_cases hlt : k < m
    · obtain ⟨p, hp⟩ : ∃ p, p = 2 * k := ⟨_, rfl⟩
      obtain ⟨q, hq⟩ : ∃ q, q = 2 * k + 1 := ⟨_, rfl⟩
      obtain ⟨b, o, rfl, hb0, _⟩ := h.out.at (k := p) (by omega)
      obtain ⟨b1, o1, hA1, hbo, hc⟩ := (h.out.ext B.out).at (k := p) (by omega)
      injection hA1 with hA1
      injection hA1 with e3 e4 _
      subst e3 e4
      have hne : b ≠ w.heap.size := by omega
      obtain ⟨b', o', hA, _, hd⟩ := (h.out.ext B.out).at (k := q) (by omega)
      injection hA with hA
      injection hA with e1 e2 _
      subst e1 e2
      obtain ⟨y, hy⟩ : ∃ y, y = xs.getD p 0 := ⟨_, rfl⟩
      obtain ⟨y', hy'⟩ : ∃ y', y' = xs.getD q 0 := ⟨_, rfl⟩
      rw [← hy] at hc
      rw [← hy'] at hd
      have ly : y < 18446744073709551616 := by rw [hy]; exact small_getD HSm.out _
      have ly' : y' < 18446744073709551616 := by rw [hy']; exact small_getD HSm.out _
      obtain ⟨z, hz⟩ : ∃ z, z = twoN y y' := ⟨_, rfl⟩
      have HZ : Hid (twoN y y' = z) := hz.symm
      have HZ2 : Hid (z = twoN (xs.getD (2 * k) 0) (xs.getD (2 * k + 1) 0)) := by show _ = _; rw [hz, hy, hy', hp, hq]
      have HC := Lib.hid hc
      have HD := Lib.hid hd
      have hltI : (k : Int) < (m : Int) := by omega
      have hkI : (0 : Int) ≤ (k : Int) := by omega
      have w1 : IntKind.i64.wrap (2 * (k : Int)) = (p : Int) := by rw [IntKind.wrap_i64]; omega
      have w2 : IntKind.i64.wrap ((p : Int) + 1) = (q : Int) := by rw [IntKind.wrap_i64]; omega
      have p0 : (0 : Int) ≤ (p : Int) := by omega
      have p1 : (p : Int) < (n : Int) := by omega
      have q0 : (0 : Int) ≤ (q : Int) := by omega
      have q1 : (q : Int) < (n : Int) := by omega
      clear hy hz hy' hc hd hp hq
      go_upto_region 6 with fail
      refine wp_region_schedC (fun u => World.grownBy wr u (some w.heap.size)) [(true, 0), (true, 1), (true, 2), (true, 3), (true, 4), (true, 5), (true, 6), (true, 7), (true, 8), (true, 9), (true, 10), (true, 11), (true, 12), (false, 13), (true, 14), (false, 15)] (by kernel_rfl) rfl (by kernel_rfl) (by kernel_rfl) (fun _ _ d _ _ h => by cases d <;> exact h) (draws_grown wr 1) ?_
      intro J0 hJ0
      iterate 13 (refine schedC_pure (v := ?_) rfl (by rfl) ?_ ?_; rotate_left; (focus (intro u hC; obtain ⟨c0, c1, c2, c3, c4, c5, c6, c7⟩ := cells8 hC hbo hne HC.out; obtain ⟨d0, d1, d2, d3, d4, d5, d6, d7⟩ := cells8 hC hbo hne HD.out; go_simp; try with_reducible rfl)); try go_simp)
      refine schedC_eff rfl ?_
      intro J hJ
      go_wp2_with fail
      rw [← show digV y = .agg #[.int .u8 (byt y 0), .int .u8 (byt y 1), .int .u8 (byt y 2), .int .u8 (byt y 3), .int .u8 (byt y 4), .int .u8 (byt y 5), .int .u8 (byt y 6), .int .u8 (byt y 7)] from rfl, ← show digV y' = .agg #[.int .u8 (byt y' 0), .int .u8 (byt y' 1), .int .u8 (byt y' 2), .int .u8 (byt y' 3), .int .u8 (byt y' 4), .int .u8 (byt y' 5), .int .u8 (byt y' 6), .int .u8 (byt y' 7)] from rfl]
      refine (two_c _ y y' ly ly').mono ?_
      rw [HZ.out]
      unfold digV
      rintro e v2 ⟨rfl, hb⟩
      have Q : Hid (Below wr.heap.size wr v2) := Lib.hid (ext_trans (ext_drew wr) hb)
      clear hb
      replace R := Lib.hid (R.out.ext Q.out)
      replace B := Lib.hid (ext_trans B.out Q.out)
      obtain ⟨y0, y1, y2, y3, y4, y5, y6, y7, p0, p1, p2, p3, p4, p5, p6, p7, q0, q1, q2, q3, q4, q5, q6, q7⟩ := R.out.place (j := k) (by omega)
      go_wp2_with fail
      have G : Hid (World.grownBy wr v2 (some w.heap.size)) := ⟨Q.out.os, Q.out.tape, Q.out.output, Q.out.size, fun k hk _ => Q.out.block k hk⟩
      refine ⟨G.out, ?_⟩
      refine schedC_pure (v := ?_) rfl (by rfl) ?_ ?_; rotate_left
      focus (intro u hC; go_simp; try with_reducible rfl)
      try go_simp
      refine schedC_eff rfl ?_
      intro J hJ
      go_wp2_with fail
      refine ⟨grown_then G.out (grownR _ _ _), ?_⟩
      refine schedC_nil (hJ0 _ _ ?_)
      clear hJ0
      go_wp2_with fail
      exact ⟨⟨k + 1, by omega, by go_num, R.out.on (by omega) HZ2.out, below_row B.out (Nat.le_refl _) (Nat.le_refl _)⟩, by simp [intOf]; omega⟩
    · obtain rfl : k = m := by omega
      have hI : ¬ (k : Int) < (k : Int) := by omega
      go_wp2_with fail
      go_ret
      exact ⟨rfl, R.out.own (by omega) (Nat.le_refl _) _ (pairs_len xs k) (pairs_get xs k) (pairs_small HSm.out k), B.out⟩
#print axioms above_c
end Go.Proofs.YtbejjmmopdcjoaaDoor
