/-
  tree: told: the examples hold.
-/
import Derived.Test.YtbejjmmopdcjoaaDoorTPath
import Derived.Test.YtbejjmmopdcjoaaDoorTCheck
import Derived.Test.YtbejjmmopdcjoaaDoorHPushG
import Derived.Test.YtbejjmmopdcjoaaDoorFrame
namespace Go.Proofs.YtbejjmmopdcjoaaDoor
open Go.RowKit Go.Deep

theorem exec_runT {P : Program} {w : World} {ev : Operand → Value} {o : Oper} {op : BinOp} {t t2 : TypeId} {x y : Operand} (ho : o.op = .binOp op t x y t2) {v1 v2 v : Value} (hx : ev x = v1) (hy : ev y = v2) (hg : (eqGuard op t x y v1 v2).run P w = .ok () w) (hb : (binOp op t v1 v2).run P w = .ok v w) : (execOp ev o).run P w = .ok (Next.value v) w := by
  unfold execOp
  simp only [ho, hx, hy, Sem.run_bind, hg, hb, Result.andThen_ok]
  rfl
theorem rd_one {w : World} {b x : Nat} {E : TypeId} (hx : x < 18446744073709551616) (h : w.heap[b]? = some (.cells (digA x) E (0, 0))) : RdD w (some ⟨b, 0, none⟩) 1 1 [x] :=
  ⟨rfl, Nat.le_refl _, by omega, fun _ => ⟨b, 0, rfl, (Array.getElem?_eq_some_iff.1 h).1, fun j hj i hi => by
    obtain rfl : j = 0 := by omega
    rw [cell_of_row w b _ _ _ _ h, Nat.zero_add, Nat.zero_mul, Nat.zero_add]
    have := digA_at x i hi
    rw [Nat.mul_one] at this
    exact this⟩, (fun e => by cases e), fun y hy => by simp at hy; rw [hy]; exact hx⟩
theorem rd_two {w : World} {b x y : Nat} {E : TypeId} (hx : x < 18446744073709551616) (hy : y < 18446744073709551616) (h : w.heap[b]? = some (.cells (digA x ++ digA y) E (0, 0))) : RdD w (some ⟨b, 0, none⟩) 2 2 [x, y] :=
  ⟨rfl, Nat.le_refl _, by omega, fun _ => ⟨b, 0, rfl, (Array.getElem?_eq_some_iff.1 h).1, fun j hj i hi => by
    rw [cell_of_row w b _ _ _ _ h, Nat.zero_add]
    have k1 := digA_at x i hi
    have k2 := digA_at y i hi
    rw [Nat.mul_one] at k1 k2
    rcases (by omega : j = 0 ∨ j = 1) with rfl | rfl
    · rw [Nat.zero_mul, Nat.zero_add, Array.getElem?_append_left (by simp [digA]; omega)]
      exact k1
    · rw [Array.getElem?_append_right (by simp [digA])]
      rw [show 1 * 8 + i - (digA x).size = i by simp [digA]]
      exact k2⟩, (fun e => by cases e), fun z hz => by
    simp at hz
    rcases hz with rfl | rfl
    · exact hx
    · exact hy⟩
theorem hgt_1 : hgt 1 = 0 := by decide
theorem hgt_2 : hgt 2 = 1 := by decide
theorem hgt_5 : heightI 5 = 3 := by decide
theorem told_root : treeN [1] 0 = wordN (lowN 1) (rootB 0) := by
  unfold treeN rootN nd
  rw [if_pos (by decide), show ([1] : List Nat).getD 0 0 = 1 from rfl]
theorem told_root_ne : wordN (wordN 1 leafB) (rootB 0) ≠ 0 := by decide +kernel
theorem told_path : pathN [1, 2] 1 1 = [lowN 1] := by
  unfold pathN
  rw [show List.range 1 = [0] from rfl, List.map_cons, List.map_nil, show oth (1 / 2 ^ 0) = 0 from rfl]
  unfold nd
  rw [if_pos (by decide), show ([1, 2] : List Nat).getD 0 0 = 1 from rfl]
theorem told_s : treeN [1, 2] 1 = wordN (twoN (wordN 1 leafB) (wordN 2 leafB)) (rootB 1) := by
  unfold treeN rootN
  show wordN (twoN (nd [1, 2] 0 (2 * 0)) (nd [1, 2] 0 (2 * 0 + 1))) (rootB 1) = _
  unfold nd
  rw [if_pos (by decide), if_pos (by decide), show ([1, 2] : List Nat).getD (2 * 0) 0 = 1 from rfl, show ([1, 2] : List Nat).getD (2 * 0 + 1) 0 = 2 from rfl]
  unfold lowN
  rfl
theorem told_other : withN 0 2 [lowN 1] = wordN (twoN (wordN 2 leafB) (wordN 1 leafB)) (rootB 1) := by
  unfold withN rootN
  rw [show ([lowN 1] : List Nat).length = 1 from rfl, climbN, climbN, if_neg (by decide)]
  unfold lowN
  rfl
theorem told_ne : wordN (twoN (wordN 2 leafB) (wordN 1 leafB)) (rootB 1) ≠ wordN (twoN (wordN 1 leafB) (wordN 2 leafB)) (rootB 1) := by decide +kernel
theorem small_12 : Small [1, 2] := fun x hx => by simp at hx; omega
theorem told_yes : comes 1 2 (pathN [1, 2] 1 1) = (treeN [1, 2] 1, true) := by
  have e := comes_at (i := 1) (x := 2) (pathN_len [1, 2] 1 1) (by omega) (by decide)
  rw [show ((1 : Nat) : Int) = 1 from rfl] at e
  rw [e]
  have q := with_path (l := [1, 2]) (i := 1) (H := 1) (by decide) (by decide)
  rw [show ([1, 2] : List Nat).getD 1 0 = 2 from rfl] at q
  rw [q]
theorem told_no : comes 0 2 (pathN [1, 2] 1 1) = (withN 0 2 [lowN 1], true) := by
  have e := comes_at (i := 0) (x := 2) (pathN_len [1, 2] 1 1) (by omega) (by decide)
  rw [show ((0 : Nat) : Int) = 0 from rfl] at e
  rw [e, told_path]

set_option maxRecDepth 100000 in
set_option maxHeartbeats 4000000 in
theorem told_c (w : World) : Calls Tryd.prog 15 #[] w (Holds w) := by
  obtain ⟨r, hr⟩ : ∃ r, r = wordN (lowN 1) (rootB 0) := ⟨_, rfl⟩
  have HR := Lib.hid hr
  obtain ⟨sx, hs⟩ : ∃ s, s = treeN [1, 2] 1 := ⟨_, rfl⟩
  have HS := Lib.hid hs
  obtain ⟨p, hp⟩ : ∃ p, p = pathN [1, 2] 1 1 := ⟨_, rfl⟩
  have HP := Lib.hid hp
  have HPL : Hid (p.length = 1) := by show _ = _; rw [hp]; exact pathN_len _ _ _
  have L1 : 1 < 18446744073709551616 := by omega
  have L2 : 2 < 18446744073709551616 := by omega
  obtain ⟨x1, hx1⟩ : ∃ x, x = lowN 1 := ⟨_, rfl⟩
  have HX1 := Lib.hid hx1
  have lx1 : x1 < 18446744073709551616 := by rw [hx1]; exact lowN_lt L1
  have lr : r < 18446744073709551616 := by rw [hr]; exact wordN_lt (lowN_lt L1) (by have := rootB_len 0; omega)
  have ls : sx < 18446744073709551616 := by rw [hs]; exact treeN_lt small_12 1
  have rne : Hid (decide (r = 0) = false) := by show _ = _; rw [hr]; exact decide_eq_false told_root_ne
  have Y1 : Hid (((comes 1 2 p).2 && decide ((comes 1 2 p).1 = sx)) = true) := by show _ = _; rw [hp, told_yes, hs]; simp
  have Y2 : Hid (((comes 0 2 p).2 && decide ((comes 0 2 p).1 = sx)) = false) := by show _ = _; rw [hp, told_no, hs, told_other, told_s]; simp only [Bool.true_and]; exact decide_eq_false told_ne
  have E1 := eql_d lr lr
  rw [decide_eq_true rfl] at E1
  have G1 := guard_d .eql r r
  have E2 := neq_d (m := 0) lr (by omega)
  rw [rne.out, Bool.not_false, ← dig_zero] at E2
  have G2 := guard_d .neq r 0
  rw [← dig_zero] at G2
  unfold digV at E1 G1 E2 G2
  clear hr hs hp hx1
  go_enter Tryd.func15, Tryd.ntmps15
  go_upto_region 2 with fail
  generalize hW : World.alloc (World.alloc w (.cells #[.int .u8 1, .int .u8 0, .int .u8 0, .int .u8 0, .int .u8 0, .int .u8 0, .int .u8 0, .int .u8 0] 26)) (.cells #[.int .u8 2, .int .u8 0, .int .u8 0, .int .u8 0, .int .u8 0, .int .u8 0, .int .u8 0, .int .u8 0] 26) = W
  have D1 : Hid (W.heap[w.heap.size]? = some (.cells #[.int .u8 1, .int .u8 0, .int .u8 0, .int .u8 0, .int .u8 0, .int .u8 0, .int .u8 0, .int .u8 0] 26 (0, 0))) := by rw [← hW]; exact keepA (Go.heap_alloc_new w _)
  have D2 : Hid (W.heap[w.heap.size + 1]? = some (.cells #[.int .u8 2, .int .u8 0, .int .u8 0, .int .u8 0, .int .u8 0, .int .u8 0, .int .u8 0, .int .u8 0] 26 (0, 0))) := by rw [← hW]; exact heap_alloc_newest (w := World.alloc _ _) (by simp)
  have B : Hid (Below w.heap.size w W) := by rw [← hW]; exact ext_trans (ext_alloc _ _) (ext_alloc _ _)
  clear hW
  obtain ⟨a0, a1, a2, a3, a4, a5, a6, a7, _, _, _, _, _, _, _, _⟩ := full8 D1.out
  go_wp2_with fail
  refine (root_ok _ W.heap.size 0 1 1 [1] (Lib.hid (rd_one (x := 1) L1 (show _ = some (.cells (digA 1) 26 (0, 0)) from Go.heap_alloc_new W _))) (by omega) (by omega)).mono ?_
  rw [hgt_1, told_root, show wordN (lowN 1) (rootB 0) = r from HR.out.symm]
  unfold digV
  rintro e w1 ⟨rfl, hb⟩
  replace D1 := Lib.hid (keepB hb (keepA D1.out))
  replace D2 := Lib.hid (keepB hb (keepA D2.out))
  replace B := Lib.hid (ext_trans (ext_trans B.out (ext_alloc W (.cells #[.int .u8 1, .int .u8 0, .int .u8 0, .int .u8 0, .int .u8 0, .int .u8 0, .int .u8 0, .int .u8 0] 26))) hb)
  clear hb a0 a1 a2 a3 a4 a5 a6 a7
  go_upto_region 3 with fail
  obtain ⟨g3, h3⟩ : ∃ g, g = w1.heap.size := ⟨_, rfl⟩
  have D3 : Hid ((World.alloc w1 (.cells #[.int .u8 (byt r 0), .int .u8 (byt r 1), .int .u8 (byt r 2), .int .u8 (byt r 3), .int .u8 (byt r 4), .int .u8 (byt r 5), .int .u8 (byt r 6), .int .u8 (byt r 7)] 26)).heap[g3]? = some (.cells #[.int .u8 (byt r 0), .int .u8 (byt r 1), .int .u8 (byt r 2), .int .u8 (byt r 3), .int .u8 (byt r 4), .int .u8 (byt r 5), .int .u8 (byt r 6), .int .u8 (byt r 7)] 26 (0, 0))) := by rw [h3]; exact Go.heap_alloc_new w1 _
  replace D1 : Hid ((World.alloc w1 (.cells #[.int .u8 (byt r 0), .int .u8 (byt r 1), .int .u8 (byt r 2), .int .u8 (byt r 3), .int .u8 (byt r 4), .int .u8 (byt r 5), .int .u8 (byt r 6), .int .u8 (byt r 7)] 26)).heap[w.heap.size]? = some (.cells #[.int .u8 1, .int .u8 0, .int .u8 0, .int .u8 0, .int .u8 0, .int .u8 0, .int .u8 0, .int .u8 0] 26 (0, 0))) := keepA D1.out
  replace D2 : Hid ((World.alloc w1 (.cells #[.int .u8 (byt r 0), .int .u8 (byt r 1), .int .u8 (byt r 2), .int .u8 (byt r 3), .int .u8 (byt r 4), .int .u8 (byt r 5), .int .u8 (byt r 6), .int .u8 (byt r 7)] 26)).heap[w.heap.size + 1]? = some (.cells #[.int .u8 2, .int .u8 0, .int .u8 0, .int .u8 0, .int .u8 0, .int .u8 0, .int .u8 0, .int .u8 0] 26 (0, 0))) := keepA D2.out
  replace B : Hid (Below w.heap.size w (World.alloc w1 (.cells #[.int .u8 (byt r 0), .int .u8 (byt r 1), .int .u8 (byt r 2), .int .u8 (byt r 3), .int .u8 (byt r 4), .int .u8 (byt r 5), .int .u8 (byt r 6), .int .u8 (byt r 7)] 26))) := ext_trans B.out (ext_alloc _ _)
  rw [← h3]
  clear h3
  generalize World.alloc w1 (.cells #[.int .u8 (byt r 0), .int .u8 (byt r 1), .int .u8 (byt r 2), .int .u8 (byt r 3), .int .u8 (byt r 4), .int .u8 (byt r 5), .int .u8 (byt r 6), .int .u8 (byt r 7)] 26) = W1 at *
  obtain ⟨a0, a1, a2, a3, a4, a5, a6, a7, _, _, _, _, _, _, _, _⟩ := full8 D1.out
  obtain ⟨b0, b1, b2, b3, b4, b5, b6, b7, _, _, _, _, _, _, _, _⟩ := full8 D2.out
  go_wp2_with fail
  refine (path_ok _ W1.heap.size 0 2 2 [1, 2] 1 (Lib.hid (rd_two (x := 1) (y := 2) L1 L2 (show _ = some (.cells (digA 1 ++ digA 2) 26 (0, 0)) from Go.heap_alloc_new W1 _))) (by omega) (by omega) (by omega)).mono ?_
  rw [hgt_2, show pathN [1, 2] 1 1 = p from HP.out.symm]
  unfold Paths
  rw [HPL.out]
  rintro e w2 ⟨A, c, rfl, hO, hb⟩
  have RP := Lib.hid hO.rd
  replace D1 := Lib.hid (keepB hb (keepA D1.out))
  replace D2 := Lib.hid (keepB hb (keepA D2.out))
  replace D3 := Lib.hid (keepB hb (keepA D3.out))
  replace B := Lib.hid (ext_trans (ext_trans B.out (ext_alloc W1 (.cells #[.int .u8 1, .int .u8 0, .int .u8 0, .int .u8 0, .int .u8 0, .int .u8 0, .int .u8 0, .int .u8 0, .int .u8 2, .int .u8 0, .int .u8 0, .int .u8 0, .int .u8 0, .int .u8 0, .int .u8 0, .int .u8 0] 26))) hb)
  clear hb hO a0 a1 a2 a3 a4 a5 a6 a7 b0 b1 b2 b3 b4 b5 b6 b7
  go_upto_region 4 with fail
  obtain ⟨a0, a1, a2, a3, a4, a5, a6, a7, _, _, _, _, _, _, _, _⟩ := full8 D1.out
  obtain ⟨b0, b1, b2, b3, b4, b5, b6, b7, _, _, _, _, _, _, _, _⟩ := full8 D2.out
  go_wp2_with fail
  refine (root_ok _ w2.heap.size 0 2 2 [1, 2] (Lib.hid (rd_two (x := 1) (y := 2) L1 L2 (show _ = some (.cells (digA 1 ++ digA 2) 26 (0, 0)) from Go.heap_alloc_new w2 _))) (by omega) (by omega)).mono ?_
  rw [hgt_2, show treeN [1, 2] 1 = sx from HS.out.symm]
  unfold digV
  rintro e w3 ⟨rfl, hb⟩
  replace D1 := Lib.hid (keepB hb (keepA D1.out))
  replace D2 := Lib.hid (keepB hb (keepA D2.out))
  replace D3 := Lib.hid (keepB hb (keepA D3.out))
  replace RP := Lib.hid ((RP.out.ext (ext_alloc w2 (.cells #[.int .u8 1, .int .u8 0, .int .u8 0, .int .u8 0, .int .u8 0, .int .u8 0, .int .u8 0, .int .u8 0, .int .u8 2, .int .u8 0, .int .u8 0, .int .u8 0, .int .u8 0, .int .u8 0, .int .u8 0, .int .u8 0] 26))).ext hb)
  replace B := Lib.hid (ext_trans (ext_trans B.out (ext_alloc w2 (.cells #[.int .u8 1, .int .u8 0, .int .u8 0, .int .u8 0, .int .u8 0, .int .u8 0, .int .u8 0, .int .u8 0, .int .u8 2, .int .u8 0, .int .u8 0, .int .u8 0, .int .u8 0, .int .u8 0, .int .u8 0, .int .u8 0] 26))) hb)
  clear hb a0 a1 a2 a3 a4 a5 a6 a7 b0 b1 b2 b3 b4 b5 b6 b7
  go_upto_region 5 with fail
  obtain ⟨g7, h7⟩ : ∃ g, g = w3.heap.size := ⟨_, rfl⟩
  have D7 : Hid ((World.alloc w3 (.cells #[.int .u8 (byt sx 0), .int .u8 (byt sx 1), .int .u8 (byt sx 2), .int .u8 (byt sx 3), .int .u8 (byt sx 4), .int .u8 (byt sx 5), .int .u8 (byt sx 6), .int .u8 (byt sx 7)] 26)).heap[g7]? = some (.cells #[.int .u8 (byt sx 0), .int .u8 (byt sx 1), .int .u8 (byt sx 2), .int .u8 (byt sx 3), .int .u8 (byt sx 4), .int .u8 (byt sx 5), .int .u8 (byt sx 6), .int .u8 (byt sx 7)] 26 (0, 0))) := by rw [h7]; exact Go.heap_alloc_new w3 _
  replace D1 : Hid ((World.alloc w3 (.cells #[.int .u8 (byt sx 0), .int .u8 (byt sx 1), .int .u8 (byt sx 2), .int .u8 (byt sx 3), .int .u8 (byt sx 4), .int .u8 (byt sx 5), .int .u8 (byt sx 6), .int .u8 (byt sx 7)] 26)).heap[w.heap.size]? = some (.cells #[.int .u8 1, .int .u8 0, .int .u8 0, .int .u8 0, .int .u8 0, .int .u8 0, .int .u8 0, .int .u8 0] 26 (0, 0))) := keepA D1.out
  replace D2 : Hid ((World.alloc w3 (.cells #[.int .u8 (byt sx 0), .int .u8 (byt sx 1), .int .u8 (byt sx 2), .int .u8 (byt sx 3), .int .u8 (byt sx 4), .int .u8 (byt sx 5), .int .u8 (byt sx 6), .int .u8 (byt sx 7)] 26)).heap[w.heap.size + 1]? = some (.cells #[.int .u8 2, .int .u8 0, .int .u8 0, .int .u8 0, .int .u8 0, .int .u8 0, .int .u8 0, .int .u8 0] 26 (0, 0))) := keepA D2.out
  replace D3 : Hid ((World.alloc w3 (.cells #[.int .u8 (byt sx 0), .int .u8 (byt sx 1), .int .u8 (byt sx 2), .int .u8 (byt sx 3), .int .u8 (byt sx 4), .int .u8 (byt sx 5), .int .u8 (byt sx 6), .int .u8 (byt sx 7)] 26)).heap[g3]? = some (.cells #[.int .u8 (byt r 0), .int .u8 (byt r 1), .int .u8 (byt r 2), .int .u8 (byt r 3), .int .u8 (byt r 4), .int .u8 (byt r 5), .int .u8 (byt r 6), .int .u8 (byt r 7)] 26 (0, 0))) := keepA D3.out
  replace RP : Hid (RdD (World.alloc w3 (.cells #[.int .u8 (byt sx 0), .int .u8 (byt sx 1), .int .u8 (byt sx 2), .int .u8 (byt sx 3), .int .u8 (byt sx 4), .int .u8 (byt sx 5), .int .u8 (byt sx 6), .int .u8 (byt sx 7)] 26)) A 1 c p) := RP.out.ext (ext_alloc _ _)
  replace B : Hid (Below w.heap.size w (World.alloc w3 (.cells #[.int .u8 (byt sx 0), .int .u8 (byt sx 1), .int .u8 (byt sx 2), .int .u8 (byt sx 3), .int .u8 (byt sx 4), .int .u8 (byt sx 5), .int .u8 (byt sx 6), .int .u8 (byt sx 7)] 26))) := ext_trans B.out (ext_alloc _ _)
  rw [← h7]
  clear h7
  generalize World.alloc w3 (.cells #[.int .u8 (byt sx 0), .int .u8 (byt sx 1), .int .u8 (byt sx 2), .int .u8 (byt sx 3), .int .u8 (byt sx 4), .int .u8 (byt sx 5), .int .u8 (byt sx 6), .int .u8 (byt sx 7)] 26) = V at *
  refine wp_region_schedC (fun u => Below V.heap.size V u) [(true, 0), (true, 1), (true, 2), (true, 3), (true, 4), (true, 5), (true, 6), (true, 7), (true, 8), (true, 9), (true, 10), (true, 11), (true, 12), (false, 13), (false, 14), (true, 15), (true, 16), (true, 17), (true, 18), (true, 19), (true, 20), (true, 21), (true, 22), (true, 23), (true, 24), (true, 25), (true, 26), (true, 27), (true, 28), (true, 29), (true, 30), (false, 31), (true, 32), (true, 33), (true, 34), (true, 35), (true, 36), (false, 37), (true, 38), (true, 39), (true, 40), (false, 41), (true, 42), (true, 43), (true, 44)] (by kernel_rfl) rfl (by kernel_rfl) (by kernel_rfl) (fun _ _ d _ _ h => by cases d <;> exact h) (ext_drew V) ?_
  intro J0 hJ0
  have Q : Hid (Below V.heap.size V V.drew) := ext_drew V
  iterate 13 (refine schedC_pure (v := ?_) rfl (by rfl) ?_ ?_; rotate_left; (focus (intro u hC; obtain ⟨a0, a1, a2, a3, a4, a5, a6, a7, _, _, _, _, _, _, _, _⟩ := full8 (keepB hC D1.out); obtain ⟨b0, b1, b2, b3, b4, b5, b6, b7, _, _, _, _, _, _, _, _⟩ := full8 (keepB hC D2.out); obtain ⟨r0, r1, r2, r3, r4, r5, r6, r7, _, _, _, _, _, _, _, _⟩ := full8 (keepB hC D3.out); obtain ⟨s0, s1, s2, s3, s4, s5, s6, s7, _, _, _, _, _, _, _, _⟩ := full8 (keepB hC D7.out); go_simp; try with_reducible rfl)); try go_simp)
  refine schedC_eff rfl ?_
  intro J hJ
  go_wp2_with fail
  rw [show (.agg #[.int .u8 1, .int .u8 0, .int .u8 0, .int .u8 0, .int .u8 0, .int .u8 0, .int .u8 0, .int .u8 0] : Value) = digV 1 from rfl]
  refine (word_c _ 1 L1 (⟨#[108, 101, 97, 102]⟩ : ByteArray) (by unfold maxLen; decide)).mono ?_
  rw [show wordN 1 (⟨#[108, 101, 97, 102]⟩ : ByteArray).data.toList = x1 from HX1.out.symm]
  unfold digV
  rintro e v9 ⟨rfl, hb⟩
  have Q2 : Hid (Below V.heap.size V v9) := Lib.hid (ext_trans Q.out hb)
  clear hb Q
  go_wp2_with fail
  refine ⟨Q2.out, ?_⟩
  have Q := Q2
  clear Q2
  refine schedC_eff rfl ?_
  intro J hJ
  go_wp2_with fail
  rw [← show digV x1 = .agg #[.int .u8 (byt x1 0), .int .u8 (byt x1 1), .int .u8 (byt x1 2), .int .u8 (byt x1 3), .int .u8 (byt x1 4), .int .u8 (byt x1 5), .int .u8 (byt x1 6), .int .u8 (byt x1 7)] from rfl]
  refine (word_c _ x1 lx1 (⟨#[114, 111, 111, 116, 48]⟩ : ByteArray) (by unfold maxLen; decide)).mono ?_
  rw [show wordN x1 (⟨#[114, 111, 111, 116, 48]⟩ : ByteArray).data.toList = r by rw [HX1.out, HR.out]; rfl]
  unfold digV
  rintro e v9 ⟨rfl, hb⟩
  have Q2 : Hid (Below V.heap.size V v9) := Lib.hid (ext_trans Q.out hb)
  clear hb Q
  go_wp2_with fail
  refine ⟨Q2.out, ?_⟩
  have Q := Q2
  clear Q2
  refine schedC_pure (v := .bool true) rfl (by rfl) (fun u hC => exec_runT rfl rfl rfl (G1 _ _ u) (E1 u)) ?_
  try go_simp
  iterate 4 (refine schedC_pure (v := ?_) rfl (by rfl) ?_ ?_; rotate_left; (focus (intro u hC; obtain ⟨a0, a1, a2, a3, a4, a5, a6, a7, _, _, _, _, _, _, _, _⟩ := full8 (keepB hC D1.out); obtain ⟨b0, b1, b2, b3, b4, b5, b6, b7, _, _, _, _, _, _, _, _⟩ := full8 (keepB hC D2.out); obtain ⟨r0, r1, r2, r3, r4, r5, r6, r7, _, _, _, _, _, _, _, _⟩ := full8 (keepB hC D3.out); obtain ⟨s0, s1, s2, s3, s4, s5, s6, s7, _, _, _, _, _, _, _, _⟩ := full8 (keepB hC D7.out); go_simp; try with_reducible rfl)); try go_simp)
  refine schedC_pure (v := .bool true) rfl (by rfl) (fun u hC => exec_runT rfl rfl rfl (G2 _ _ u) (E2 u)) ?_
  try go_simp
  iterate 10 (refine schedC_pure (v := ?_) rfl (by rfl) ?_ ?_; rotate_left; (focus (intro u hC; obtain ⟨a0, a1, a2, a3, a4, a5, a6, a7, _, _, _, _, _, _, _, _⟩ := full8 (keepB hC D1.out); obtain ⟨b0, b1, b2, b3, b4, b5, b6, b7, _, _, _, _, _, _, _, _⟩ := full8 (keepB hC D2.out); obtain ⟨r0, r1, r2, r3, r4, r5, r6, r7, _, _, _, _, _, _, _, _⟩ := full8 (keepB hC D3.out); obtain ⟨s0, s1, s2, s3, s4, s5, s6, s7, _, _, _, _, _, _, _, _⟩ := full8 (keepB hC D7.out); go_simp; try with_reducible rfl)); try go_simp)
  refine schedC_eff rfl ?_
  intro J hJ
  go_wp2_with fail
  rw [show (.agg #[.int .u8 2, .int .u8 0, .int .u8 0, .int .u8 0, .int .u8 0, .int .u8 0, .int .u8 0, .int .u8 0] : Value) = digV 2 from rfl, ← show digV sx = .agg #[.int .u8 (byt sx 0), .int .u8 (byt sx 1), .int .u8 (byt sx 2), .int .u8 (byt sx 3), .int .u8 (byt sx 4), .int .u8 (byt sx 5), .int .u8 (byt sx 6), .int .u8 (byt sx 7)] from rfl]
  refine (check_c _ sx ls 1 2 L2 A 1 c p (Lib.hid (RP.out.ext Q.out))).mono ?_
  rw [Y1.out]
  rintro e v9 ⟨rfl, hb⟩
  have Q2 : Hid (Below V.heap.size V v9) := Lib.hid (ext_trans Q.out hb)
  clear hb Q
  go_wp2_with fail
  refine ⟨Q2.out, ?_⟩
  have Q := Q2
  clear Q2
  iterate 5 (refine schedC_pure (v := ?_) rfl (by rfl) ?_ ?_; rotate_left; (focus (intro u hC; obtain ⟨a0, a1, a2, a3, a4, a5, a6, a7, _, _, _, _, _, _, _, _⟩ := full8 (keepB hC D1.out); obtain ⟨b0, b1, b2, b3, b4, b5, b6, b7, _, _, _, _, _, _, _, _⟩ := full8 (keepB hC D2.out); obtain ⟨r0, r1, r2, r3, r4, r5, r6, r7, _, _, _, _, _, _, _, _⟩ := full8 (keepB hC D3.out); obtain ⟨s0, s1, s2, s3, s4, s5, s6, s7, _, _, _, _, _, _, _, _⟩ := full8 (keepB hC D7.out); go_simp; try with_reducible rfl)); try go_simp)
  refine schedC_eff rfl ?_
  intro J hJ
  go_wp2_with fail
  rw [show (.agg #[.int .u8 2, .int .u8 0, .int .u8 0, .int .u8 0, .int .u8 0, .int .u8 0, .int .u8 0, .int .u8 0] : Value) = digV 2 from rfl, ← show digV sx = .agg #[.int .u8 (byt sx 0), .int .u8 (byt sx 1), .int .u8 (byt sx 2), .int .u8 (byt sx 3), .int .u8 (byt sx 4), .int .u8 (byt sx 5), .int .u8 (byt sx 6), .int .u8 (byt sx 7)] from rfl]
  refine (check_c _ sx ls 0 2 L2 A 1 c p (Lib.hid (RP.out.ext Q.out))).mono ?_
  rw [Y2.out]
  rintro e v9 ⟨rfl, hb⟩
  have Q2 : Hid (Below V.heap.size V v9) := Lib.hid (ext_trans Q.out hb)
  clear hb Q
  go_wp2_with fail
  refine ⟨Q2.out, ?_⟩
  have Q := Q2
  clear Q2
  iterate 3 (refine schedC_pure (v := ?_) rfl (by rfl) ?_ ?_; rotate_left; (focus (intro u hC; obtain ⟨a0, a1, a2, a3, a4, a5, a6, a7, _, _, _, _, _, _, _, _⟩ := full8 (keepB hC D1.out); obtain ⟨b0, b1, b2, b3, b4, b5, b6, b7, _, _, _, _, _, _, _, _⟩ := full8 (keepB hC D2.out); obtain ⟨r0, r1, r2, r3, r4, r5, r6, r7, _, _, _, _, _, _, _, _⟩ := full8 (keepB hC D3.out); obtain ⟨s0, s1, s2, s3, s4, s5, s6, s7, _, _, _, _, _, _, _, _⟩ := full8 (keepB hC D7.out); go_simp; try with_reducible rfl)); try go_simp)
  refine schedC_eff rfl ?_
  intro J hJ
  go_wp2_with fail
  refine (height_c _ 5 (by omega)).mono ?_
  rw [hgt_5]
  rintro e v9 ⟨rfl, rfl⟩
  go_wp2_with fail
  refine ⟨Q.out, ?_⟩
  iterate 3 (refine schedC_pure (v := ?_) rfl (by rfl) ?_ ?_; rotate_left; (focus (intro u hC; obtain ⟨a0, a1, a2, a3, a4, a5, a6, a7, _, _, _, _, _, _, _, _⟩ := full8 (keepB hC D1.out); obtain ⟨b0, b1, b2, b3, b4, b5, b6, b7, _, _, _, _, _, _, _, _⟩ := full8 (keepB hC D2.out); obtain ⟨r0, r1, r2, r3, r4, r5, r6, r7, _, _, _, _, _, _, _, _⟩ := full8 (keepB hC D3.out); obtain ⟨s0, s1, s2, s3, s4, s5, s6, s7, _, _, _, _, _, _, _, _⟩ := full8 (keepB hC D7.out); go_simp; try with_reducible rfl)); try go_simp)
  refine schedC_nil (hJ0 _ _ ?_)
  clear hJ0
  go_wp2_with fail
  go_ret
  exact ⟨rfl, ext_trans B.out Q.out⟩
#print axioms told_c
end Go.Proofs.YtbejjmmopdcjoaaDoor
