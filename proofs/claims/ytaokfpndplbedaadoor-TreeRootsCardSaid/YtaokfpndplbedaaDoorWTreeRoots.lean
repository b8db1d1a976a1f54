/-
  TreeRoots: the walk.
-/
import Derived.Test.YtaokfpndplbedaaDoorTUni
namespace Go.Proofs.YtaokfpndplbedaaDoor
open Go.ChangeShapes Go.WideShapes Go.ChangeAt Go.RowKit Go.Deep

set_option maxRecDepth 100000 in
set_option maxHeartbeats 4000000 in
theorem walkTreeRoots (w : World) (A : Option Addr) (n c : Nat) (f : Nat → Nat) (h : RdX w A n c (fun j => .int .u16 (f j))) (hf : ∀ j, j < n → f j < 65536) : Calls Tryd.prog 3 #[.slice A n c] w (Holds w) := by
  obtain ⟨m, hm⟩ : ∃ m, m = min n 70 := ⟨_, rfl⟩
  have m70 : m ≤ 70 := by omega
  obtain ⟨l, hl⟩ : ∃ l, l = leavesN f m := ⟨_, rfl⟩
  have SC := Lib.hid (some_c w A n c f 70 (Lib.hid h) hf (by omega))
  rw [← hm, ← hl] at SC
  clear hm hl h hf
  obtain ⟨y, hy⟩ : ∃ y, y = (rootV l).1 := ⟨_, rfl⟩
  obtain ⟨er, he⟩ : ∃ er, er = (rootV l).2 := ⟨_, rfl⟩
  have HY := Lib.hid hy
  have HE := Lib.hid he
  clear hy he
  go_enter Tryd.func3, Tryd.ntmps3
  go_wp2_with fail
  refine SC.out.mono ?_
  rintro e w1 ⟨A1, c1, rfl, hO, hb⟩
  have RL := Lib.hid hO.rd
  have B := Lib.hid hb
  have ly : y < 18446744073709551616 := by rw [HY.out]; exact rootV_lt hO.small
  have E1 := eql_d ly ly
  rw [decide_eq_true rfl] at E1
  have G1 := guard_d .eql y y
  unfold digV at E1 G1
  clear hO hb SC
  go_wp2_with fail
  refine (root_c _ A1 m c1 l RL).mono ?_
  rw [← HY.out, ← HE.out]
  unfold digV
  rintro e w2 ⟨rfl, hb⟩
  replace RL := Lib.hid (RL.out.ext hb)
  replace B := Lib.hid (ext_trans B.out hb)
  clear hb
  go_upto_region 3 with fail
  obtain ⟨g3, h3⟩ : ∃ g, g = w2.heap.size := ⟨_, rfl⟩
  have D3 : Hid ((World.alloc w2 (.cells #[.int .u8 (byt y 0), .int .u8 (byt y 1), .int .u8 (byt y 2), .int .u8 (byt y 3), .int .u8 (byt y 4), .int .u8 (byt y 5), .int .u8 (byt y 6), .int .u8 (byt y 7)] 26)).heap[g3]? = some (.cells #[.int .u8 (byt y 0), .int .u8 (byt y 1), .int .u8 (byt y 2), .int .u8 (byt y 3), .int .u8 (byt y 4), .int .u8 (byt y 5), .int .u8 (byt y 6), .int .u8 (byt y 7)] 26 (0, 0))) := by rw [h3]; exact Go.heap_alloc_new w2 _
  replace RL : Hid (RdD (World.alloc w2 (.cells #[.int .u8 (byt y 0), .int .u8 (byt y 1), .int .u8 (byt y 2), .int .u8 (byt y 3), .int .u8 (byt y 4), .int .u8 (byt y 5), .int .u8 (byt y 6), .int .u8 (byt y 7)] 26)) A1 m c1 l) := RL.out.ext (ext_alloc _ _)
  replace B : Hid (Below w.heap.size w (World.alloc w2 (.cells #[.int .u8 (byt y 0), .int .u8 (byt y 1), .int .u8 (byt y 2), .int .u8 (byt y 3), .int .u8 (byt y 4), .int .u8 (byt y 5), .int .u8 (byt y 6), .int .u8 (byt y 7)] 26))) := ext_trans B.out (ext_alloc _ _)
  rw [← h3]
  clear h3
  generalize World.alloc w2 (.cells #[.int .u8 (byt y 0), .int .u8 (byt y 1), .int .u8 (byt y 2), .int .u8 (byt y 3), .int .u8 (byt y 4), .int .u8 (byt y 5), .int .u8 (byt y 6), .int .u8 (byt y 7)] 26) = W at *
  go_wp2_with fail
  refine (plain_c _ A1 m c1 l RL (by omega)).mono ?_
  rintro e w3 ⟨A2, c2, rfl, hO, hb⟩
  have RP := Lib.hid hO.rd
  replace D3 := Lib.hid (keepB hb D3.out)
  replace B := Lib.hid (ext_trans B.out hb)
  clear hO hb RL
  go_wp2_with fail
  refine (rroot_c _ A2 m c2 l RP).mono ?_
  rw [← HY.out, ← HE.out]
  unfold digV
  rintro e w4 ⟨rfl, hb⟩
  replace D3 := Lib.hid (keepB hb D3.out)
  replace B := Lib.hid (ext_trans B.out hb)
  clear hb RP
  go_upto_region 4 with fail
  obtain ⟨g6, h6⟩ : ∃ g, g = w4.heap.size := ⟨_, rfl⟩
  have D6 : Hid ((World.alloc w4 (.cells #[.int .u8 (byt y 0), .int .u8 (byt y 1), .int .u8 (byt y 2), .int .u8 (byt y 3), .int .u8 (byt y 4), .int .u8 (byt y 5), .int .u8 (byt y 6), .int .u8 (byt y 7)] 25)).heap[g6]? = some (.cells #[.int .u8 (byt y 0), .int .u8 (byt y 1), .int .u8 (byt y 2), .int .u8 (byt y 3), .int .u8 (byt y 4), .int .u8 (byt y 5), .int .u8 (byt y 6), .int .u8 (byt y 7)] 25 (0, 0))) := by rw [h6]; exact Go.heap_alloc_new w4 _
  replace D3 : Hid ((World.alloc w4 (.cells #[.int .u8 (byt y 0), .int .u8 (byt y 1), .int .u8 (byt y 2), .int .u8 (byt y 3), .int .u8 (byt y 4), .int .u8 (byt y 5), .int .u8 (byt y 6), .int .u8 (byt y 7)] 25)).heap[g3]? = some (.cells #[.int .u8 (byt y 0), .int .u8 (byt y 1), .int .u8 (byt y 2), .int .u8 (byt y 3), .int .u8 (byt y 4), .int .u8 (byt y 5), .int .u8 (byt y 6), .int .u8 (byt y 7)] 26 (0, 0))) := keepA D3.out
  replace B : Hid (Below w.heap.size w (World.alloc w4 (.cells #[.int .u8 (byt y 0), .int .u8 (byt y 1), .int .u8 (byt y 2), .int .u8 (byt y 3), .int .u8 (byt y 4), .int .u8 (byt y 5), .int .u8 (byt y 6), .int .u8 (byt y 7)] 25))) := ext_trans B.out (ext_alloc _ _)
  rw [← h6]
  clear h6
  generalize World.alloc w4 (.cells #[.int .u8 (byt y 0), .int .u8 (byt y 1), .int .u8 (byt y 2), .int .u8 (byt y 3), .int .u8 (byt y 4), .int .u8 (byt y 5), .int .u8 (byt y 6), .int .u8 (byt y 7)] 25) = V at *
  go_wp2_with fail
  refine (told_c _).mono ?_
  rintro e w5 ⟨rfl, hb⟩
  replace D3 := Lib.hid (keepB hb D3.out)
  replace D6 := Lib.hid (keepB hb D6.out)
  replace B := Lib.hid (ext_trans B.out hb)
  clear hb
  obtain ⟨a0, a1, a2, a3, a4, a5, a6, a7, _, _, _, _, _, _, _, _⟩ := full8 D3.out
  obtain ⟨b0, b1, b2, b3, b4, b5, b6, b7, _, _, _, _, _, _, _, _⟩ := full8 D6.out
  go_wp2_with fail
  refine (height_c _ m (by omega)).mono ?_
  rintro e w6 ⟨rfl, rfl⟩
  go_wp2_with fail
  refine (rheight_c _ m (by omega)).mono ?_
  rintro e w7 ⟨rfl, rfl⟩
  go_wp2_with fail
  go_ret
  exact ⟨rfl, B.out⟩
#print axioms walkTreeRoots
end Go.Proofs.YtaokfpndplbedaaDoor
