/-
  tree: of a tree that isn't there; Leaf: contracts.
-/
import Derived.Test.YtbejjmmopdcjoaaDoorTUni
namespace Go.Proofs.YtbejjmmopdcjoaaDoor
open Go.RowKit Go.Deep

set_option maxRecDepth 100000 in
set_option maxHeartbeats 1000000 in
theorem leaf_nil (w : World) (i : Int) : Calls Tryd.prog 29 #[.pointer none, .int .i64 i] w (Hands (.tuple #[digV 0, .bool false]) w) := by
  have R := Lib.hid (heap_alloc_newest (w := w) (c := w.heap.size) (x := .cells #[.int .u8 0, .int .u8 0, .int .u8 0, .int .u8 0, .int .u8 0, .int .u8 0, .int .u8 0, .int .u8 0] 26) rfl)
  go_enter Tryd.func29, Tryd.ntmps29
  go_wp2_with fail
  refine (has_nil _ i).mono ?_
  rintro e w1 ⟨rfl, rfl⟩
  obtain ⟨c0, c1, c2, c3, c4, c5, c6, c7, f0, f1, f2, f3, f4, f5, f6, f7⟩ := full8 R.out
  go_wp2_with fail
  refine bodyPost_ret (v := .tuple #[.agg #[.int .u8 0, .int .u8 0, .int .u8 0, .int .u8 0, .int .u8 0, .int .u8 0, .int .u8 0, .int .u8 0], .bool false]) (by simp only [results, Tryd.results29]; simp [go_sem, c0, c1, c2, c3, c4, c5, c6, c7]) rfl ⟨by rw [dig_zero], ext_alloc _ _⟩
set_option maxRecDepth 100000 in
set_option maxHeartbeats 1000000 in
theorem leaf_no (w : World) (Lo T : Nat) (l : List Nat) (i : Int) (h : Hid (TrAt w Lo T l)) (hi : ¬ (0 ≤ i ∧ i < (l.length : Int))) : Calls Tryd.prog 29 #[.pointer (some ⟨T, 0, none⟩), .int .i64 i] w (Hands (.tuple #[digV 0, .bool false]) w) := by
  have HD := Lib.hid (show decide (0 ≤ i ∧ i < (l.length : Int)) = false from decide_eq_false hi)
  have R := Lib.hid (heap_alloc_newest (w := w) (c := w.heap.size) (x := .cells #[.int .u8 0, .int .u8 0, .int .u8 0, .int .u8 0, .int .u8 0, .int .u8 0, .int .u8 0, .int .u8 0] 26) rfl)
  clear hi
  go_enter Tryd.func29, Tryd.ntmps29
  go_wp2_with fail
  refine (has_c _ Lo T l i (Lib.hid (h.out.ext (ext_alloc _ _)))).mono ?_
  rw [HD.out]
  rintro e w1 ⟨rfl, rfl⟩
  obtain ⟨c0, c1, c2, c3, c4, c5, c6, c7, f0, f1, f2, f3, f4, f5, f6, f7⟩ := full8 R.out
  go_wp2_with fail
  refine bodyPost_ret (v := .tuple #[.agg #[.int .u8 0, .int .u8 0, .int .u8 0, .int .u8 0, .int .u8 0, .int .u8 0, .int .u8 0, .int .u8 0], .bool false]) (by simp only [results, Tryd.results29]; simp [go_sem, c0, c1, c2, c3, c4, c5, c6, c7]) rfl ⟨by rw [dig_zero], ext_alloc _ _⟩
set_option maxRecDepth 100000 in
set_option maxHeartbeats 1000000 in
theorem leaf_ok (w : World) (Lo T : Nat) (l : List Nat) (i : Nat) (h : Hid (TrAt w Lo T l)) (hi : i < l.length) : Calls Tryd.prog 29 #[.pointer (some ⟨T, 0, none⟩), .int .i64 i] w (Hands (.tuple #[digV (l.getD i 0), .bool true]) w) := by
  have HD := Lib.hid (show decide (0 ≤ (i : Int) ∧ (i : Int) < (l.length : Int)) = true from decide_eq_true ⟨by omega, by omega⟩)
  have R := Lib.hid (heap_alloc_newest (w := w) (c := w.heap.size) (x := .cells #[.int .u8 0, .int .u8 0, .int .u8 0, .int .u8 0, .int .u8 0, .int .u8 0, .int .u8 0, .int .u8 0] 26) rfl)
  obtain ⟨y, hy⟩ : ∃ y, y = l.getD i 0 := ⟨_, rfl⟩
  have HV : Hid (∃ g c, (w.alloc (.cells #[.int .u8 0, .int .u8 0, .int .u8 0, .int .u8 0, .int .u8 0, .int .u8 0, .int .u8 0, .int .u8 0] 26)).cell? ⟨T, 0, none⟩ = some (.slice (some ⟨g, 0, none⟩) l.length c) ∧ ((w.alloc (.cells #[.int .u8 0, .int .u8 0, .int .u8 0, .int .u8 0, .int .u8 0, .int .u8 0, .int .u8 0, .int .u8 0] 26)).cell? ⟨g, i * 8, none⟩ = some (.int .u8 (byt y 0)) ∧ (w.alloc (.cells #[.int .u8 0, .int .u8 0, .int .u8 0, .int .u8 0, .int .u8 0, .int .u8 0, .int .u8 0, .int .u8 0] 26)).cell? ⟨g, i * 8 + 1, none⟩ = some (.int .u8 (byt y 1)) ∧ (w.alloc (.cells #[.int .u8 0, .int .u8 0, .int .u8 0, .int .u8 0, .int .u8 0, .int .u8 0, .int .u8 0, .int .u8 0] 26)).cell? ⟨g, i * 8 + 2, none⟩ = some (.int .u8 (byt y 2)) ∧ (w.alloc (.cells #[.int .u8 0, .int .u8 0, .int .u8 0, .int .u8 0, .int .u8 0, .int .u8 0, .int .u8 0, .int .u8 0] 26)).cell? ⟨g, i * 8 + 3, none⟩ = some (.int .u8 (byt y 3)) ∧ (w.alloc (.cells #[.int .u8 0, .int .u8 0, .int .u8 0, .int .u8 0, .int .u8 0, .int .u8 0, .int .u8 0, .int .u8 0] 26)).cell? ⟨g, i * 8 + 4, none⟩ = some (.int .u8 (byt y 4)) ∧ (w.alloc (.cells #[.int .u8 0, .int .u8 0, .int .u8 0, .int .u8 0, .int .u8 0, .int .u8 0, .int .u8 0, .int .u8 0] 26)).cell? ⟨g, i * 8 + 5, none⟩ = some (.int .u8 (byt y 5)) ∧ (w.alloc (.cells #[.int .u8 0, .int .u8 0, .int .u8 0, .int .u8 0, .int .u8 0, .int .u8 0, .int .u8 0, .int .u8 0] 26)).cell? ⟨g, i * 8 + 6, none⟩ = some (.int .u8 (byt y 6)) ∧ (w.alloc (.cells #[.int .u8 0, .int .u8 0, .int .u8 0, .int .u8 0, .int .u8 0, .int .u8 0, .int .u8 0, .int .u8 0] 26)).cell? ⟨g, i * 8 + 7, none⟩ = some (.int .u8 (byt y 7)))) := by
    have h2 := h.out.ext (ext_alloc w (.cells #[.int .u8 0, .int .u8 0, .int .u8 0, .int .u8 0, .int .u8 0, .int .u8 0, .int .u8 0, .int .u8 0] 26))
    obtain ⟨g, c, k1, k2, k3⟩ := h2.leaves
    have rd := (k2.own k3 (Nat.zero_le _) l rfl (fun _ _ => rfl) h2.small).rd
    obtain ⟨b, o, hA, _, hc⟩ := rd.at hi
    injection hA with hA
    injection hA with e1 e2 _
    subst e1 e2
    rw [← hy] at hc
    simp only [Nat.zero_add] at hc
    exact ⟨g, c, k1, hc⟩
  rw [← hy]
  clear hy
  obtain ⟨n, hn⟩ : ∃ n, n = l.length := ⟨_, rfl⟩
  have rI : (i : Int) < (n : Int) := by omega
  have rI0 : (0 : Int) ≤ (i : Int) := by omega
  unfold digV
  go_enter Tryd.func29, Tryd.ntmps29
  go_wp2_with fail
  refine (has_c _ Lo T l (i : Int) (Lib.hid (h.out.ext (ext_alloc _ _)))).mono ?_
  rw [HD.out]
  rintro e w1 ⟨rfl, rfl⟩
  obtain ⟨g, c, tc, c0, c1, c2, c3, c4, c5, c6, c7⟩ := HV.out
  obtain ⟨z0, z1, z2, z3, z4, z5, z6, z7, f0, f1, f2, f3, f4, f5, f6, f7⟩ := full8 R.out
  rw [← hn] at tc
  clear hn
  go_wp2_with fail
  have RY := Lib.hid (heap_alloc_newest (w := w) (c := w.heap.size) (x := .cells #[.int .u8 (byt y 0), .int .u8 (byt y 1), .int .u8 (byt y 2), .int .u8 (byt y 3), .int .u8 (byt y 4), .int .u8 (byt y 5), .int .u8 (byt y 6), .int .u8 (byt y 7)] 26) rfl)
  obtain ⟨y0, y1, y2, y3, y4, y5, y6, y7, _, _, _, _, _, _, _, _⟩ := full8 RY.out
  refine bodyPost_ret (v := .tuple #[.agg #[.int .u8 (byt y 0), .int .u8 (byt y 1), .int .u8 (byt y 2), .int .u8 (byt y 3), .int .u8 (byt y 4), .int .u8 (byt y 5), .int .u8 (byt y 6), .int .u8 (byt y 7)], .bool true]) (by simp only [results, Tryd.results29]; simp [go_sem, y0, y1, y2, y3, y4, y5, y6, y7]) rfl ⟨rfl, ext_alloc _ _⟩
#print axioms leaf_ok

set_option maxRecDepth 100000 in
set_option maxHeartbeats 1000000 in
theorem set_nil (w : World) (i : Int) (x : Nat) : Calls Tryd.prog 25 #[.pointer none, .int .i64 i, digV x] w (Hands (.int .i64 1) w) := by
  unfold digV
  go_enter Tryd.func25, Tryd.ntmps25
  go_wp2_with fail
  go_ret
  exact ⟨rfl, ext_alloc _ _⟩
set_option maxRecDepth 100000 in
set_option maxHeartbeats 1000000 in
theorem set_no (w : World) (Lo T : Nat) (l : List Nat) (i : Int) (x : Nat) (h : Hid (TrAt w Lo T l)) (hi : ¬ (0 ≤ i ∧ i < (l.length : Int))) : Calls Tryd.prog 25 #[.pointer (some ⟨T, 0, none⟩), .int .i64 i, digV x] w (Hands (.int .i64 9) w) := by
  have HD := Lib.hid (show decide (0 ≤ i ∧ i < (l.length : Int)) = false from decide_eq_false hi)
  clear hi
  unfold digV
  go_enter Tryd.func25, Tryd.ntmps25
  go_wp2_with fail
  refine (has_c _ Lo T l i (Lib.hid (h.out.ext (ext_alloc _ _)))).mono ?_
  rw [HD.out]
  rintro e w1 ⟨rfl, rfl⟩
  go_wp2_with fail
  go_ret
  exact ⟨rfl, ext_alloc _ _⟩
set_option maxRecDepth 100000 in
set_option maxHeartbeats 1000000 in
theorem clone_nil (w : World) : Calls Tryd.prog 30 #[.pointer none] w (fun e w' => e = .returned (.pointer none) ∧ w' = w) := by
  go_enter Tryd.func30, Tryd.ntmps30
  go_wp2_with fail
  go_ret
  exact ⟨rfl, rfl⟩
set_option maxRecDepth 100000 in
set_option maxHeartbeats 1000000 in
theorem same_nil (w : World) : Calls Tryd.prog 31 #[.pointer none, .pointer none] w (fun e w' => e = .returned (.bool true) ∧ w' = w) := by
  go_enter Tryd.func31, Tryd.ntmps31
  go_wp2_with fail
  go_ret
  exact ⟨rfl, rfl⟩
theorem same_no (w : World) (T : Nat) : Calls Tryd.prog 31 #[.pointer (some ⟨T, 0, none⟩), .pointer none] w (fun e w' => e = .returned (.bool false) ∧ w' = w) := by
  go_enter Tryd.func31, Tryd.ntmps31
  go_wp2_with fail
  go_ret
  exact ⟨rfl, rfl⟩
#print axioms same_no
end Go.Proofs.YtbejjmmopdcjoaaDoor
