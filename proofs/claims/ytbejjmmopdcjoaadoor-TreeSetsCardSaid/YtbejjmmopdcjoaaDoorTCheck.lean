/-
  tree: With, Check: contracts.
-/
import Derived.Test.YtbejjmmopdcjoaaDoorTClimb
namespace Go.Proofs.YtbejjmmopdcjoaaDoor
open Go.RowKit Go.Deep

/-- what a leaf of such a place comes to with its path, and whether there is such a place -/
def comes (i : Int) (x : Nat) (xs : List Nat) : Nat × Bool := if xs.length ≤ 12 ∧ 0 ≤ i ∧ i < ((2 ^ xs.length : Nat) : Int) then (withN i.toNat x xs, true) else (0, false)
theorem comes_lt {i : Int} {x : Nat} {xs : List Nat} (hx : x < 18446744073709551616) (hs : Small xs) : (comes i x xs).1 < 18446744073709551616 := by
  unfold comes
  split
  · exact withN_lt hx hs
  · show 0 < _; omega
theorem comes_at {i x H : Nat} {xs : List Nat} (hl : xs.length = H) (hH : H ≤ 12) (hi : i < 2 ^ H) : comes (i : Int) x xs = (withN i x xs, true) := by
  unfold comes
  rw [if_pos ⟨by omega, by omega, by rw [hl]; exact Int.ofNat_lt.2 hi⟩, Int.toNat_natCast]
set_option maxRecDepth 100000 in
theorem climb_c (w : World) (i : Int) (x : Nat) (hx : x < 18446744073709551616) (A : Option Addr) (n c : Nat) (xs : List Nat) (h : Hid (RdD w A n c xs)) : Calls Tryd.prog 40 #[.int .i64 i, digV x, .slice A n c] w (Hands (.tuple #[digV (comes i x xs).1, .bool (comes i x xs).2]) w) := by
  have HL := h.out.len
  have hmx := h.out.max
  have hle := h.out.le
  unfold comes
  rw [HL]
  by_cases h0 : n ≤ 12 ∧ 0 ≤ i ∧ i < ((2 ^ n : Nat) : Int)
  · rw [if_pos h0]
    obtain ⟨h1, h2, h3⟩ := h0
    obtain ⟨m, rfl⟩ : ∃ m : Nat, i = (m : Int) := ⟨i.toNat, by omega⟩
    rw [Int.toNat_natCast]
    exact climb_ok w m x hx A n c xs h h1 (Int.ofNat_lt.1 h3)
  · rw [if_neg h0]
    exact climb_no w i x A n c (by omega) h0

set_option maxRecDepth 100000 in
set_option maxHeartbeats 1000000 in
theorem with_c (w : World) (i : Int) (x : Nat) (hx : x < 18446744073709551616) (A : Option Addr) (n c : Nat) (xs : List Nat) (h : Hid (RdD w A n c xs)) : Calls Tryd.prog 22 #[.int .i64 i, digV x, .slice A n c] w (Hands (digV (comes i x xs).1) w) := by
  obtain ⟨y, hy⟩ : ∃ y, y = (comes i x xs).1 := ⟨_, rfl⟩
  have HY := Lib.hid hy
  rw [← hy]
  clear hy
  unfold digV
  go_enter Tryd.func22, Tryd.ntmps22
  go_wp2_with fail
  rw [← show digV x = .agg #[.int .u8 (byt x 0), .int .u8 (byt x 1), .int .u8 (byt x 2), .int .u8 (byt x 3), .int .u8 (byt x 4), .int .u8 (byt x 5), .int .u8 (byt x 6), .int .u8 (byt x 7)] from rfl]
  refine (climb_c _ i x hx A n c xs (Lib.hid (h.out.ext (ext_trans (ext_alloc w (.cells #[.int .u8 (byt x 0), .int .u8 (byt x 1), .int .u8 (byt x 2), .int .u8 (byt x 3), .int .u8 (byt x 4), .int .u8 (byt x 5), .int .u8 (byt x 6), .int .u8 (byt x 7)] 26)) (ext_alloc _ (.cells #[.int .u8 0, .int .u8 0, .int .u8 0, .int .u8 0, .int .u8 0, .int .u8 0, .int .u8 0, .int .u8 0] 26)))))).mono ?_
  rw [← HY.out]
  unfold digV
  rintro e w1 ⟨rfl, hb⟩
  have R := Lib.hid (keepB (b := w.heap.size + 1) hb (heap_alloc_newest (w := World.alloc _ _) (by simp)))
  have B := Lib.hid (ext_trans (ext_trans (ext_alloc _ _) (ext_alloc _ _)) hb)
  have z1 : w.heap.size + 1 < w1.heap.size := (Array.getElem?_eq_some_iff.1 R.out).1
  clear hb
  go_upto_region 2 with fail
  have M : Hid ((World.alloc w1 (.cells #[.int .u8 (byt y 0), .int .u8 (byt y 1), .int .u8 (byt y 2), .int .u8 (byt y 3), .int .u8 (byt y 4), .int .u8 (byt y 5), .int .u8 (byt y 6), .int .u8 (byt y 7)] 26)).heap[w1.heap.size]? = some (.cells #[.int .u8 (byt y 0), .int .u8 (byt y 1), .int .u8 (byt y 2), .int .u8 (byt y 3), .int .u8 (byt y 4), .int .u8 (byt y 5), .int .u8 (byt y 6), .int .u8 (byt y 7)] 26 (0, 0))) := Go.heap_alloc_new w1 _
  obtain ⟨d0, d1, d2, d3, d4, d5, d6, d7, _, _, _, _, _, _, _, _⟩ := full8 M.out
  replace R : Hid ((World.alloc w1 (.cells #[.int .u8 (byt y 0), .int .u8 (byt y 1), .int .u8 (byt y 2), .int .u8 (byt y 3), .int .u8 (byt y 4), .int .u8 (byt y 5), .int .u8 (byt y 6), .int .u8 (byt y 7)] 26)).heap[w.heap.size + 1]? = some (.cells #[.int .u8 0, .int .u8 0, .int .u8 0, .int .u8 0, .int .u8 0, .int .u8 0, .int .u8 0, .int .u8 0] 26 (0, 0))) := keepA R.out
  replace B : Hid (Below w.heap.size w (World.alloc w1 (.cells #[.int .u8 (byt y 0), .int .u8 (byt y 1), .int .u8 (byt y 2), .int .u8 (byt y 3), .int .u8 (byt y 4), .int .u8 (byt y 5), .int .u8 (byt y 6), .int .u8 (byt y 7)] 26))) := ext_trans B.out (ext_alloc _ _)
  generalize World.alloc w1 (.cells #[.int .u8 (byt y 0), .int .u8 (byt y 1), .int .u8 (byt y 2), .int .u8 (byt y 3), .int .u8 (byt y 4), .int .u8 (byt y 5), .int .u8 (byt y 6), .int .u8 (byt y 7)] 26) = V at *
  obtain ⟨c0, c1, c2, c3, c4, c5, c6, c7, f0, f1, f2, f3, f4, f5, f6, f7⟩ := full8 R.out
  go_wp2_with fail
  obtain ⟨g0, g1, g2, g3, g4, g5, g6, g7⟩ := put8 R.out (.int .u8 (byt y 0)) (.int .u8 (byt y 1)) (.int .u8 (byt y 2)) (.int .u8 (byt y 3)) (.int .u8 (byt y 4)) (.int .u8 (byt y 5)) (.int .u8 (byt y 6)) (.int .u8 (byt y 7))
  refine bodyPost_ret (v := digV y) (by unfold digV; simp only [results, Tryd.results22]; simp [go_sem, g0, g1, g2, g3, g4, g5, g6, g7]) rfl ⟨by unfold digV; rfl, bel8 B.out (Nat.le_refl _) (by omega) _ _ _ _ _ _ _ _⟩
#print axioms with_c

set_option maxRecDepth 100000 in
set_option maxHeartbeats 1000000 in
theorem check_c (w : World) (r : Nat) (hr : r < 18446744073709551616) (i : Int) (x : Nat) (hx : x < 18446744073709551616) (A : Option Addr) (n c : Nat) (xs : List Nat) (h : Hid (RdD w A n c xs)) : Calls Tryd.prog 23 #[digV r, .int .i64 i, digV x, .slice A n c] w (Hands (.bool ((comes i x xs).2 && decide ((comes i x xs).1 = r))) w) := by
  have ly := comes_lt (i := i) hx h.out.small
  obtain ⟨y, hy⟩ : ∃ y, y = (comes i x xs).1 := ⟨_, rfl⟩
  obtain ⟨ok, ho⟩ : ∃ ok, ok = (comes i x xs).2 := ⟨_, rfl⟩
  have HY := Lib.hid hy
  have HO := Lib.hid ho
  have E1 := eql_d (n := y) (m := r) (by rw [hy]; exact ly) hr
  have G1 := guard_d .eql y r
  rw [← hy, ← ho]
  clear hy ho ly
  obtain ⟨t, ht⟩ : ∃ t : Bool, t = decide (y = r) := ⟨_, rfl⟩
  rw [← ht] at E1 ⊢
  clear ht
  unfold digV at E1 G1 ⊢
  go_enter Tryd.func23, Tryd.ntmps23
  go_wp2_with fail
  rw [← show digV x = .agg #[.int .u8 (byt x 0), .int .u8 (byt x 1), .int .u8 (byt x 2), .int .u8 (byt x 3), .int .u8 (byt x 4), .int .u8 (byt x 5), .int .u8 (byt x 6), .int .u8 (byt x 7)] from rfl]
  refine (climb_c _ i x hx A n c xs (Lib.hid (h.out.ext (ext_trans (ext_alloc w (.cells #[.int .u8 (byt r 0), .int .u8 (byt r 1), .int .u8 (byt r 2), .int .u8 (byt r 3), .int .u8 (byt r 4), .int .u8 (byt r 5), .int .u8 (byt r 6), .int .u8 (byt r 7)] 26)) (ext_alloc _ (.cells #[.int .u8 (byt x 0), .int .u8 (byt x 1), .int .u8 (byt x 2), .int .u8 (byt x 3), .int .u8 (byt x 4), .int .u8 (byt x 5), .int .u8 (byt x 6), .int .u8 (byt x 7)] 26)))))).mono ?_
  rw [← HY.out, ← HO.out]
  unfold digV
  rintro e w1 ⟨rfl, hb⟩
  have R := Lib.hid (keepB (b := w.heap.size) hb (keepA (heap_alloc_newest (w := w) rfl)))
  have B := Lib.hid (ext_trans (ext_trans (ext_alloc _ _) (ext_alloc _ _)) hb)
  clear hb
  go_upto_region 2 with fail
  have M : Hid ((World.alloc w1 (.cells #[.int .u8 (byt y 0), .int .u8 (byt y 1), .int .u8 (byt y 2), .int .u8 (byt y 3), .int .u8 (byt y 4), .int .u8 (byt y 5), .int .u8 (byt y 6), .int .u8 (byt y 7)] 26)).heap[w1.heap.size]? = some (.cells #[.int .u8 (byt y 0), .int .u8 (byt y 1), .int .u8 (byt y 2), .int .u8 (byt y 3), .int .u8 (byt y 4), .int .u8 (byt y 5), .int .u8 (byt y 6), .int .u8 (byt y 7)] 26 (0, 0))) := Go.heap_alloc_new w1 _
  obtain ⟨d0, d1, d2, d3, d4, d5, d6, d7, _, _, _, _, _, _, _, _⟩ := full8 M.out
  replace R : Hid ((World.alloc w1 (.cells #[.int .u8 (byt y 0), .int .u8 (byt y 1), .int .u8 (byt y 2), .int .u8 (byt y 3), .int .u8 (byt y 4), .int .u8 (byt y 5), .int .u8 (byt y 6), .int .u8 (byt y 7)] 26)).heap[w.heap.size]? = some (.cells #[.int .u8 (byt r 0), .int .u8 (byt r 1), .int .u8 (byt r 2), .int .u8 (byt r 3), .int .u8 (byt r 4), .int .u8 (byt r 5), .int .u8 (byt r 6), .int .u8 (byt r 7)] 26 (0, 0))) := keepA R.out
  obtain ⟨r0, r1, r2, r3, r4, r5, r6, r7, _, _, _, _, _, _, _, _⟩ := full8 R.out
  replace B : Hid (Below w.heap.size w (World.alloc w1 (.cells #[.int .u8 (byt y 0), .int .u8 (byt y 1), .int .u8 (byt y 2), .int .u8 (byt y 3), .int .u8 (byt y 4), .int .u8 (byt y 5), .int .u8 (byt y 6), .int .u8 (byt y 7)] 26))) := ext_trans B.out (ext_alloc _ _)
  generalize World.alloc w1 (.cells #[.int .u8 (byt y 0), .int .u8 (byt y 1), .int .u8 (byt y 2), .int .u8 (byt y 3), .int .u8 (byt y 4), .int .u8 (byt y 5), .int .u8 (byt y 6), .int .u8 (byt y 7)] 26) = V at *
  cases ok
  · go_wp2_with fail
    go_ret
    exact ⟨rfl, B.out⟩
  · go_wp2_with fail
    go_ret
    exact ⟨by simp, B.out⟩
#print axioms check_c
end Go.Proofs.YtbejjmmopdcjoaaDoor
