/-
  hash: states begun, numbers taken in, digests given out: contracts.
-/
import Derived.Test.YtbejjmmopdcjoaaDoorHNum
import Derived.Test.YtbejjmmopdcjoaaDoorSchedC
import Derived.StillTailTactics
namespace Go.Proofs.YtbejjmmopdcjoaaDoor
open Go.RowKit

def begin (k : Nat) : St := ⟨2611923443488327891, 1376283091369227076, 11820040416388919760, k⟩
theorem begin_ok {k : Nat} (h : k < 18446744073709551616) : (begin k).Ok := ⟨by show 2611923443488327891 < _; omega, by show 1376283091369227076 < _; omega, by show 11820040416388919760 < _; omega, h⟩
def takeN (s : St) (n : Nat) : St := stir ⟨s.a ^^^ n, s.b, s.c, s.d⟩
theorem takeN_pre {s : St} {n : Nat} (h : s.Ok) (hn : n < 18446744073709551616) : (⟨s.a ^^^ n, s.b, s.c, s.d⟩ : St).Ok := ⟨xor64_lt h.a hn, h.b, h.c, h.d⟩
theorem takeN_ok {s : St} {n : Nat} (h : s.Ok) (hn : n < 18446744073709551616) : (takeN s n).Ok := stir_ok (takeN_pre h hn)
def outN (s : St) : Nat := s.a ^^^ s.c
theorem outN_lt {s : St} (h : s.Ok) : outN s < 18446744073709551616 := xor64_lt h.a h.c

set_option maxRecDepth 100000 in
theorem start_c (w : World) (K : Int) (k : Nat) (hk : Hid (K = k)) : Calls Tryd.prog 56 #[.int .u64 K] w (Hands (stV (begin k)) w) := by
  go_enter Tryd.func56, Tryd.ntmps56
  go_wp2_with fail
  refine bodyPost_ret (v := stV (begin k)) ?_ rfl ⟨rfl, ext_alloc _ _⟩
  have e : stV (begin k) = .agg #[.int .u64 2611923443488327891, .int .u64 1376283091369227076, .int .u64 11820040416388919760, .int .u64 K] := by rw [hk.out]; rfl
  rw [e]
  simp [results, Tryd.results56, go_sem]
set_option maxRecDepth 100000 in
theorem begin_c (w : World) (K : Int) (k : Nat) (hk : Hid (K = k)) : Calls Tryd.prog 53 #[.int .u64 K] w (Hands (stV (begin k)) w) := by
  go_enter Tryd.func53, Tryd.ntmps53
  go_wp2_with fail
  refine bodyPost_ret (v := stV (begin k)) ?_ rfl ⟨rfl, ext_alloc _ _⟩
  have e : stV (begin k) = .agg #[.int .u64 2611923443488327891, .int .u64 1376283091369227076, .int .u64 11820040416388919760, .int .u64 K] := by rw [hk.out]; rfl
  rw [e]
  simp [results, Tryd.results53, go_sem]

/-- the call turns the state in block b into this one -/
def Makes (T : TypeId) (b : Nat) (s : St) (w : World) (e : Ending) (w' : World) : Prop := e = .returned (.tuple #[]) ∧ StAt w' T b s ∧ w.grownBy w' (some b)

set_option maxRecDepth 100000 in
set_option maxHeartbeats 400000 in
theorem take_c (w : World) (b : Nat) (s : St) (n : Nat) (hn : n < 18446744073709551616) (h : Hid (StAt w 95 b s)) : Calls Tryd.prog 57 #[.pointer (some ⟨b, 0, none⟩), .int .u64 n] w (Makes 95 b (takeN s n) w) := by
  have hb := h.out.blk
  have c0 : w.cell? ⟨b, 0, none⟩ = some (.int .u64 s.a) := by rw [cell_of_row w b 0 _ _ _ hb]; rfl
  have f0 : w.frozen? ⟨b, 0, none⟩ = false := by simp [World.frozen?, hb]
  have HB := Lib.hid hb
  clear hb
  have Ln := h.out.ok.a
  obtain ⟨x, hx⟩ : ∃ x : Nat, x = s.a ^^^ n := ⟨_, rfl⟩
  have E : bits BinOp.xor IntKind.u64 (s.a : Int) (n : Int) = (x : Int) := by rw [hx]; exact bits_xor_u64_nat _ _ Ln hn
  have HX := Lib.hid hx
  have OK := Lib.hid (takeN_pre h.out.ok hn)
  clear hx
  go_enter Tryd.func57, Tryd.ntmps57
  go_wp2_with fail
  go_still_tail 8, (by kernel_rfl)
  change wpList _ _ _ _ _ w.drew
  go_wp2_with fail
  have S : Hid (StAt (w.drew.setCell ⟨b, 0, none⟩ (.int .u64 x)) 95 b ⟨s.a ^^^ n, s.b, s.c, s.d⟩) := ⟨by rw [← HX.out]; exact heap_set_same (w := w.drew) _ HB.out, OK.out⟩
  refine (stir_c _ _ _ S).mono ?_
  rintro e w2 ⟨rfl, hs, hg⟩
  have HS := Lib.hid hs
  have HG := Lib.hid hg
  clear hs hg
  go_wp2_with fail
  go_end0
  exact ⟨rfl, HS.out, grown_then (draws_grown w 1) (grown_then (setCell_grown _) HG.out)⟩
theorem full4 {w : World} {b : Nat} {T : TypeId} {x0 x1 x2 x3 : Value} (h : w.heap[b]? = some (.cells #[x0, x1, x2, x3] T (0, 0))) :
    w.cell? ⟨b, 0, none⟩ = some x0 ∧ w.cell? ⟨b, 1, none⟩ = some x1 ∧ w.cell? ⟨b, 2, none⟩ = some x2 ∧ w.cell? ⟨b, 3, none⟩ = some x3 ∧ w.frozen? ⟨b, 0, none⟩ = false ∧ w.frozen? ⟨b, 1, none⟩ = false ∧ w.frozen? ⟨b, 2, none⟩ = false ∧ w.frozen? ⟨b, 3, none⟩ = false :=
  ⟨by rw [cell_of_row w _ 0 _ _ _ h]; rfl, by rw [cell_of_row w _ 1 _ _ _ h]; rfl, by rw [cell_of_row w _ 2 _ _ _ h]; rfl, by rw [cell_of_row w _ 3 _ _ _ h]; rfl, by simp [World.frozen?, h], by simp [World.frozen?, h], by simp [World.frozen?, h], by simp [World.frozen?, h]⟩
theorem full8 {w : World} {b : Nat} {T : TypeId} {x0 x1 x2 x3 x4 x5 x6 x7 : Value} (h : w.heap[b]? = some (.cells #[x0, x1, x2, x3, x4, x5, x6, x7] T (0, 0))) :
    w.cell? ⟨b, 0, none⟩ = some x0 ∧ w.cell? ⟨b, 1, none⟩ = some x1 ∧ w.cell? ⟨b, 2, none⟩ = some x2 ∧ w.cell? ⟨b, 3, none⟩ = some x3 ∧ w.cell? ⟨b, 4, none⟩ = some x4 ∧ w.cell? ⟨b, 5, none⟩ = some x5 ∧ w.cell? ⟨b, 6, none⟩ = some x6 ∧ w.cell? ⟨b, 7, none⟩ = some x7 ∧ w.frozen? ⟨b, 0, none⟩ = false ∧ w.frozen? ⟨b, 1, none⟩ = false ∧ w.frozen? ⟨b, 2, none⟩ = false ∧ w.frozen? ⟨b, 3, none⟩ = false ∧ w.frozen? ⟨b, 4, none⟩ = false ∧ w.frozen? ⟨b, 5, none⟩ = false ∧ w.frozen? ⟨b, 6, none⟩ = false ∧ w.frozen? ⟨b, 7, none⟩ = false :=
  ⟨by rw [cell_of_row w _ 0 _ _ _ h]; rfl, by rw [cell_of_row w _ 1 _ _ _ h]; rfl, by rw [cell_of_row w _ 2 _ _ _ h]; rfl, by rw [cell_of_row w _ 3 _ _ _ h]; rfl, by rw [cell_of_row w _ 4 _ _ _ h]; rfl, by rw [cell_of_row w _ 5 _ _ _ h]; rfl, by rw [cell_of_row w _ 6 _ _ _ h]; rfl, by rw [cell_of_row w _ 7 _ _ _ h]; rfl, by simp [World.frozen?, h], by simp [World.frozen?, h], by simp [World.frozen?, h], by simp [World.frozen?, h], by simp [World.frozen?, h], by simp [World.frozen?, h], by simp [World.frozen?, h], by simp [World.frozen?, h]⟩

theorem put4 {w : World} {b : Nat} {T : TypeId} {x0 x1 x2 x3 : Value} (h : w.heap[b]? = some (.cells #[x0, x1, x2, x3] T (0, 0))) (y0 y1 y2 y3 : Value) :
    ((World.setCell (World.setCell (World.setCell (World.setCell w ⟨b, 0, none⟩ y0) ⟨b, 1, none⟩ y1) ⟨b, 2, none⟩ y2) ⟨b, 3, none⟩ y3)).cell? ⟨b, 0, none⟩ = some y0 ∧ ((World.setCell (World.setCell (World.setCell (World.setCell w ⟨b, 0, none⟩ y0) ⟨b, 1, none⟩ y1) ⟨b, 2, none⟩ y2) ⟨b, 3, none⟩ y3)).cell? ⟨b, 1, none⟩ = some y1 ∧ ((World.setCell (World.setCell (World.setCell (World.setCell w ⟨b, 0, none⟩ y0) ⟨b, 1, none⟩ y1) ⟨b, 2, none⟩ y2) ⟨b, 3, none⟩ y3)).cell? ⟨b, 2, none⟩ = some y2 ∧ ((World.setCell (World.setCell (World.setCell (World.setCell w ⟨b, 0, none⟩ y0) ⟨b, 1, none⟩ y1) ⟨b, 2, none⟩ y2) ⟨b, 3, none⟩ y3)).cell? ⟨b, 3, none⟩ = some y3 := by
  have h0 : ((World.setCell w ⟨b, 0, none⟩ y0)).heap[b]? = some (.cells #[y0, x1, x2, x3] T (0, 0)) := heap_set_same (j := 0) y0 h
  have h1 : ((World.setCell (World.setCell w ⟨b, 0, none⟩ y0) ⟨b, 1, none⟩ y1)).heap[b]? = some (.cells #[y0, y1, x2, x3] T (0, 0)) := heap_set_same (j := 1) y1 h0
  have h2 : ((World.setCell (World.setCell (World.setCell w ⟨b, 0, none⟩ y0) ⟨b, 1, none⟩ y1) ⟨b, 2, none⟩ y2)).heap[b]? = some (.cells #[y0, y1, y2, x3] T (0, 0)) := heap_set_same (j := 2) y2 h1
  have h3 : ((World.setCell (World.setCell (World.setCell (World.setCell w ⟨b, 0, none⟩ y0) ⟨b, 1, none⟩ y1) ⟨b, 2, none⟩ y2) ⟨b, 3, none⟩ y3)).heap[b]? = some (.cells #[y0, y1, y2, y3] T (0, 0)) := heap_set_same (j := 3) y3 h2
  generalize (World.setCell (World.setCell (World.setCell (World.setCell w ⟨b, 0, none⟩ y0) ⟨b, 1, none⟩ y1) ⟨b, 2, none⟩ y2) ⟨b, 3, none⟩ y3) = z at *
  exact ⟨by rw [cell_of_row _ _ 0 _ _ _ h3]; rfl, by rw [cell_of_row _ _ 1 _ _ _ h3]; rfl, by rw [cell_of_row _ _ 2 _ _ _ h3]; rfl, by rw [cell_of_row _ _ 3 _ _ _ h3]; rfl⟩
theorem bel4 {w0 w : World} {B b : Nat} (k : Below B w0 w) (hB : B ≤ w0.heap.size) (hb : B ≤ b) (y0 y1 y2 y3 : Value) : Below B w0 ((World.setCell (World.setCell (World.setCell (World.setCell w ⟨b, 0, none⟩ y0) ⟨b, 1, none⟩ y1) ⟨b, 2, none⟩ y2) ⟨b, 3, none⟩ y3)) := (below_set (below_set (below_set (below_set k hB hb) hB hb) hB hb) hB hb)
theorem put8 {w : World} {b : Nat} {T : TypeId} {x0 x1 x2 x3 x4 x5 x6 x7 : Value} (h : w.heap[b]? = some (.cells #[x0, x1, x2, x3, x4, x5, x6, x7] T (0, 0))) (y0 y1 y2 y3 y4 y5 y6 y7 : Value) :
    ((World.setCell (World.setCell (World.setCell (World.setCell (World.setCell (World.setCell (World.setCell (World.setCell w ⟨b, 0, none⟩ y0) ⟨b, 1, none⟩ y1) ⟨b, 2, none⟩ y2) ⟨b, 3, none⟩ y3) ⟨b, 4, none⟩ y4) ⟨b, 5, none⟩ y5) ⟨b, 6, none⟩ y6) ⟨b, 7, none⟩ y7)).cell? ⟨b, 0, none⟩ = some y0 ∧ ((World.setCell (World.setCell (World.setCell (World.setCell (World.setCell (World.setCell (World.setCell (World.setCell w ⟨b, 0, none⟩ y0) ⟨b, 1, none⟩ y1) ⟨b, 2, none⟩ y2) ⟨b, 3, none⟩ y3) ⟨b, 4, none⟩ y4) ⟨b, 5, none⟩ y5) ⟨b, 6, none⟩ y6) ⟨b, 7, none⟩ y7)).cell? ⟨b, 1, none⟩ = some y1 ∧ ((World.setCell (World.setCell (World.setCell (World.setCell (World.setCell (World.setCell (World.setCell (World.setCell w ⟨b, 0, none⟩ y0) ⟨b, 1, none⟩ y1) ⟨b, 2, none⟩ y2) ⟨b, 3, none⟩ y3) ⟨b, 4, none⟩ y4) ⟨b, 5, none⟩ y5) ⟨b, 6, none⟩ y6) ⟨b, 7, none⟩ y7)).cell? ⟨b, 2, none⟩ = some y2 ∧ ((World.setCell (World.setCell (World.setCell (World.setCell (World.setCell (World.setCell (World.setCell (World.setCell w ⟨b, 0, none⟩ y0) ⟨b, 1, none⟩ y1) ⟨b, 2, none⟩ y2) ⟨b, 3, none⟩ y3) ⟨b, 4, none⟩ y4) ⟨b, 5, none⟩ y5) ⟨b, 6, none⟩ y6) ⟨b, 7, none⟩ y7)).cell? ⟨b, 3, none⟩ = some y3 ∧ ((World.setCell (World.setCell (World.setCell (World.setCell (World.setCell (World.setCell (World.setCell (World.setCell w ⟨b, 0, none⟩ y0) ⟨b, 1, none⟩ y1) ⟨b, 2, none⟩ y2) ⟨b, 3, none⟩ y3) ⟨b, 4, none⟩ y4) ⟨b, 5, none⟩ y5) ⟨b, 6, none⟩ y6) ⟨b, 7, none⟩ y7)).cell? ⟨b, 4, none⟩ = some y4 ∧ ((World.setCell (World.setCell (World.setCell (World.setCell (World.setCell (World.setCell (World.setCell (World.setCell w ⟨b, 0, none⟩ y0) ⟨b, 1, none⟩ y1) ⟨b, 2, none⟩ y2) ⟨b, 3, none⟩ y3) ⟨b, 4, none⟩ y4) ⟨b, 5, none⟩ y5) ⟨b, 6, none⟩ y6) ⟨b, 7, none⟩ y7)).cell? ⟨b, 5, none⟩ = some y5 ∧ ((World.setCell (World.setCell (World.setCell (World.setCell (World.setCell (World.setCell (World.setCell (World.setCell w ⟨b, 0, none⟩ y0) ⟨b, 1, none⟩ y1) ⟨b, 2, none⟩ y2) ⟨b, 3, none⟩ y3) ⟨b, 4, none⟩ y4) ⟨b, 5, none⟩ y5) ⟨b, 6, none⟩ y6) ⟨b, 7, none⟩ y7)).cell? ⟨b, 6, none⟩ = some y6 ∧ ((World.setCell (World.setCell (World.setCell (World.setCell (World.setCell (World.setCell (World.setCell (World.setCell w ⟨b, 0, none⟩ y0) ⟨b, 1, none⟩ y1) ⟨b, 2, none⟩ y2) ⟨b, 3, none⟩ y3) ⟨b, 4, none⟩ y4) ⟨b, 5, none⟩ y5) ⟨b, 6, none⟩ y6) ⟨b, 7, none⟩ y7)).cell? ⟨b, 7, none⟩ = some y7 := by
  have h0 : ((World.setCell w ⟨b, 0, none⟩ y0)).heap[b]? = some (.cells #[y0, x1, x2, x3, x4, x5, x6, x7] T (0, 0)) := heap_set_same (j := 0) y0 h
  have h1 : ((World.setCell (World.setCell w ⟨b, 0, none⟩ y0) ⟨b, 1, none⟩ y1)).heap[b]? = some (.cells #[y0, y1, x2, x3, x4, x5, x6, x7] T (0, 0)) := heap_set_same (j := 1) y1 h0
  have h2 : ((World.setCell (World.setCell (World.setCell w ⟨b, 0, none⟩ y0) ⟨b, 1, none⟩ y1) ⟨b, 2, none⟩ y2)).heap[b]? = some (.cells #[y0, y1, y2, x3, x4, x5, x6, x7] T (0, 0)) := heap_set_same (j := 2) y2 h1
  have h3 : ((World.setCell (World.setCell (World.setCell (World.setCell w ⟨b, 0, none⟩ y0) ⟨b, 1, none⟩ y1) ⟨b, 2, none⟩ y2) ⟨b, 3, none⟩ y3)).heap[b]? = some (.cells #[y0, y1, y2, y3, x4, x5, x6, x7] T (0, 0)) := heap_set_same (j := 3) y3 h2
  have h4 : ((World.setCell (World.setCell (World.setCell (World.setCell (World.setCell w ⟨b, 0, none⟩ y0) ⟨b, 1, none⟩ y1) ⟨b, 2, none⟩ y2) ⟨b, 3, none⟩ y3) ⟨b, 4, none⟩ y4)).heap[b]? = some (.cells #[y0, y1, y2, y3, y4, x5, x6, x7] T (0, 0)) := heap_set_same (j := 4) y4 h3
  have h5 : ((World.setCell (World.setCell (World.setCell (World.setCell (World.setCell (World.setCell w ⟨b, 0, none⟩ y0) ⟨b, 1, none⟩ y1) ⟨b, 2, none⟩ y2) ⟨b, 3, none⟩ y3) ⟨b, 4, none⟩ y4) ⟨b, 5, none⟩ y5)).heap[b]? = some (.cells #[y0, y1, y2, y3, y4, y5, x6, x7] T (0, 0)) := heap_set_same (j := 5) y5 h4
  have h6 : ((World.setCell (World.setCell (World.setCell (World.setCell (World.setCell (World.setCell (World.setCell w ⟨b, 0, none⟩ y0) ⟨b, 1, none⟩ y1) ⟨b, 2, none⟩ y2) ⟨b, 3, none⟩ y3) ⟨b, 4, none⟩ y4) ⟨b, 5, none⟩ y5) ⟨b, 6, none⟩ y6)).heap[b]? = some (.cells #[y0, y1, y2, y3, y4, y5, y6, x7] T (0, 0)) := heap_set_same (j := 6) y6 h5
  have h7 : ((World.setCell (World.setCell (World.setCell (World.setCell (World.setCell (World.setCell (World.setCell (World.setCell w ⟨b, 0, none⟩ y0) ⟨b, 1, none⟩ y1) ⟨b, 2, none⟩ y2) ⟨b, 3, none⟩ y3) ⟨b, 4, none⟩ y4) ⟨b, 5, none⟩ y5) ⟨b, 6, none⟩ y6) ⟨b, 7, none⟩ y7)).heap[b]? = some (.cells #[y0, y1, y2, y3, y4, y5, y6, y7] T (0, 0)) := heap_set_same (j := 7) y7 h6
  generalize (World.setCell (World.setCell (World.setCell (World.setCell (World.setCell (World.setCell (World.setCell (World.setCell w ⟨b, 0, none⟩ y0) ⟨b, 1, none⟩ y1) ⟨b, 2, none⟩ y2) ⟨b, 3, none⟩ y3) ⟨b, 4, none⟩ y4) ⟨b, 5, none⟩ y5) ⟨b, 6, none⟩ y6) ⟨b, 7, none⟩ y7) = z at *
  exact ⟨by rw [cell_of_row _ _ 0 _ _ _ h7]; rfl, by rw [cell_of_row _ _ 1 _ _ _ h7]; rfl, by rw [cell_of_row _ _ 2 _ _ _ h7]; rfl, by rw [cell_of_row _ _ 3 _ _ _ h7]; rfl, by rw [cell_of_row _ _ 4 _ _ _ h7]; rfl, by rw [cell_of_row _ _ 5 _ _ _ h7]; rfl, by rw [cell_of_row _ _ 6 _ _ _ h7]; rfl, by rw [cell_of_row _ _ 7 _ _ _ h7]; rfl⟩
theorem bel8 {w0 w : World} {B b : Nat} (k : Below B w0 w) (hB : B ≤ w0.heap.size) (hb : B ≤ b) (y0 y1 y2 y3 y4 y5 y6 y7 : Value) : Below B w0 ((World.setCell (World.setCell (World.setCell (World.setCell (World.setCell (World.setCell (World.setCell (World.setCell w ⟨b, 0, none⟩ y0) ⟨b, 1, none⟩ y1) ⟨b, 2, none⟩ y2) ⟨b, 3, none⟩ y3) ⟨b, 4, none⟩ y4) ⟨b, 5, none⟩ y5) ⟨b, 6, none⟩ y6) ⟨b, 7, none⟩ y7)) := (below_set (below_set (below_set (below_set (below_set (below_set (below_set (below_set k hB hb) hB hb) hB hb) hB hb) hB hb) hB hb) hB hb) hB hb)
set_option maxRecDepth 100000 in
set_option maxHeartbeats 400000 in
theorem rin_c (w : World) (s : St) (n : Nat) (hn : n < 18446744073709551616) (ok : Hid s.Ok) : Calls Tryd.prog 52 #[stV s, .int .u64 n] w (Hands (stV (takeN s n)) w) := by
  have Ln := ok.out.a
  obtain ⟨x, hx⟩ : ∃ x : Nat, x = s.a ^^^ n := ⟨_, rfl⟩
  have E : bits BinOp.xor IntKind.u64 (s.a : Int) (n : Int) = (x : Int) := by rw [hx]; exact bits_xor_u64_nat _ _ Ln hn
  have OK : Hid (St.Ok ⟨x, s.b, s.c, s.d⟩) := by rw [hx]; exact takeN_pre ok.out hn
  have HT : Hid (stV (takeN s n) = stV (stir ⟨x, s.b, s.c, s.d⟩)) := by rw [hx]; rfl
  clear hx
  rw [HT.out]
  unfold stV
  go_enter Tryd.func52, Tryd.ntmps52
  go_wp2_with fail
  refine (rstir_c _ ⟨x, s.b, s.c, s.d⟩ OK).mono ?_
  unfold stV
  rintro e w2 ⟨rfl, hb⟩
  have hr := (hb.block (w.heap.size + 1) (by simp)).trans (heap_alloc_newest (w := w.alloc _) (by simp))
  obtain ⟨c0, c1, c2, c3, f0, f1, f2, f3⟩ := full4 hr
  have HR := Lib.hid hr
  clear hr
  have HB := Lib.hid (ext_trans (ext_trans (ext_alloc _ _) (ext_alloc _ _)) hb)
  clear hb
  generalize stir ⟨x, s.b, s.c, s.d⟩ = z at *
  go_wp2_with fail
  obtain ⟨g0, g1, g2, g3⟩ := put4 HR.out (.int .u64 z.a) (.int .u64 z.b) (.int .u64 z.c) (.int .u64 z.d)
  refine bodyPost_ret (v := .agg #[.int .u64 z.a, .int .u64 z.b, .int .u64 z.c, .int .u64 z.d]) (by simp only [results, Tryd.results52]; simp [go_sem, g0, g1, g2, g3]) rfl ⟨rfl, bel4 HB.out (Nat.le_refl _) (by omega) _ _ _ _⟩

set_option maxRecDepth 100000 in
set_option maxHeartbeats 400000 in
theorem out_c (w : World) (s : St) (ok : Hid s.Ok) : Calls Tryd.prog 50 #[stV s] w (Hands (digV (outN s)) w) := by
  have L1 := ok.out.a
  have L2 := ok.out.c
  obtain ⟨x, hx⟩ : ∃ x : Nat, x = outN s := ⟨_, rfl⟩
  have E : bits BinOp.xor IntKind.u64 (s.a : Int) (s.c : Int) = (x : Int) := by rw [hx]; exact bits_xor_u64_nat _ _ L1 L2
  have LX : x < 18446744073709551616 := by rw [hx]; exact outN_lt ok.out
  rw [← hx]
  clear hx
  unfold stV
  go_enter Tryd.func50, Tryd.ntmps50
  go_wp2_with fail
  refine (rfromNum_c _ x LX).mono ?_
  unfold digV
  rintro e w2 ⟨rfl, hb⟩
  have hr := (hb.block (w.heap.size + 1) (by simp)).trans (heap_alloc_newest (w := w.alloc _) (by simp))
  obtain ⟨c0, c1, c2, c3, c4, c5, c6, c7, f0, f1, f2, f3, f4, f5, f6, f7⟩ := full8 hr
  have HR := Lib.hid hr
  have HB := Lib.hid (ext_trans (ext_trans (ext_alloc _ _) (ext_alloc _ _)) hb)
  clear hb hr
  go_wp2_with fail
  obtain ⟨g0, g1, g2, g3, g4, g5, g6, g7⟩ := put8 HR.out (.int .u8 (byt x 0)) (.int .u8 (byt x 1)) (.int .u8 (byt x 2)) (.int .u8 (byt x 3)) (.int .u8 (byt x 4)) (.int .u8 (byt x 5)) (.int .u8 (byt x 6)) (.int .u8 (byt x 7))
  refine bodyPost_ret (v := digV x) (by unfold digV; simp only [results, Tryd.results50]; simp [go_sem, g0, g1, g2, g3, g4, g5, g6, g7]) rfl ⟨rfl, bel8 HB.out (Nat.le_refl _) (by omega) _ _ _ _ _ _ _ _⟩
#print axioms out_c
end Go.Proofs.YtbejjmmopdcjoaaDoor
