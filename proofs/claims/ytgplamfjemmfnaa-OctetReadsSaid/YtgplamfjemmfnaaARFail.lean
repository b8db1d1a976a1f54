/-
  octet: the document's Fail, End, Unfold: contracts.
-/
import Derived.Test.YtgplamfjemmfnaaReader
import Derived.Test.YtgplamfjemmfnaaAThr
import Derived.Deep.DeepCutAuto
import Derived.Handy
import Derived.OneCell
namespace Go.Proofs.Ytgplamfjemmfnaa
open Go.RowKit

theorem full3f {w : World} {b : Nat} {T : TypeId} {x0 x1 x2 : Value} (h : w.heap[b]? = some (.cells #[x0, x1, x2] T (0, 0))) : w.cell? ⟨b, 0, none⟩ = some x0 ∧ w.cell? ⟨b, 1, none⟩ = some x1 ∧ w.cell? ⟨b, 2, none⟩ = some x2 ∧ w.frozen? ⟨b, 0, none⟩ = false ∧ w.frozen? ⟨b, 1, none⟩ = false ∧ w.frozen? ⟨b, 2, none⟩ = false :=
  ⟨by rw [cell_of_row w _ 0 _ _ _ h]; rfl, by rw [cell_of_row w _ 1 _ _ _ h]; rfl, by rw [cell_of_row w _ 2 _ _ _ h]; rfl, by simp [World.frozen?, h], by simp [World.frozen?, h], by simp [World.frozen?, h]⟩
theorem setC_same (w : World) (b j : Nat) (vs : Array Value) (T : TypeId) (v : Value) (h : w.heap[b]? = some (.cells vs T (0, 0))) : (w.setCell ⟨b, j, none⟩ v).heap[b]? = some (.cells (vs.setIfInBounds j v) T (0, 0)) := by
  exact heap_setCell_same w b j vs T v h
theorem set3 {w : World} {b : Nat} {T : TypeId} {x0 x1 x2 : Value} (h : w.heap[b]? = some (.cells #[x0, x1, x2] T (0, 0))) (y0 y1 y2 : Value) :
    (((w.setCell ⟨b, 0, none⟩ y0).setCell ⟨b, 1, none⟩ y1).setCell ⟨b, 2, none⟩ y2).heap[b]? = some (.cells #[y0, y1, y2] T (0, 0)) := by
  have h1 := setC_same w b 0 #[x0, x1, x2] T y0 h
  have h2 := setC_same _ b 1 _ T y1 h1
  exact setC_same _ b 2 _ T y2 h2
theorem bel1 {w0 w : World} {B b j : Nat} (k : Below B w0 w) (hb : B ≤ b) (y : Value) : Below B w0 (w.setCell ⟨b, j, none⟩ y) :=
  ⟨k.os, k.tape, k.output, by simpa [World.setCell] using k.size, fun c hc => (Below.heap_setCell _ _ _ _ (show c ≠ b by omega)).trans (k.block c hc)⟩
theorem bel3 {w0 w : World} {B b : Nat} (k : Below B w0 w) (hb : B ≤ b) (y0 y1 y2 : Value) : Below B w0 (((w.setCell ⟨b, 0, none⟩ y0).setCell ⟨b, 1, none⟩ y1).setCell ⟨b, 2, none⟩ y2) := bel1 (bel1 (bel1 k hb y0) hb y1) hb y2
theorem keepB3 {w w' : World} {b : Nat} {o : Obj} (hb : Below w.heap.size w w') (h : w.heap[b]? = some o) : w'.heap[b]? = some o := (hb.block b (Array.getElem?_eq_some_iff.1 h).1).trans h

set_option maxRecDepth 100000 in
set_option maxHeartbeats 1000000 in
theorem rfail_c (w : World) (S : Value) (a e0 e : Int) (hS : ∃ A n c, S = .slice A n c) : Calls Try.prog 35 #[.agg #[S, .int .i64 a, .int .i64 e0], .int .i64 e] w (fun x w' => x = .returned (.agg #[S, .int .i64 a, .int .i64 e]) ∧ Below w.heap.size w w') := by
  obtain ⟨A, n, c, rfl⟩ := hS
  go_enter Try.func35, Try.ntmps35
  go_upto_region 1 with fail
  generalize hW : World.alloc (World.alloc w (.cells #[.slice A n c, .int .i64 a, .int .i64 e0] 39)) (.cells #[.slice none 0 0, .int .i64 0, .int .i64 0] 39) = W
  have D : Hid (W.heap[w.heap.size]? = some (.cells #[.slice A n c, .int .i64 a, .int .i64 e0] 39 (0, 0))) := by rw [← hW]; exact keepB3 (ext_alloc _ _) (Go.heap_alloc_new w _)
  have Rr : Hid (W.heap[w.heap.size + 1]? = some (.cells #[.slice none 0 0, .int .i64 0, .int .i64 0] 39 (0, 0))) := by rw [← hW]; exact heap_alloc_newest (w := World.alloc _ _) (by simp)
  have B : Hid (Below w.heap.size w W) := by rw [← hW]; exact ext_trans (ext_alloc _ _) (ext_alloc _ _)
  clear hW
  obtain ⟨c0, c1, c2, f0, f1, f2⟩ := full3f D.out
  go_upto_region 2 with fail
  have D2 := Lib.hid (setC_same W w.heap.size 2 _ _ (.int .i64 e) D.out)
  have R2 : Hid ((W.setCell ⟨w.heap.size, 2, none⟩ (.int .i64 e)).heap[w.heap.size + 1]? = some (.cells #[.slice none 0 0, .int .i64 0, .int .i64 0] 39 (0, 0))) := (Below.heap_setCell _ _ _ _ (show w.heap.size + 1 ≠ w.heap.size by omega)).trans Rr.out
  have B2 := Lib.hid (bel1 B.out (Nat.le_refl _) (.int .i64 e) (j := 2))
  clear c0 c1 c2 f0 f1 f2 D Rr B
  generalize W.setCell ⟨w.heap.size, 2, none⟩ (.int .i64 e) = U at *
  obtain ⟨c0, c1, c2, f0, f1, f2⟩ := full3f (x0 := .slice A n c) (x1 := .int .i64 a) (x2 := .int .i64 e) D2.out
  obtain ⟨d0, d1, d2, g0, g1, g2⟩ := full3f R2.out
  have BF := Lib.hid (bel3 B2.out (show w.heap.size ≤ w.heap.size + 1 by omega) (.slice A n c) (.int .i64 a) (.int .i64 e))
  obtain ⟨h0, h1, h2, _, _, _⟩ := full3f (set3 R2.out (.slice A n c) (.int .i64 a) (.int .i64 e))
  go_wp2_with fail
  refine bodyPost_ret (v := .agg #[.slice A n c, .int .i64 a, .int .i64 e]) (by simp only [results, Try.results35]; simp [go_sem, h0, h1, h2]) rfl ⟨rfl, BF.out⟩
#print axioms rfail_c

set_option maxRecDepth 100000 in
theorem rendR_c (w : World) (A : Option Addr) (n c : Nat) (a : Nat) (e : Int) (ha : a ≤ n) : Calls Try.prog 32 #[.agg #[.slice A n c, .int .i64 a, .int .i64 e]] w (fun x w' => x = .returned (.int .i64 (if e ≠ 0 then e else if 0 < n - a then 5 else 0)) ∧ Below w.heap.size w w') := by
  by_cases he : e = 0
  · subst he
    by_cases hl : a < n
    · have q : (a : Int) < (n : Int) := by omega
      have r : Hid ((if (0 : Int) ≠ 0 then (0 : Int) else if 0 < n - a then 5 else 0) = 5) := by show _ = _; rw [if_neg (by simp), if_pos (by omega)]
      rw [r.out]
      go_enter Try.func32, Try.ntmps32
      go_wp2_with fail
      go_ret
      exact ⟨rfl, ext_alloc _ _⟩
    · have q : ¬ (a : Int) < (n : Int) := by omega
      have r : Hid ((if (0 : Int) ≠ 0 then (0 : Int) else if 0 < n - a then 5 else 0) = 0) := by show _ = _; rw [if_neg (by simp), if_neg (by omega)]
      rw [r.out]
      go_enter Try.func32, Try.ntmps32
      go_wp2_with fail
      go_ret
      exact ⟨rfl, ext_alloc _ _⟩
  · have q : (e == 0) = false := by rw [beq_eq_false_iff_ne]; exact he
    have r : Hid ((if e ≠ 0 then e else if 0 < n - a then 5 else 0) = e) := if_pos he
    rw [r.out]
    go_enter Try.func32, Try.ntmps32
    go_wp2_with fail
    go_ret
    exact ⟨rfl, ext_alloc _ _⟩
#print axioms rendR_c
end Go.Proofs.Ytgplamfjemmfnaa
