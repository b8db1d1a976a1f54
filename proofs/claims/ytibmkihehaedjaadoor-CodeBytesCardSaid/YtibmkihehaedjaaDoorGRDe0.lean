/-
  code: With, and what stores leave alone.
-/
import Derived.Test.YtibmkihehaedjaaDoorGRdJ
import Derived.Test.YtibmkihehaedjaaDoorGRRight
import Derived.Test.YtibmkihehaedjaaDoorARRead
import Derived.Test.YtibmkihehaedjaaDoorARUnf
namespace Go.Proofs.YtibmkihehaedjaaDoor
open Go.RowKit

theorem setCell_away {w : World} {g x j : Nat} {v : Value} (h : x ≠ g) : (w.setCell ⟨g, j, none⟩ v).heap[x]? = w.heap[x]? := Below.heap_setCell _ _ _ _ h
def put3 (w : World) (g : Nat) (y0 y1 y2 : Value) : World := ((w.setCell ⟨g, 0, none⟩ y0).setCell ⟨g, 1, none⟩ y1).setCell ⟨g, 2, none⟩ y2
theorem put3_away {w : World} {g x : Nat} {y0 y1 y2 : Value} (h : x ≠ g) : (put3 w g y0 y1 y2).heap[x]? = w.heap[x]? := (setCell_away h).trans ((setCell_away h).trans (setCell_away h))
theorem put4_away {w : World} {g x : Nat} {a b c d : Int} (h : x ≠ g) : (put4 w g a b c d).heap[x]? = w.heap[x]? := (setCell_away h).trans ((setCell_away h).trans ((setCell_away h).trans (setCell_away h)))
theorem put3_grow {w : World} {g : Nat} {y0 y1 y2 : Value} : w.grownBy (put3 w g y0 y1 y2) (some g) := grownBy_trans (grownBy_trans (grownBy_set _) (grownBy_set _)) (grownBy_set _)
theorem put4_grow2 {w : World} {g : Nat} {a b c d : Int} : w.grownBy (put4 w g a b c d) (some g) := grownBy_trans (grownBy_trans (grownBy_trans (grownBy_set _) (grownBy_set _)) (grownBy_set _)) (grownBy_set _)
theorem below_put {B : Nat} {w a v : World} {g : Nat} (h : Below B w a) (k : a.grownBy v (some g)) (hB : B ≤ a.heap.size) (hg : B ≤ g) : Below B w v := below_grown h hB k (fun k hk => by injection hk with hk; omega)

set_option maxRecDepth 100000 in
set_option maxHeartbeats 1000000 in
theorem with_c (w : World) (o : Int) (t : Nat → Int) (j : Nat) (hj : j < 3) (v : Int) : Calls Tryd.prog 51 #[.agg #[.int .i64 o, .int .i64 (t 0), .int .i64 (t 1), .int .i64 (t 2)], .int .i64 j, .int .i64 v] w (Gives (.agg #[.int .i64 o, .int .i64 (upd t j v 0), .int .i64 (upd t j v 1), .int .i64 (upd t j v 2)]) w) := by
  rcases (by omega : j = 0 ∨ j = 1 ∨ j = 2) with rfl | rfl | rfl
  · show Calls _ _ _ w (Gives (.agg #[.int .i64 o, .int .i64 v, .int .i64 (t 1), .int .i64 (t 2)]) w)
    go_enter Tryd.func51, Tryd.ntmps51
    go_wp2_with fail
    refine bodyPost_ret (v := .agg #[.int .i64 o, .int .i64 v, .int .i64 (t 1), .int .i64 (t 2)]) (by simp [results, Tryd.results51, go_sem]) rfl ⟨rfl, ?_⟩
    exact ext_trans (ext_alloc w _) (ext_alloc _ _)
  · show Calls _ _ _ w (Gives (.agg #[.int .i64 o, .int .i64 (t 0), .int .i64 v, .int .i64 (t 2)]) w)
    go_enter Tryd.func51, Tryd.ntmps51
    go_wp2_with fail
    refine bodyPost_ret (v := .agg #[.int .i64 o, .int .i64 (t 0), .int .i64 v, .int .i64 (t 2)]) (by simp [results, Tryd.results51, go_sem]) rfl ⟨rfl, ?_⟩
    exact ext_trans (ext_alloc w _) (ext_alloc _ _)
  · show Calls _ _ _ w (Gives (.agg #[.int .i64 o, .int .i64 (t 0), .int .i64 (t 1), .int .i64 v]) w)
    go_enter Tryd.func51, Tryd.ntmps51
    go_wp2_with fail
    refine bodyPost_ret (v := .agg #[.int .i64 o, .int .i64 (t 0), .int .i64 (t 1), .int .i64 v]) (by simp [results, Tryd.results51, go_sem]) rfl ⟨rfl, ?_⟩
    exact ext_trans (ext_alloc w _) (ext_alloc _ _)
#print axioms with_c
end Go.Proofs.YtibmkihehaedjaaDoor
