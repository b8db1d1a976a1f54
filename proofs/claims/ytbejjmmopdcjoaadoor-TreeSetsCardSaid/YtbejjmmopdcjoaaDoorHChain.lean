/-
  hash: Chain, and the document's: contracts.
-/
import Derived.Test.YtbejjmmopdcjoaaDoorHDigR
namespace Go.Proofs.YtbejjmmopdcjoaaDoor
open Go.RowKit

theorem set8 {w : World} {b : Nat} {T : TypeId} {x0 x1 x2 x3 x4 x5 x6 x7 : Value} (h : w.heap[b]? = some (.cells #[x0, x1, x2, x3, x4, x5, x6, x7] T (0, 0))) (y0 y1 y2 y3 y4 y5 y6 y7 : Value) :
    ((World.setCell (World.setCell (World.setCell (World.setCell (World.setCell (World.setCell (World.setCell (World.setCell w ⟨b, 0, none⟩ y0) ⟨b, 1, none⟩ y1) ⟨b, 2, none⟩ y2) ⟨b, 3, none⟩ y3) ⟨b, 4, none⟩ y4) ⟨b, 5, none⟩ y5) ⟨b, 6, none⟩ y6) ⟨b, 7, none⟩ y7)).heap[b]? = some (.cells #[y0, y1, y2, y3, y4, y5, y6, y7] T (0, 0)) := by
  have h0 : ((World.setCell w ⟨b, 0, none⟩ y0)).heap[b]? = some (.cells #[y0, x1, x2, x3, x4, x5, x6, x7] T (0, 0)) := heap_set_same (j := 0) y0 h
  have h1 : ((World.setCell (World.setCell w ⟨b, 0, none⟩ y0) ⟨b, 1, none⟩ y1)).heap[b]? = some (.cells #[y0, y1, x2, x3, x4, x5, x6, x7] T (0, 0)) := heap_set_same (j := 1) y1 h0
  have h2 : ((World.setCell (World.setCell (World.setCell w ⟨b, 0, none⟩ y0) ⟨b, 1, none⟩ y1) ⟨b, 2, none⟩ y2)).heap[b]? = some (.cells #[y0, y1, y2, x3, x4, x5, x6, x7] T (0, 0)) := heap_set_same (j := 2) y2 h1
  have h3 : ((World.setCell (World.setCell (World.setCell (World.setCell w ⟨b, 0, none⟩ y0) ⟨b, 1, none⟩ y1) ⟨b, 2, none⟩ y2) ⟨b, 3, none⟩ y3)).heap[b]? = some (.cells #[y0, y1, y2, y3, x4, x5, x6, x7] T (0, 0)) := heap_set_same (j := 3) y3 h2
  have h4 : ((World.setCell (World.setCell (World.setCell (World.setCell (World.setCell w ⟨b, 0, none⟩ y0) ⟨b, 1, none⟩ y1) ⟨b, 2, none⟩ y2) ⟨b, 3, none⟩ y3) ⟨b, 4, none⟩ y4)).heap[b]? = some (.cells #[y0, y1, y2, y3, y4, x5, x6, x7] T (0, 0)) := heap_set_same (j := 4) y4 h3
  have h5 : ((World.setCell (World.setCell (World.setCell (World.setCell (World.setCell (World.setCell w ⟨b, 0, none⟩ y0) ⟨b, 1, none⟩ y1) ⟨b, 2, none⟩ y2) ⟨b, 3, none⟩ y3) ⟨b, 4, none⟩ y4) ⟨b, 5, none⟩ y5)).heap[b]? = some (.cells #[y0, y1, y2, y3, y4, y5, x6, x7] T (0, 0)) := heap_set_same (j := 5) y5 h4
  have h6 : ((World.setCell (World.setCell (World.setCell (World.setCell (World.setCell (World.setCell (World.setCell w ⟨b, 0, none⟩ y0) ⟨b, 1, none⟩ y1) ⟨b, 2, none⟩ y2) ⟨b, 3, none⟩ y3) ⟨b, 4, none⟩ y4) ⟨b, 5, none⟩ y5) ⟨b, 6, none⟩ y6)).heap[b]? = some (.cells #[y0, y1, y2, y3, y4, y5, y6, x7] T (0, 0)) := heap_set_same (j := 6) y6 h5
  have h7 : ((World.setCell (World.setCell (World.setCell (World.setCell (World.setCell (World.setCell (World.setCell (World.setCell w ⟨b, 0, none⟩ y0) ⟨b, 1, none⟩ y1) ⟨b, 2, none⟩ y2) ⟨b, 3, none⟩ y3) ⟨b, 4, none⟩ y4) ⟨b, 5, none⟩ y5) ⟨b, 6, none⟩ y6) ⟨b, 7, none⟩ y7)).heap[b]? = some (.cells #[y0, y1, y2, y3, y4, y5, y6, y7] T (0, 0)) := heap_set_same (j := 7) y7 h6
  exact h7
theorem oth8 {w : World} {b c : Nat} {o : Option Obj} (hne : c ≠ b) (hc : w.heap[c]? = o) (y0 y1 y2 y3 y4 y5 y6 y7 : Value) : ((World.setCell (World.setCell (World.setCell (World.setCell (World.setCell (World.setCell (World.setCell (World.setCell w ⟨b, 0, none⟩ y0) ⟨b, 1, none⟩ y1) ⟨b, 2, none⟩ y2) ⟨b, 3, none⟩ y3) ⟨b, 4, none⟩ y4) ⟨b, 5, none⟩ y5) ⟨b, 6, none⟩ y6) ⟨b, 7, none⟩ y7)).heap[c]? = o := (heap_set_other _ hne (heap_set_other _ hne (heap_set_other _ hne (heap_set_other _ hne (heap_set_other _ hne (heap_set_other _ hne (heap_set_other _ hne (heap_set_other _ hne hc))))))))

def chainN (n : Nat) : Nat → Nat
  | 0 => n
  | k + 1 => oneN (chainN n k)
theorem chainN_lt {n : Nat} (h : n < 18446744073709551616) : ∀ k, chainN n k < 18446744073709551616
  | 0 => h
  | k + 1 => oneN_lt (chainN_lt h k)
/-- a chain of so many steps, whatever number it is -/
def chainI (n : Nat) (K : Int) : Nat := if 1 ≤ K ∧ K ≤ 1048576 then chainN n K.toNat else n
theorem chainI_lt {n : Nat} (h : n < 18446744073709551616) (K : Int) : chainI n K < 18446744073709551616 := by
  unfold chainI; split
  · exact chainN_lt h _
  · exact h
end Go.Proofs.YtbejjmmopdcjoaaDoor
