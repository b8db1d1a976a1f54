/-
  hash: the document's Many: the contract.
-/
import Derived.Test.YtbejjmmopdcjoaaDoorHMany
import Derived.Test.YtbejjmmopdcjoaaDoorSchedF
namespace Go.Proofs.YtbejjmmopdcjoaaDoor
open Go.RowKit

theorem set4 {w : World} {b : Nat} {T : TypeId} {x0 x1 x2 x3 : Value} (h : w.heap[b]? = some (.cells #[x0, x1, x2, x3] T (0, 0))) (y0 y1 y2 y3 : Value) :
    ((World.setCell (World.setCell (World.setCell (World.setCell w ⟨b, 0, none⟩ y0) ⟨b, 1, none⟩ y1) ⟨b, 2, none⟩ y2) ⟨b, 3, none⟩ y3)).heap[b]? = some (.cells #[y0, y1, y2, y3] T (0, 0)) := by
  have h0 : ((World.setCell w ⟨b, 0, none⟩ y0)).heap[b]? = some (.cells #[y0, x1, x2, x3] T (0, 0)) := heap_set_same (j := 0) y0 h
  have h1 : ((World.setCell (World.setCell w ⟨b, 0, none⟩ y0) ⟨b, 1, none⟩ y1)).heap[b]? = some (.cells #[y0, y1, x2, x3] T (0, 0)) := heap_set_same (j := 1) y1 h0
  have h2 : ((World.setCell (World.setCell (World.setCell w ⟨b, 0, none⟩ y0) ⟨b, 1, none⟩ y1) ⟨b, 2, none⟩ y2)).heap[b]? = some (.cells #[y0, y1, y2, x3] T (0, 0)) := heap_set_same (j := 2) y2 h1
  have h3 : ((World.setCell (World.setCell (World.setCell (World.setCell w ⟨b, 0, none⟩ y0) ⟨b, 1, none⟩ y1) ⟨b, 2, none⟩ y2) ⟨b, 3, none⟩ y3)).heap[b]? = some (.cells #[y0, y1, y2, y3] T (0, 0)) := heap_set_same (j := 3) y3 h2
  exact h3
theorem oth4 {w : World} {b c : Nat} {o : Option Obj} (hne : c ≠ b) (hc : w.heap[c]? = o) (y0 y1 y2 y3 : Value) : ((World.setCell (World.setCell (World.setCell (World.setCell w ⟨b, 0, none⟩ y0) ⟨b, 1, none⟩ y1) ⟨b, 2, none⟩ y2) ⟨b, 3, none⟩ y3)).heap[c]? = o := (heap_set_other _ hne (heap_set_other _ hne (heap_set_other _ hne (heap_set_other _ hne hc))))

end Go.Proofs.YtbejjmmopdcjoaaDoor
