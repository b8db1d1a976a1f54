/-
  code: an operation's name; the chapter's examples: contracts.
-/
import Derived.Test.YtbeileihbhooaaaDoorGNext
import Derived.Test.YtbeileihbhooaaaDoorGRef
namespace Go.Proofs.YtbeileihbhooaaaDoor
open Go.RowKit

theorem keepG {w w' : World} {b : Nat} {o : Obj} (hb : Below w.heap.size w w') (h : w.heap[b]? = some o) : w'.heap[b]? = some o := (hb.block b (Array.getElem?_eq_some_iff.1 h).1).trans h
def nameV (o : Int) : ByteArray := if 0 ≤ o ∧ o < 22 then ⟨(nameB o.toNat).toArray⟩ else ⟨#[]⟩
def NamesAt (w : World) (e : Ending) (w' : World) : Prop := ∃ b, e = .returned (.slice (some ⟨b, 0, none⟩) 22 22) ∧ (∀ j, j < 22 → w'.cell? ⟨b, j, none⟩ = some (.string ⟨(nameB j).toArray⟩)) ∧ Below w.heap.size w w'
end Go.Proofs.YtbeileihbhooaaaDoor
