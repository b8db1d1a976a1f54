/-
  code: where an instruction may go on; an operation's name; whether numbers are the same: contracts.
-/
import Derived.Test.YtbeileihbhooaaaDoorGWrites
import Derived.Deep.QuietTactic
import Derived.BigQuiet
namespace Go.Proofs.YtbeileihbhooaaaDoor
open Go.RowKit

theorem ints_lit {w : World} {T : TypeId} {v : Obj} {n : Nat} {xs : List Int} {vs : Array Value} (hn : xs.length = n) (hv : vs.toList = I64 xs) (hs : n ≤ 9223372036854775807) : Ints w xs (.returned (.slice (some ⟨w.heap.size + 1, 0, none⟩) n n)) (World.alloc (World.alloc w v) (.cells vs T)) := by
  have h := RdI.lit (w := World.alloc w v) (E := T) hn hv hs
  rw [show (World.alloc w v).heap.size = w.heap.size + 1 by simp] at h
  exact ⟨_, _, _, rfl, h, ext_trans (ext_alloc _ _) (ext_alloc _ _)⟩
theorem ints_nil {w : World} {v : Obj} : Ints w [] (.returned (.slice none 0 0)) (World.alloc w v) := ⟨_, _, _, rfl, RdI.nil _, ext_alloc _ _⟩

end Go.Proofs.YtbeileihbhooaaaDoor
