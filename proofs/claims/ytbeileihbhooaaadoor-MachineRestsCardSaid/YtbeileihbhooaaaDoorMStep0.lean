/-
  machine: one step, op by op: contracts.
-/
import Derived.Test.YtbeileihbhooaaaDoorMReach
import Derived.Test.YtbeileihbhooaaaDoorMOps
import Derived.Test.YtbeileihbhooaaaDoorMFacts
import Derived.Test.YtbeileihbhooaaaDoorSchedF
import Derived.StillTailTactics
namespace Go.Proofs.YtbeileihbhooaaaDoor
open Go.RowKit

def Steps (w : World) (g r m cp : Nat) (t : MS) (e : Ending) (w' : World) : Prop := e = .returned (.tuple #[]) ∧ StM w' g r m cp t ∧ Kept w w' g r
theorem named_pc {l : List Ins} {pc : Int} {m : Nat} (h : namedV l pc m = true) : l.length ≤ 2048 ∧ pc < l.length ∧ rightV (insAt l pc).o (insAt l pc).a (insAt l pc).b (insAt l pc).c l.length m = true := by
  unfold namedV at h
  rw [Bool.and_eq_true] at h
  have := of_decide_eq_true h.1
  exact ⟨this.1, this.2, h.2⟩

theorem stillC {P : Program} {f : FuncId} {args : Array Value} {w : World} {v : Value} (h : Calls P f args w fun e w' => e = .returned v ∧ w = w') : Calls P f args w fun e w' => e = .returned v ∧ w' = w := h.mono fun _ _ ⟨a, b⟩ => ⟨a, b.symm⟩
theorem right_two {o a b c size words : Int} (h3 : 3 ≤ o) (h13 : o ≤ 13) (h : rightV o a b c size words = true) : (0 ≤ a ∧ a < words) ∧ (0 ≤ b ∧ b < words) ∧ (0 ≤ c ∧ c < words) := by
  rcases (by omega : o = 3 ∨ o = 4 ∨ o = 5 ∨ o = 6 ∨ o = 7 ∨ o = 8 ∨ o = 9 ∨ o = 10 ∨ o = 11 ∨ o = 12 ∨ o = 13) with rfl | rfl | rfl | rfl | rfl | rfl | rfl | rfl | rfl | rfl | rfl
  · exact right_3 h
  · exact right_4 h
  · exact right_5 h
  · exact right_6 h
  · exact right_7 h
  · exact right_8 h
  · exact right_9 h
  · exact right_10 h
  · exact right_11 h
  · exact right_12 h
  · exact right_13 h
#print axioms right_two
end Go.Proofs.YtbeileihbhooaaaDoor
