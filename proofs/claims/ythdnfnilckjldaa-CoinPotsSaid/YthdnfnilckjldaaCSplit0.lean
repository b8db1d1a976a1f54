/-
  coin: Split, where it is an error.
-/
import Derived.Test.YthdnfnilckjldaaCOwn2
namespace Go.Proofs.Ythdnfnilckjldaa
open Go.RowKit

theorem weighF_errs : ∀ (xs : List Int) (t : Int), (weighF t xs).2 = 0 ∨ (weighF t xs).2 = 1 ∨ (weighF t xs).2 = 2
  | [], t => by unfold weighF; split <;> simp
  | x :: xs, t => by
    unfold weighF
    split
    · simp
    · exact weighF_errs xs _

/-- the call hands back no slice, and this error -/
def Fails (q : Int) (w : World) (e : Ending) (w' : World) : Prop := e = .returned (.tuple #[.slice none 0 0, .int .i64 q]) ∧ w = w'

set_option maxRecDepth 100000 in
theorem split_range (w : World) (T : Int) (A : Option Addr) (n c : Nat) (hT : Hid (¬ Amt T)) :
    Calls Try.prog 20 #[.int .i64 T, .slice A n c] w (Fails 2 w) := by
  go_enter Try.func20, Try.ntmps20
  go_wp2_with fail
  go_step3
  go_wp2_with fail
  refine (right_f _ _ hT.out).mono ?_
  rintro e v ⟨rfl, rfl⟩
  go_wp2_with fail
  go_ret2
  exact ⟨rfl, rfl⟩

set_option maxRecDepth 100000 in
theorem split_bad (w : World) (T : Int) (A : Option Addr) (n c : Nat) (ws : List Int) (h : Hid (RdI w A n c ws)) (hT : Hid (Amt T)) (x q : Int) (hw : Hid (weigh ws = (x, q))) (hq : (q == 0) = false) :
    Calls Try.prog 20 #[.int .i64 T, .slice A n c] w (Fails q w) := by
  go_enter Try.func20, Try.ntmps20
  go_wp2_with fail
  go_step3
  go_wp2_with fail
  refine (right_t _ _ hT.out).mono ?_
  rintro e v ⟨rfl, rfl⟩
  go_wp2_with fail
  refine (weigh_c _ _ _ _ _ h.out).mono ?_
  rw [hw.out]
  rintro e v ⟨rfl, rfl⟩
  go_wp2_with fail
  go_ret2
  exact ⟨rfl, rfl⟩
#print axioms split_bad
end Go.Proofs.Ythdnfnilckjldaa
