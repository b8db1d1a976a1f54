/-
  CoinNil: the walk, given what told answers.
-/
import Derived.Test.YtijlelkohegcmaaCNil
namespace Go.Proofs.Ytijlelkohegcmaa
open Go.RowKit

set_option maxRecDepth 100000 in
set_option maxHeartbeats 1000000 in
theorem coinNil_walk (told_c : ∀ w, Calls Try.prog 11 #[] w (fun e w' => e = .returned (.bool true) ∧ Below w.heap.size w w')) (w : World) (s a : Int) :
    Calls Try.prog 10 #[.int .i64 s, .int .i64 a] w (fun e w' => e = .returned (.bool true) ∧ Below w.heap.size w w') := by
  go_enter Try.func10, Try.ntmps10
  go_wp2_with fail
  refine (newPot_ok w 5 1 (by show Amt 5; unfold Amt; omega) (by omega) (by omega)).mono ?_
  rintro e w1 ⟨b, rfl, _, _, hb⟩
  have Q1 := Lib.hid hb
  clear hb
  go_wp2_with fail
  refine (pay_nil _ _ _).mono ?_
  rintro e v ⟨rfl, rfl⟩
  go_wp2_with fail
  refine (rest_nil _ _).mono ?_
  rintro e v ⟨rfl, rfl⟩
  go_wp2_with fail
  refine (left_nil _).mono ?_
  rintro e v ⟨rfl, rfl⟩
  go_wp2_with fail
  refine (pays_nil _).mono ?_
  rintro e v ⟨rfl, rfl⟩
  go_wp2_with fail
  refine (clone_nil _).mono ?_
  rintro e v ⟨rfl, rfl⟩
  go_wp2_with fail
  refine (same_nil_nil _).mono ?_
  rintro e v ⟨rfl, rfl⟩
  go_wp2_with fail
  refine (same_nil_pot _ _).mono ?_
  rintro e v ⟨rfl, rfl⟩
  go_wp2_with fail
  refine (same_pot_nil _ _).mono ?_
  rintro e v ⟨rfl, rfl⟩
  go_wp2_with fail
  refine (told_c _).mono ?_
  rintro e w2 ⟨rfl, hb⟩
  go_wp2_with fail
  go_ret
  exact ⟨rfl, ext_trans Q1.out hb⟩
#print axioms coinNil_walk
end Go.Proofs.Ytijlelkohegcmaa
