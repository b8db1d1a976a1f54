/-
  octet: the document's Unfold: contract.
-/
import Derived.Test.YtgplamfjemmfnaaDec
import Derived.Test.YtgplamfjemmfnaaNumber
namespace Go.Proofs.Ytgplamfjemmfnaa
open Go.RowKit

set_option maxRecDepth 100000 in
theorem runfold_c (w : World) (m : Nat) (hm : m < 18446744073709551616) : Calls Try.prog 25 #[.int .u64 m] w (fun e w' => e = .returned (.int .i64 (unfold_ m)) ∧ w = w') := by
  obtain ⟨q, hq⟩ : ∃ q, q = m / 2 := ⟨_, rfl⟩
  have q1 : q < 9223372036854775808 := by omega
  have td : (m : Int).tdiv 2 = (q : Int) := by rw [Int.tdiv_eq_ediv_of_nonneg (by omega)]; omega
  have dv : (m : Int) / 2 = (q : Int) := by omega
  have w1 : IntKind.i64.wrap (q : Int) = (q : Int) := IntWalk.i64_in _ (by omega)
  have w2 : IntKind.u64.wrap (q : Int) = (q : Int) := IntWalk.u64_in _ (by omega)
  have w3 : IntKind.i64.wrap (-(q : Int)) = -(q : Int) := IntWalk.i64_in _ (by omega)
  have w4 : IntKind.i64.wrap (-(q : Int) - 1) = -(q : Int) - 1 := IntWalk.i64_in _ (by omega)
  by_cases h : m % 2 = 1
  · have r : Hid (unfold_ m = -(q : Int) - 1) := by show _ = _; unfold unfold_; rw [if_pos h, ← hq]
    have em : (m : Int) % 2 = 1 := by omega
    have tm : (m : Int).tmod 2 = 1 := by rw [Int.tmod_eq_emod_of_nonneg (by omega)]; omega
    clear hq h
    rw [r.out]
    go_enter Try.func25, Try.ntmps25
    go_wp2_with fail
    go_ret
    exact ⟨rfl, rfl⟩
  · have r : Hid (unfold_ m = (q : Int)) := by show _ = _; unfold unfold_; rw [if_neg h, ← hq]
    have em : (m : Int) % 2 = 0 := by omega
    have tm : (m : Int).tmod 2 = 0 := by rw [Int.tmod_eq_emod_of_nonneg (by omega)]; omega
    clear hq h
    rw [r.out]
    go_enter Try.func25, Try.ntmps25
    go_wp2_with fail
    go_ret
    exact ⟨rfl, rfl⟩
#print axioms runfold_c
end Go.Proofs.Ytgplamfjemmfnaa
