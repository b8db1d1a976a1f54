/-
  coin: what a nil pot answers; Left.
-/
import Derived.Test.YthdnfnilckjldaaCPot
namespace Go.Proofs.Ythdnfnilckjldaa
open Go.RowKit

theorem run_eql_nil_some {P : Program} (w : World) {t e : TypeId} (a : Addr) (h : P.underlying t = some (.pointer e)) :
    (binOp .eql t (.pointer none) (.pointer (some a))).run P w = .ok (.bool false) w := by
  have h : ∀ d : Nat, (Op.equalIn (d + 1) t (.pointer none) (.pointer (some a))).run P w = .ok false w := fun d => by
    simp [Op.equalIn, run_underlying h]
  simp only [binOp]
  simp [Op.equal, Op.maxDepth, h 9999]

set_option maxRecDepth 100000 in
theorem left_nil (w : World) : Calls Try.prog 27 #[.pointer none] w (fun e w' => e = .returned (.int .i64 0) ∧ w = w') := by
  go_enter Try.func27, Try.ntmps27
  go_wp2_with fail
  go_ret
  exact ⟨rfl, rfl⟩
set_option maxRecDepth 100000 in
theorem left_c (w : World) (b : Nat) (left seats : Int) (hs : List Int) (h : Pot w b left seats hs) : Calls Try.prog 27 #[.pointer (some ⟨b, 0, none⟩)] w (fun e w' => e = .returned (.int .i64 left) ∧ w = w') := by
  have c0 := h.c0
  clear h
  go_enter Try.func27, Try.ntmps27
  go_wp2_with fail
  go_ret
  exact ⟨rfl, rfl⟩
set_option maxRecDepth 100000 in
theorem pays_nil (w : World) : Calls Try.prog 28 #[.pointer none] w (fun e w' => e = .returned (.slice none 0 0) ∧ w = w') := by
  go_enter Try.func28, Try.ntmps28
  go_wp2_with fail
  go_ret
  exact ⟨rfl, rfl⟩
set_option maxRecDepth 100000 in
theorem clone_nil (w : World) : Calls Try.prog 30 #[.pointer none] w (fun e w' => e = .returned (.pointer none) ∧ w = w') := by
  go_enter Try.func30, Try.ntmps30
  go_wp2_with fail
  go_ret
  exact ⟨rfl, rfl⟩
set_option maxRecDepth 100000 in
theorem same_nil_nil (w : World) : Calls Try.prog 31 #[.pointer none, .pointer none] w (fun e w' => e = .returned (.bool true) ∧ w = w') := by
  go_enter Try.func31, Try.ntmps31
  go_wp2_with fail
  go_ret
  exact ⟨rfl, rfl⟩
set_option maxRecDepth 100000 in
theorem same_nil_pot (w : World) (b : Nat) : Calls Try.prog 31 #[.pointer none, .pointer (some ⟨b, 0, none⟩)] w (fun e w' => e = .returned (.bool false) ∧ w = w') := by
  have E := run_eql_nil_some (P := Try.prog) w ⟨b, 0, none⟩ Try.underlying41
  go_enter Try.func31, Try.ntmps31
  go_wp2_with fail
  go_ret
  exact ⟨rfl, rfl⟩
set_option maxRecDepth 100000 in
theorem same_pot_nil (w : World) (b : Nat) : Calls Try.prog 31 #[.pointer (some ⟨b, 0, none⟩), .pointer none] w (fun e w' => e = .returned (.bool false) ∧ w = w') := by
  go_enter Try.func31, Try.ntmps31
  go_wp2_with fail
  go_ret
  exact ⟨rfl, rfl⟩
set_option maxRecDepth 100000 in
theorem rest_nil (w : World) (s : Int) : Calls Try.prog 29 #[.pointer none, .int .i64 s] w (fun e w' => e = .returned (.slice none 0 0) ∧ w = w') := by
  go_enter Try.func29, Try.ntmps29
  go_wp2_with fail
  refine (left_nil _).mono ?_
  rintro e v ⟨rfl, rfl⟩
  go_wp2_with fail
  refine (pay_nil _ _ _).mono ?_
  rintro e v ⟨rfl, rfl⟩
  go_wp2_with fail
  refine (pays_nil _).mono ?_
  rintro e v ⟨rfl, rfl⟩
  go_wp2_with fail
  go_ret
  exact ⟨rfl, rfl⟩
#print axioms rest_nil
end Go.Proofs.Ythdnfnilckjldaa
