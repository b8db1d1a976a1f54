/-
  CoinSplits: the walk.
-/
import Derived.Test.YtijlelkohegcmaaCTold
import Derived.Test.YtijlelkohegcmaaCFrame
namespace Go.Proofs.Ytijlelkohegcmaa
open Go.RowKit

theorem weigh_cases (ws : List Int) : (∃ W, weigh ws = (W, 0)) ∨ (∃ x q, weigh ws = (x, q) ∧ q ≠ 0) := by
  rcases h : weigh ws with ⟨x, q⟩
  by_cases hq : q = 0
  · subst hq; exact .inl ⟨x, rfl⟩
  · exact .inr ⟨x, q, rfl, hq⟩

set_option maxRecDepth 100000 in
set_option maxHeartbeats 1000000 in
theorem walkCoinSplits (w : World) (T : Int) (A : Option Addr) (n c : Nat) (ws : List Int) (_ : -9223372036854775808 ≤ T) (_ : T < 9223372036854775808) (h' : RdI w A n c ws) :
    Calls Try.prog 5 #[.int .i64 T, .slice A n c] w (Holds w) := by
  have h := Lib.hid h'
  have hle := h'.le
  have hmax := h'.max
  clear h'
  by_cases h12 : n > 12
  · have hI : (12 : Int) < (n : Int) := by omega
    clear h12
    go_enter Try.func5, Try.ntmps5
    go_wp2_with fail
    refine (told_c _).mono ?_
    rintro e w2 ⟨rfl, hb⟩
    go_wp2_with fail
    go_ret
    exact ⟨rfl, hb⟩
  have hI : ¬ (12 : Int) < (n : Int) := by omega
  clear h12
  by_cases hT : Amt T
  case neg =>
    have HT := Lib.hid hT
    clear hT
    go_enter Try.func5, Try.ntmps5
    go_wp2_with fail
    refine (split_range _ _ _ _ _ HT).mono ?_
    rintro e v ⟨rfl, rfl⟩
    go_wp2_with fail
    refine (rsplit_range _ _ _ _ _ HT).mono ?_
    rintro e v ⟨rfl, rfl⟩
    go_wp2_with fail
    refine (alike_yes _ _ _ _ [] (RdI.nil _) _ _ (RdI.nil _)).mono ?_
    rintro e w1 ⟨rfl, hb⟩
    have B1 := Lib.hid hb
    clear hb
    go_wp2_with fail
    refine (told_c _).mono ?_
    rintro e w2 ⟨rfl, hb⟩
    go_wp2_with fail
    go_ret
    exact ⟨rfl, ext_trans B1.out hb⟩
  have HT := Lib.hid hT
  clear hT
  rcases weigh_cases ws with ⟨W, hw⟩ | ⟨x, q, hw, hq⟩
  · have HW := Lib.hid hw
    clear hw
    go_enter Try.func5, Try.ntmps5
    go_wp2_with fail
    refine (split_ok _ _ _ _ _ _ h HT _ HW).mono ?_
    rintro e w1 ⟨A1, c1, rfl, ho, hb⟩
    have O1 := Lib.hid ho
    have B1 := Lib.hid hb
    clear ho hb
    go_wp2_with fail
    refine (rsplit_ok _ _ _ _ _ _ (h.out.ext B1.out) HT _ HW).mono ?_
    rintro e w2 ⟨A2, c2, rfl, ho, hb⟩
    have O2 := Lib.hid ho
    have B2 := Lib.hid hb
    clear ho hb
    go_wp2_with fail
    refine (alike_yes _ _ _ _ _ (O1.out.rd.ext B2.out) _ _ O2.out.rd).mono ?_
    rintro e w3 ⟨rfl, hb⟩
    have B3 := Lib.hid hb
    clear hb
    go_wp2_with fail
    refine (told_c _).mono ?_
    rintro e w4 ⟨rfl, hb⟩
    go_wp2_with fail
    go_ret
    exact ⟨rfl, ext_trans B1.out (ext_trans B2.out (ext_trans B3.out hb))⟩
  · have HW := Lib.hid hw
    have HQ := Lib.hid hq
    have hqz : (q == 0) = false := by rw [beq_eq_false_iff_ne]; exact hq
    clear hw hq
    go_enter Try.func5, Try.ntmps5
    go_wp2_with fail
    refine (split_bad _ _ _ _ _ _ h HT _ _ HW hqz).mono ?_
    rintro e v ⟨rfl, rfl⟩
    go_wp2_with fail
    refine (rsplit_bad _ _ _ _ _ _ h HT _ _ HW HQ).mono ?_
    rintro e v ⟨rfl, rfl⟩
    go_wp2_with fail
    refine (alike_yes _ _ _ _ [] (RdI.nil _) _ _ (RdI.nil _)).mono ?_
    rintro e w1 ⟨rfl, hb⟩
    have B1 := Lib.hid hb
    clear hb
    go_wp2_with fail
    refine (told_c _).mono ?_
    rintro e w2 ⟨rfl, hb⟩
    go_wp2_with fail
    go_ret
    exact ⟨rfl, ext_trans B1.out hb⟩
#print axioms walkCoinSplits
end Go.Proofs.Ytijlelkohegcmaa
