/-
  CoinBack: the walk, given what told answers.
-/
import Derived.Test.YtijlelkohegcmaaCSum
namespace Go.Proofs.Ytijlelkohegcmaa
open Go.RowKit

theorem back_add (a b : Int) : (addF a b = (a + b, 0) ∧ subF (a + b) b = (a, 0)) ∨ addF a b = (0, 2) := by
  unfold addF
  by_cases h : Amt a ∧ Amt b ∧ Amt (a + b)
  · rw [if_pos h]
    refine .inl ⟨rfl, ?_⟩
    unfold subF
    rw [if_pos ⟨h.2.2, h.2.1⟩, if_pos (by have := h.1.1; omega)]
    congr 1; omega
  · rw [if_neg h]; exact .inr rfl
theorem back_sub (a b : Int) : (subF a b = (a - b, 0) ∧ addF (a - b) b = (a, 0)) ∨ subF a b = (0, 2) ∨ subF a b = (0, 21) := by
  unfold subF
  by_cases h : Amt a ∧ Amt b
  · rw [if_pos h]
    by_cases h2 : b ≤ a
    · rw [if_pos h2]
      refine .inl ⟨rfl, ?_⟩
      unfold addF
      have e : a - b + b = a := by omega
      rw [e, if_pos ⟨⟨by omega, by have := h.1.2; have := h.2.1; omega⟩, h.2, h.1⟩]
    · rw [if_neg h2]; exact .inr (.inr rfl)
  · rw [if_neg h]; exact .inr (.inl rfl)

set_option maxRecDepth 100000 in
set_option maxHeartbeats 1000000 in
theorem coinBack_walk (told_c : ∀ w, Calls Try.prog 11 #[] w (fun e w' => e = .returned (.bool true) ∧ Below w.heap.size w w')) (w : World) (a b : Int) :
    Calls Try.prog 4 #[.int .i64 a, .int .i64 b] w (fun e w' => e = .returned (.bool true) ∧ Below w.heap.size w w') := by
  rcases back_add a b with ⟨h1', h2'⟩ | h1'
  · have h1 := Lib.hid h1'
    have h2 := Lib.hid h2'
    clear h1' h2'
    rcases back_sub a b with ⟨g1', g2'⟩ | g1' | g1'
    · have g1 := Lib.hid g1'
      have g2 := Lib.hid g2'
      clear g1' g2'
      go_enter Try.func4, Try.ntmps4
      go_wp2_with fail
      refine (add_c _ _ _).mono ?_
      rw [h1.out]
      rintro e v ⟨rfl, rfl⟩
      go_wp2_with fail
      refine (sub_c _ _ _).mono ?_
      rw [h2.out]
      rintro e v ⟨rfl, rfl⟩
      go_wp2_with fail
      refine (sub_c _ _ _).mono ?_
      rw [g1.out]
      rintro e v ⟨rfl, rfl⟩
      go_wp2_with fail
      refine (add_c _ _ _).mono ?_
      rw [g2.out]
      rintro e v ⟨rfl, rfl⟩
      go_wp2_with fail
      refine (told_c _).mono ?_
      rintro e w2 ⟨rfl, hb⟩
      go_wp2_with fail
      go_ret
      exact ⟨rfl, hb⟩
    · have g1 := Lib.hid g1'
      clear g1'
      go_enter Try.func4, Try.ntmps4
      go_wp2_with fail
      refine (add_c _ _ _).mono ?_
      rw [h1.out]
      rintro e v ⟨rfl, rfl⟩
      go_wp2_with fail
      refine (sub_c _ _ _).mono ?_
      rw [h2.out]
      rintro e v ⟨rfl, rfl⟩
      go_wp2_with fail
      refine (sub_c _ _ _).mono ?_
      rw [g1.out]
      rintro e v ⟨rfl, rfl⟩
      go_wp2_with fail
      refine (told_c _).mono ?_
      rintro e w2 ⟨rfl, hb⟩
      go_wp2_with fail
      go_ret
      exact ⟨rfl, hb⟩
    · have g1 := Lib.hid g1'
      clear g1'
      go_enter Try.func4, Try.ntmps4
      go_wp2_with fail
      refine (add_c _ _ _).mono ?_
      rw [h1.out]
      rintro e v ⟨rfl, rfl⟩
      go_wp2_with fail
      refine (sub_c _ _ _).mono ?_
      rw [h2.out]
      rintro e v ⟨rfl, rfl⟩
      go_wp2_with fail
      refine (sub_c _ _ _).mono ?_
      rw [g1.out]
      rintro e v ⟨rfl, rfl⟩
      go_wp2_with fail
      refine (told_c _).mono ?_
      rintro e w2 ⟨rfl, hb⟩
      go_wp2_with fail
      go_ret
      exact ⟨rfl, hb⟩
  · have h1 := Lib.hid h1'
    clear h1'
    rcases back_sub a b with ⟨g1', g2'⟩ | g1' | g1'
    · have g1 := Lib.hid g1'
      have g2 := Lib.hid g2'
      clear g1' g2'
      go_enter Try.func4, Try.ntmps4
      go_wp2_with fail
      refine (add_c _ _ _).mono ?_
      rw [h1.out]
      rintro e v ⟨rfl, rfl⟩
      go_wp2_with fail
      refine (sub_c _ _ _).mono ?_
      rw [g1.out]
      rintro e v ⟨rfl, rfl⟩
      go_wp2_with fail
      refine (add_c _ _ _).mono ?_
      rw [g2.out]
      rintro e v ⟨rfl, rfl⟩
      go_wp2_with fail
      refine (told_c _).mono ?_
      rintro e w2 ⟨rfl, hb⟩
      go_wp2_with fail
      go_ret
      exact ⟨rfl, hb⟩
    · have g1 := Lib.hid g1'
      clear g1'
      go_enter Try.func4, Try.ntmps4
      go_wp2_with fail
      refine (add_c _ _ _).mono ?_
      rw [h1.out]
      rintro e v ⟨rfl, rfl⟩
      go_wp2_with fail
      refine (sub_c _ _ _).mono ?_
      rw [g1.out]
      rintro e v ⟨rfl, rfl⟩
      go_wp2_with fail
      refine (told_c _).mono ?_
      rintro e w2 ⟨rfl, hb⟩
      go_wp2_with fail
      go_ret
      exact ⟨rfl, hb⟩
    · have g1 := Lib.hid g1'
      clear g1'
      go_enter Try.func4, Try.ntmps4
      go_wp2_with fail
      refine (add_c _ _ _).mono ?_
      rw [h1.out]
      rintro e v ⟨rfl, rfl⟩
      go_wp2_with fail
      refine (sub_c _ _ _).mono ?_
      rw [g1.out]
      rintro e v ⟨rfl, rfl⟩
      go_wp2_with fail
      refine (told_c _).mono ?_
      rintro e w2 ⟨rfl, hb⟩
      go_wp2_with fail
      go_ret
      exact ⟨rfl, hb⟩
#print axioms coinBack_walk
end Go.Proofs.Ytijlelkohegcmaa
