/-
  CoinSums: the walk, given what told answers.
-/
import Derived.Test.YtijlelkohegcmaaCSum2
namespace Go.Proofs.Ytijlelkohegcmaa
open Go.RowKit

set_option maxRecDepth 100000 in
set_option maxHeartbeats 1000000 in
theorem coinSums_walk (told_c : ∀ w, Calls Try.prog 11 #[] w (fun e w' => e = .returned (.bool true) ∧ Below w.heap.size w w')) (w : World) (a b : Int) (A : Option Addr) (n c : Nat) (xs : List Int) (h : RdI w A n c xs) :
    Calls Try.prog 3 #[.int .i64 a, .int .i64 b, .slice A n c] w (fun e w' => e = .returned (.bool true) ∧ Below w.heap.size w w') := by
  have H := Lib.hid h
  have hle := h.le
  have hmax := h.max
  clear h
  by_cases h100 : n > 100
  · have hI : (100 : Int) < (n : Int) := by omega
    clear h100
    go_enter Try.func3, Try.ntmps3
    go_wp2_with fail
    refine (told_c _).mono ?_
    rintro e w2 ⟨rfl, hb⟩
    go_wp2_with fail
    go_ret
    exact ⟨rfl, hb⟩
  have hI : ¬ (100 : Int) < (n : Int) := by omega
  clear h100
  obtain ⟨p, hp⟩ : ∃ p, p = addF a b := ⟨_, rfl⟩
  obtain ⟨q, hq⟩ : ∃ q, q = subF a b := ⟨_, rfl⟩
  obtain ⟨s, hs⟩ : ∃ s, s = sumF 0 xs := ⟨_, rfl⟩
  have HP := Lib.hid hp
  have HQ := Lib.hid hq
  have HS := Lib.hid hs
  clear hp hq hs
  obtain ⟨p1, p2⟩ := p
  obtain ⟨q1, q2⟩ := q
  obtain ⟨s1, s2⟩ := s
  by_cases ha' : Amt a
  · have ha := Lib.hid ha'
    clear ha'
    go_enter Try.func3, Try.ntmps3
    go_wp2_with fail
    refine (add_c _ _ _).mono ?_
    rw [← HP.out]
    rintro e v ⟨rfl, rfl⟩
    go_wp2_with fail
    refine (sub_c _ _ _).mono ?_
    rw [← HQ.out]
    rintro e v ⟨rfl, rfl⟩
    go_wp2_with fail
    refine (sum_c _ _ _ _ _ H.out).mono ?_
    rw [← HS.out]
    rintro e v ⟨rfl, rfl⟩
    go_wp2_with fail
    refine (radd_c _ _ _).mono ?_
    rw [← HP.out]
    rintro e v ⟨rfl, rfl⟩
    go_wp2_with fail
    refine (rsub_c _ _ _).mono ?_
    rw [← HQ.out]
    rintro e v ⟨rfl, rfl⟩
    go_wp2_with fail
    refine (rsum_c _ _ _ _ _ H.out).mono ?_
    rw [← HS.out]
    rintro e v ⟨rfl, rfl⟩
    go_wp2_with fail
    refine (right_t _ _ ha.out).mono ?_
    rintro e v ⟨rfl, rfl⟩
    go_wp2_with fail
    refine (rright_t _ _ ha.out).mono ?_
    rintro e v ⟨rfl, rfl⟩
    go_wp2_with fail
    refine (told_c _).mono ?_
    rintro e w2 ⟨rfl, hb⟩
    go_wp2_with fail
    go_ret
    exact ⟨rfl, hb⟩
  · have ha := Lib.hid ha'
    clear ha'
    go_enter Try.func3, Try.ntmps3
    go_wp2_with fail
    refine (add_c _ _ _).mono ?_
    rw [← HP.out]
    rintro e v ⟨rfl, rfl⟩
    go_wp2_with fail
    refine (sub_c _ _ _).mono ?_
    rw [← HQ.out]
    rintro e v ⟨rfl, rfl⟩
    go_wp2_with fail
    refine (sum_c _ _ _ _ _ H.out).mono ?_
    rw [← HS.out]
    rintro e v ⟨rfl, rfl⟩
    go_wp2_with fail
    refine (radd_c _ _ _).mono ?_
    rw [← HP.out]
    rintro e v ⟨rfl, rfl⟩
    go_wp2_with fail
    refine (rsub_c _ _ _).mono ?_
    rw [← HQ.out]
    rintro e v ⟨rfl, rfl⟩
    go_wp2_with fail
    refine (rsum_c _ _ _ _ _ H.out).mono ?_
    rw [← HS.out]
    rintro e v ⟨rfl, rfl⟩
    go_wp2_with fail
    refine (right_f _ _ ha.out).mono ?_
    rintro e v ⟨rfl, rfl⟩
    go_wp2_with fail
    refine (rright_f _ _ ha.out).mono ?_
    rintro e v ⟨rfl, rfl⟩
    go_wp2_with fail
    refine (told_c _).mono ?_
    rintro e w2 ⟨rfl, hb⟩
    go_wp2_with fail
    go_ret
    exact ⟨rfl, hb⟩
#print axioms coinSums_walk
end Go.Proofs.Ytijlelkohegcmaa
