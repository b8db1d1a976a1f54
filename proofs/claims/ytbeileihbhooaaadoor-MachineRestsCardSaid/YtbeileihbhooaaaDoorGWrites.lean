/-
  code: the word that an instruction writes, where it may go on, an operation's name; whether numbers are the same: contracts.
-/
import Derived.Test.YtbeileihbhooaaaDoorGReads
namespace Go.Proofs.YtbeileihbhooaaaDoor
open Go.RowKit

theorem eq22 {o : Int} (h : 0 ≤ o ∧ o < 22) : o = 0 ∨ o = 1 ∨ o = 2 ∨ o = 3 ∨ o = 4 ∨ o = 5 ∨ o = 6 ∨ o = 7 ∨ o = 8 ∨ o = 9 ∨ o = 10 ∨ o = 11 ∨ o = 12 ∨ o = 13 ∨ o = 14 ∨ o = 15 ∨ o = 16 ∨ o = 17 ∨ o = 18 ∨ o = 19 ∨ o = 20 ∨ o = 21 := by omega
/-- what stands first -/
def firstB (o : Int) : Nat := ((hasB o.toNat).getD 0 0).toNat
theorem firstB_of {o : Int} (h : 0 ≤ o ∧ o < 22) : ((firstB o = 119 ∨ firstB o = 99) ∧ ¬ (o < 1 ∨ o = 16 ∨ 18 < o)) ∨ (¬ firstB o = 119 ∧ ¬ firstB o = 99 ∧ (o < 1 ∨ o = 16 ∨ 18 < o)) := by
  rcases eq22 h with rfl | rfl | rfl | rfl | rfl | rfl | rfl | rfl | rfl | rfl | rfl | rfl | rfl | rfl | rfl | rfl | rfl | rfl | rfl | rfl | rfl | rfl <;> decide

set_option maxRecDepth 100000 in
set_option maxHeartbeats 1000000 in
theorem writes_c (w : World) (hf : Hid (Forms w)) (o a b c : Int) : Calls Tryd.prog 35 #[.agg #[.int .i64 o, .int .i64 a, .int .i64 b, .int .i64 c]] w (Gives (.int .i64 (writesV o a)) w) := by
  by_cases ho : 0 ≤ o ∧ o < 22
  · have HK := Lib.hid (firstB_of ho)
    obtain ⟨f, hfb⟩ : ∃ f, f = firstB o := ⟨_, rfl⟩
    obtain ⟨m, rfl⟩ : ∃ m : Nat, o = (m : Int) := ⟨o.toNat, by omega⟩
    have hm : m < 22 := by omega
    have hmI : (m : Int) < 22 := by omega
    have hm0 : (0 : Int) ≤ (m : Int) := by omega
    obtain ⟨S, hS⟩ : ∃ S : ByteArray, S = ⟨(hasB m).toArray⟩ := ⟨_, rfl⟩
    have ch := (Forms.ext hf.out (ext_alloc w (.cells #[.int .i64 m, .int .i64 a, .int .i64 b, .int .i64 c] 57))).has m hm
    rw [← hS] at ch
    have I1 : ∀ w, (Instr.index 9 (.string S) (.int .i64 0)).run Tryd.prog w = .ok (.int .u8 (f : Int)) w := fun w => by
      have h1 := (hasB_len m hm).1
      have hz : S.size = (hasB m).length := by rw [hS]; rfl
      rw [run_index_string w 9 S .i64 0 Tryd.underlying9, dif_pos ⟨by omega, by rw [hz]; omega⟩]
      congr 1
      congr 1
      have hv : ∀ (T : ByteArray) (hT : T = S) (h : 0 < T.data.size), (T.data[0]).toNat = f := fun T hT h => by
        subst hT
        rw [hfb]
        unfold firstB
        subst hS
        rw [Int.toNat_natCast]
        congr 1
        simp [List.getD]
        rw [List.getElem?_eq_getElem (by omega)]
        rfl
      exact congrArg (fun n : Nat => (n : Int)) (hv S rfl (by show 0 < S.size; omega))
    rw [← hfb] at HK
    have HW : Hid ((f = 119 ∨ f = 99) → writesV m a = a) := by
      intro h
      rcases HK.out with h2 | h2
      · unfold writesV; rw [if_neg h2.2]
      · rcases h with h | h
        · exact absurd h h2.1
        · exact absurd h h2.2.1
    have HN : Hid ((¬ f = 119 ∧ ¬ f = 99) → writesV m a = -1) := by
      intro h
      rcases HK.out with h2 | h2
      · rcases h2.1 with h3 | h3
        · exact absurd h3 h.1
        · exact absurd h3 h.2
      · unfold writesV; rw [if_pos h2.2.2]
    clear hfb hS HK ho
    by_cases f1 : f = 119
    · rw [HW.out (.inl f1)]
      subst f1
      clear HW HN
      go_enter Tryd.func35, Tryd.ntmps35
      go_wp2_with fail
      refine (known_t _ _ hm0 hmI).mono ?_
      rintro e w' ⟨rfl, rfl⟩
      go_wp2_with fail
      go_ret
      exact ⟨rfl, ext_alloc w _⟩
    · have g1 : ((f : Int) == 119) = false := by rw [beq_eq_false_iff_ne]; omega
      by_cases f2 : f = 99
      · rw [HW.out (.inr f2)]
        subst f2
        clear HW HN f1 g1
        go_enter Tryd.func35, Tryd.ntmps35
        go_wp2_with fail
        refine (known_t _ _ hm0 hmI).mono ?_
        rintro e w' ⟨rfl, rfl⟩
        go_wp2_with fail
        go_ret
        exact ⟨rfl, ext_alloc w _⟩
      · have g2 : ((f : Int) == 99) = false := by rw [beq_eq_false_iff_ne]; omega
        rw [HN.out ⟨f1, f2⟩]
        clear HW HN f1 f2
        go_enter Tryd.func35, Tryd.ntmps35
        go_wp2_with fail
        refine (known_t _ _ hm0 hmI).mono ?_
        rintro e w' ⟨rfl, rfl⟩
        go_wp2_with fail
        go_ret
        exact ⟨rfl, ext_alloc w _⟩
  · have HV : Hid (writesV o a = -1) := by show _ = _; unfold writesV; rw [if_pos (by omega)]
    rw [HV.out]
    go_enter Tryd.func35, Tryd.ntmps35
    go_wp2_with fail
    refine (known_f _ o ho).mono ?_
    rintro e w' ⟨rfl, rfl⟩
    go_wp2_with fail
    go_ret
    exact ⟨rfl, ext_alloc w _⟩

#print axioms writes_c
end Go.Proofs.YtbeileihbhooaaaDoor
