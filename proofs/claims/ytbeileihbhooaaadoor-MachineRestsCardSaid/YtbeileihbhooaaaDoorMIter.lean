/-
  machine: what steps keep. Plain.
-/
import Derived.Test.YtbeileihbhooaaaDoorMStep
namespace Go.Proofs.YtbeileihbhooaaaDoor

theorem stepV_right {c : List Ins} {s : MS} (h : rightM s = true) : rightM (stepV c s) = true := by
  unfold stepV
  split
  · rename_i h1
    split
    · rename_i h2
      obtain ⟨hl, hp, hr⟩ := named_pc h2.1
      have hs := of_decide_eq_true h
      obtain ⟨o1, o2⟩ := right_op hr
      refine decide_eq_true ?_
      dsimp only
      rw [memV_length]
      refine ⟨hs.1, hs.2.1, ?_⟩
      unfold pcV haltV
      by_cases e0 : (insAt c s.pc).o = 0
      · rw [if_pos e0, if_pos e0]
        rw [e0] at hr
        have := (right_0 hr).2.2.2
        omega
      · rw [if_neg e0, if_neg e0]
        by_cases e1 : (insAt c s.pc).o = 19 ∨ (insAt c s.pc).o = 20 ∧ getW s.mem (insAt c s.pc).b = 0 ∨ (insAt c s.pc).o = 21 ∧ getW s.mem (insAt c s.pc).b ≠ 0
        · rw [if_pos e1]
          have ha : 0 ≤ (insAt c s.pc).a ∧ (insAt c s.pc).a < c.length := by
            rcases e1 with e | ⟨e, _⟩ | ⟨e, _⟩
            · rw [e] at hr; exact (right_19 hr).1
            · rw [e] at hr; exact (right_20 hr).1
            · rw [e] at hr; exact (right_21 hr).1
          omega
        · rw [if_neg e1]
          omega
    · have hs := of_decide_eq_true h
      refine decide_eq_true ?_
      dsimp only
      omega
  · exact h
theorem stepV_in {c : List Ins} {s : MS} (h : ∀ x ∈ s.mem, In32 x) : ∀ x ∈ (stepV c s).mem, In32 x := by
  unfold stepV
  split
  · split
    · rename_i h2
      obtain ⟨hl, hp, hr⟩ := named_pc h2.1
      dsimp only
      obtain ⟨i, hi⟩ : ∃ i, i = insAt c s.pc := ⟨_, rfl⟩
      rw [← hi] at hr ⊢
      unfold memV
      repeat' split
      all_goals first
        | exact h
        | (rename_i e; exact setW_in h _ _ (by rw [e] at hr; have := right_1 hr; exact ⟨this.2.1.1, this.2.1.2⟩))
        | exact setW_in h _ _ (getW_in h _)
        | exact setW_in h _ _ (truthI_in _)
        | exact setW_in h _ _ (twoV_in _ _ _ (getW_in h _))
        | skip
      all_goals
        have e17 : i.o = 17 := by assumption
        rw [e17] at hr
        have hf := right_17 hr
        refine setW_in h _ _ ?_
        first
          | exact ⟨by omega, by omega⟩
          | exact getW_in h _
    · exact h
  · exact h
theorem iterV_right {c : List Ins} {s : MS} (h : rightM s = true) : ∀ k, rightM (iterV c k s) = true
  | 0 => h
  | k + 1 => stepV_right (iterV_right h k)
theorem iterV_in {c : List Ins} {s : MS} (h : ∀ x ∈ s.mem, In32 x) : ∀ k, ∀ x ∈ (iterV c k s).mem, In32 x
  | 0 => h
  | k + 1 => stepV_in (iterV_in h k)
#print axioms iterV_right
#print axioms iterV_in
end Go.Proofs.YtbeileihbhooaaaDoor
