/-
  A region whose order is open, walked in one order: operations that yield one value in whatever world come first, as soon as they may; all others come up one at a time. No program is named here.
-/
import Derived.RegionTactic
import Derived.Tactics
import Derived.WalkKit
namespace Go.Proofs.YtbeileihbhooaaaDoor
open Go.RowKit

section
variable {P : Program} {ops : Array Oper} {md : Region.Mode}

/-- the order: true: yields in whatever world -/
def schedB (md : Region.Mode) (ops : Array Oper) : List (Bool × Nat) → Array Bool → Bool
  | [], listed => (Region.ready md ops listed).isEmpty
  | (true, i) :: s, listed => (Region.ready md ops listed).contains i && Region.free md ops listed i && schedB md ops s (listed.setIfInBounds i true)
  | (false, i) :: s, listed => decide (Region.ready md ops listed = [i]) && schedB md ops s (listed.setIfInBounds i true)

def wpSched (P : Program) (ops : Array Oper) (K : Act → World → Prop) : List (Bool × Nat) → Act → World → Prop
  | [], a, w => K a w
  | (true, i) :: s, a, w => ∃ o v, ops[i]? = some o ∧ Yields P ops o v a ∧ wpSched P ops K s (a.put o.dst v) w
  | (false, i) :: s, a, w => ∃ o, ops[i]? = some o ∧ wpList P ops (Exit.then (wpSched P ops K s) (fun _ _ _ => False)) [o] a w

theorem wp_monoQ {o : Oper} {a : Act} {w : World} {K K' : Act → World → Prop} {Q Q' : Exit → Act → World → Prop} (hK : ∀ a w, K a w → K' a w) (hQ : ∀ e a w, e ≠ .normal → Q e a w → Q' e a w)
    (hh : o.wp P a w K Q) : o.wp P a w K' Q' := by
  unfold Oper.wp at *
  generalize (execOp a.eval o).run P w = r at *
  cases r with
  | ok n w' =>
    cases n <;> simp only [Oper.upon] at hh ⊢ <;>
      first
        | exact hK _ _ hh
        | exact Calls.mono hh (fun e w'' he => by
            cases e with
            | returned v => exact hK _ _ he
            | panicked c => exact hQ _ _ _ (by simp) he
            | outgrown =>
              obtain ⟨a2, w2, h2⟩ := he
              exact ⟨a2, w2, hQ _ _ _ (by simp) h2⟩)
        | exact Rows.mono hh (fun _ _ he => hK _ _ he)
  | halt x w' => cases x <;> simp only [Oper.upon] at hh ⊢ <;> first | exact hQ _ _ _ (by simp) hh | exact hh

theorem wpAny_of_sched {Q : Exit → Act → World → Prop} (hs : Region.noSelect ops = true) (hQ : ∀ c a d v w, Q (.panic c) (Act.put a d v) w → Q (.panic c) a w) :
    ∀ (s : List (Bool × Nat)) (listed : Array Bool) (a : Act) (w : World), schedB md ops s listed = true → wpSched P ops (Q .normal) s a w → wpAny P md ops Q s.length listed a w
  | [], listed, a, w, hB, h => ⟨by simpa [schedB] using hB, h⟩
  | (true, i) :: s, listed, a, w, hB, h => by
    simp only [schedB, Bool.and_eq_true] at hB
    obtain ⟨o, v, hi, hy, h2⟩ := h
    exact wpAny_take hi hs hB.1.2 hB.1.1 (fun c a w h => hQ c a o.dst v w h) hy (wpAny_of_sched hs hQ s _ _ _ hB.2 h2)
  | (false, i) :: s, listed, a, w, hB, h => by
    simp only [schedB, Bool.and_eq_true, decide_eq_true_eq] at hB
    obtain ⟨o, hi, h2⟩ := h
    refine wpAny_all hB.1 (by simp) (fun j hj => ?_)
    obtain rfl : j = i := by simpa using hj
    unfold wpOp
    simp only [hi]
    simp only [wpList] at h2
    by_cases hw : Region.wanted o (yielded ops a.tmps) = true
    · rw [if_pos hw] at h2 ⊢
      rcases h2 with h2 | ⟨_, _, _, h2⟩
      · exact .inl (wp_monoQ (fun a w h => wpAny_of_sched hs hQ s _ _ _ hB.2 h) (fun e a w hne h => by cases e <;> first | exact absurd rfl hne | exact h.elim) h2)
      · exact h2.elim
    · rw [if_neg hw] at h2 ⊢
      exact wpAny_of_sched hs hQ s _ _ _ hB.2 h2

theorem wpSched_mono {K K' : Act → World → Prop} (hK : ∀ a w, K a w → K' a w) : ∀ (s : List (Bool × Nat)) (a : Act) (w : World), wpSched P ops K s a w → wpSched P ops K' s a w
  | [], _, _, h => hK _ _ h
  | (true, i) :: s, a, w, h => by
    obtain ⟨o, v, hi, hy, h2⟩ := h
    exact ⟨o, v, hi, hy, wpSched_mono hK s _ _ h2⟩
  | (false, i) :: s, a, w, h => by
    obtain ⟨o, hi, h2⟩ := h
    refine ⟨o, hi, ?_⟩
    simp only [wpList] at h2 ⊢
    split
    · rename_i hw
      rw [if_pos hw] at h2
      rcases h2 with h2 | ⟨_, _, _, h2⟩
      · exact .inl (wp_monoQ (fun a w h => wpSched_mono hK s _ _ h) (fun e a w hne h => by cases e <;> first | exact absurd rfl hne | exact h.elim) h2)
      · exact h2.elim
    · rename_i hw
      rw [if_neg hw] at h2
      exact wpSched_mono hK s _ _ h2

/-- THE REGION BY ONE ORDER. -/
theorem wp_region_sched {id : Nat} {Q : Exit → Act → World → Prop} {a : Act} {w : World} (s : List (Bool × Nat)) (hm : P.follows .mixedOrders = true) (hl : s.length = ops.size) (hs : Region.noSelect ops = true)
    (hB : schedB .any ops s (Array.replicate ops.size false) = true) (hQ : ∀ c a d v w, Q (.panic c) (Act.put a d v) w → Q (.panic c) a w)
    (h : ∀ K : Act → World → Prop, (∀ a w, Q .normal a w → K a w) → wpSched P ops K s a w.drew) : (Code.region id ops true).wp P Q a w := by
  refine wp_region_any hm ?_
  have h2 := wpAny_of_sched (md := .any) (Q := Q) hs hQ s _ a w.drew hB (h _ (fun _ _ h => h))
  rw [hl] at h2
  exact h2

theorem sched_pure {K : Act → World → Prop} {i : Nat} {s : List (Bool × Nat)} {o : Oper} {v : Value} {a : Act} {w : World} (hi : ops[i]? = some o) (hw : Region.wanted o (yielded ops a.tmps) = true)
    (hv : ∀ w, (execOp a.eval o).run P w = .ok (.value v) w) (h : wpSched P ops K s (a.put o.dst v) w) : wpSched P ops K ((true, i) :: s) a w := ⟨o, v, hi, .inl ⟨hw, hv⟩, h⟩
theorem sched_eff {K : Act → World → Prop} {i : Nat} {s : List (Bool × Nat)} {o : Oper} {a : Act} {w : World} (hi : ops[i]? = some o)
    (h : ∀ K' : Act → World → Prop, (∀ a w, wpSched P ops K s a w → K' a w) → wpList P ops (Exit.then K' (fun _ _ _ => False)) [o] a w) : wpSched P ops K ((false, i) :: s) a w := ⟨o, hi, h _ (fun _ _ h => h)⟩
theorem sched_nil {K : Act → World → Prop} {a : Act} {w : World} (h : K a w) : wpSched P ops K [] a w := h
end
end Go.Proofs.YtbeileihbhooaaaDoor
