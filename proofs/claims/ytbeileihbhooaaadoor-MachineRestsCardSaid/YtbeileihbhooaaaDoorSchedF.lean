/-
  The same where the region's last operation, which has to wait for all that is taken first, may leave the class. No program is named here.
-/
import Derived.Test.YtbeileihbhooaaaDoorSchedC
namespace Go.Proofs.YtbeileihbhooaaaDoor
open Go.RowKit

section
variable {P : Program} {ops : Array Oper} {md : Region.Mode} {C : World → Prop}

def wpAnyF (P : Program) (md : Region.Mode) (ops : Array Oper) (C : World → Prop) (fin : Nat) (Q : Exit → Act → World → Prop) : Nat → Array Bool → Act → World → Prop
  | 0, listed, a, w => Region.ready md ops listed = [] ∧ Q .normal a w
  | fuel + 1, listed, a, w =>
    (Region.ready md ops listed = [] → Q .normal a w) ∧
    ∀ i ∈ Region.ready md ops listed, wpOp P ops Q i (fun a' w' => (i ≠ fin → C w') ∧ wpAnyF P md ops C fin Q fuel (listed.setIfInBounds i true) a' w') a w

theorem wpAny_of_F {fin : Nat} {Q : Exit → Act → World → Prop} : ∀ (fuel : Nat) (listed : Array Bool) (a : Act) (w : World), wpAnyF P md ops C fin Q fuel listed a w → wpAny P md ops Q fuel listed a w
  | 0, _, _, _, h => h
  | fuel + 1, _, _, _, h => ⟨h.1, fun i hi => wpOp_mono (fun a' w' h' => wpAny_of_F fuel _ a' w' h'.2) (h.2 i hi)⟩

theorem wpAnyF_first {fin : Nat} {Q : Exit → Act → World → Prop} {i : Nat} {oi : Oper} {v : Value} (hi : ops[i]? = some oi) (hsel : ∀ (j : Nat) (o : Oper) cs b, ops[j]? = some o → o.op ≠ .select cs b)
    (hQ : ∀ c a w, Q (.panic c) (a.put oi.dst v) w → Q (.panic c) a w) :
    ∀ (_hfin : ∀ oj, ops[fin]? = some oj → ∃ e ∈ oj.after, Region.binds md e = true ∧ e.on = i) (fuel : Nat) (listed : Array Bool) (a : Act) (w : World),
      (∀ j oj, ops[j]? = some oj → j ≠ i → listed.getD j true = false → (∀ e ∈ oj.after, Region.binds md e = true → e.on ≠ i) → oi.apart ops oj = true) →
      i ∈ Region.ready md ops listed → YieldsC P ops C oi v a → C w →
      wpAnyF P md ops C fin Q fuel (listed.setIfInBounds i true) (a.put oi.dst v) w → wpAnyF P md ops C fin Q (fuel + 1) listed a w := by
  intro hfin fuel
  induction fuel with
  | zero =>
    intro listed a w _ hr hy hC H
    refine ⟨fun h => (by rw [h] at hr; cases hr), fun j hj => ?_⟩
    by_cases hji : j = i
    · subst hji; exact hy.wpOp hi hC ⟨fun _ => hC, H⟩
    · have := ready_mono hj hji
      rw [H.1] at this
      cases this
  | succ fuel ih =>
    intro listed a w hfree hr hy hC H
    refine ⟨fun h => (by rw [h] at hr; cases hr), fun j hj => ?_⟩
    by_cases hji : j = i
    · subst hji; exact hy.wpOp hi hC ⟨fun _ => hC, H⟩
    · have h1 := H.2 j (ready_mono hj hji)
      obtain ⟨hjun, oj, hoj, hall⟩ := mem_ready.1 hj
      have hnot : ∀ e ∈ oj.after, Region.binds md e = true → e.on ≠ i := fun e he hb heq => by
        have h1 := hall e he hb
        have h0 := (mem_ready.1 hr).1
        rw [heq] at h1
        rcases Nat.lt_or_ge i listed.size with h' | h'
        · simp [h'] at h0 h1; rw [h0] at h1; cases h1
        · simp [Array.getElem?_eq_none h'] at h1
      have hjf : j ≠ fin := fun e => by
        subst e
        obtain ⟨e, he, hb, heq⟩ := hfin oj hoj
        exact hnot e he hb heq
      have h2 := wpOp_putC hoj (hfree j oj hoj hji hjun hnot) (fun cs b => hsel i oi cs b hi) (fun cs b => hsel j oj cs b hoj) hQ hy h1
      have hfree' : ∀ k ok, ops[k]? = some ok → k ≠ i → (listed.setIfInBounds j true).getD k true = false →
          (∀ e ∈ ok.after, Region.binds md e = true → e.on ≠ i) → oi.apart ops ok = true := fun k ok hk hki hun hno => by
        refine hfree k ok hk hki ?_ hno
        by_cases hjk : j = k
        · subst hjk; exact hjun
        · rw [getD_set_ne true hjk] at hun; exact hun
      refine wpOp_mono (fun a' w' h3 => ⟨h3.2.1, ih (listed.setIfInBounds j true) a' w' hfree' (ready_mono hr (Ne.symm hji)) h3.1 (h3.2.1 hjf) ?_⟩) h2
      rw [Array.setIfInBounds_comm _ _ hji]
      exact h3.2.2

/-- the order: what is taken first has to stand ahead of the last one -/
def schedFB (md : Region.Mode) (ops : Array Oper) (fin : Nat) : List (Bool × Nat) → Bool
  | [] => true
  | (true, i) :: s => (match ops[fin]? with | some o => o.after.any (fun e => Region.binds md e && e.on == i) | none => false) && schedFB md ops fin s
  | (false, i) :: s => (decide (i ≠ fin) || s.isEmpty) && schedFB md ops fin s

def wpSchedF (P : Program) (ops : Array Oper) (C : World → Prop) (fin : Nat) (K : Act → World → Prop) : List (Bool × Nat) → Act → World → Prop
  | [], a, w => K a w
  | (true, i) :: s, a, w => ∃ o v, ops[i]? = some o ∧ YieldsC P ops C o v a ∧ wpSchedF P ops C fin K s (a.put o.dst v) w
  | (false, i) :: s, a, w => ∃ o, ops[i]? = some o ∧ wpList P ops (Exit.then (fun a' w' => (i ≠ fin → C w') ∧ wpSchedF P ops C fin K s a' w') (fun _ _ _ => False)) [o] a w

theorem wpAnyF_of_sched {fin : Nat} {Q : Exit → Act → World → Prop} (hs : Region.noSelect ops = true) (hQ : ∀ c a d v w, Q (.panic c) (Act.put a d v) w → Q (.panic c) a w) :
    ∀ (s : List (Bool × Nat)) (listed : Array Bool) (a : Act) (w : World), schedB md ops s listed = true → schedFB md ops fin s = true → C w → wpSchedF P ops C fin (Q .normal) s a w → wpAnyF P md ops C fin Q s.length listed a w
  | [], listed, a, w, hB, _, _, h => ⟨by simpa [schedB] using hB, h⟩
  | (true, i) :: s, listed, a, w, hB, hF, hC, h => by
    simp only [schedB, Bool.and_eq_true] at hB
    simp only [schedFB, Bool.and_eq_true] at hF
    obtain ⟨o, v, hi, hy, h2⟩ := h
    refine wpAnyF_first hi (Region.noSelect_spec hs) (fun c a w h => hQ c a o.dst v w h) (fun oj hoj => ?_) _ listed a w (Region.free_spec hi hB.1.2) (by simpa using hB.1.1) hy hC (wpAnyF_of_sched hs hQ s _ _ _ hB.2 hF.2 hC h2)
    have h1 := hF.1
    rw [hoj] at h1
    obtain ⟨e, he, h3⟩ := Array.any_eq_true'.1 h1
    simp only [Bool.and_eq_true, beq_iff_eq] at h3
    exact ⟨e, he, h3.1, h3.2⟩
  | (false, i) :: s, listed, a, w, hB, hF, hC, h => by
    simp only [schedB, Bool.and_eq_true, decide_eq_true_eq] at hB
    simp only [schedFB, Bool.and_eq_true, Bool.or_eq_true, decide_eq_true_eq, List.isEmpty_iff] at hF
    obtain ⟨o, hi, h2⟩ := h
    have next : ∀ a' w', ((i ≠ fin → C w') ∧ wpSchedF P ops C fin (Q .normal) s a' w') → ((i ≠ fin → C w') ∧ wpAnyF P md ops C fin Q s.length (listed.setIfInBounds i true) a' w') := fun a' w' hh => by
      by_cases hif : i = fin
      · rcases hF.1 with h1 | h1
        · exact absurd hif h1
        · subst h1
          exact ⟨hh.1, by simpa [schedB] using hB.2, hh.2⟩
      · exact ⟨hh.1, wpAnyF_of_sched hs hQ s _ _ _ hB.2 hF.2 (hh.1 hif) hh.2⟩
    refine ⟨fun h0 => (by rw [hB.1] at h0; cases h0), fun j hj => ?_⟩
    rw [hB.1] at hj
    obtain rfl : j = i := by simpa using hj
    unfold wpOp
    simp only [hi]
    simp only [wpList] at h2
    by_cases hw : Region.wanted o (yielded ops a.tmps) = true
    · rw [if_pos hw] at h2 ⊢
      rcases h2 with h2 | ⟨_, _, _, h2⟩
      · exact .inl (wp_monoQ (fun a w h => next a w h) (fun e a w hne h => by cases e <;> first | exact absurd rfl hne | exact h.elim) h2)
      · exact h2.elim
    · rw [if_neg hw] at h2 ⊢
      exact next _ _ h2

/-- THE REGION BY ONE ORDER, in a class of worlds. -/
theorem wp_region_schedF {fin : Nat} {id : Nat} {Q : Exit → Act → World → Prop} {a : Act} {w : World} (C : World → Prop) (s : List (Bool × Nat)) (hm : P.follows .mixedOrders = true) (hl : s.length = ops.size) (hs : Region.noSelect ops = true)
    (hB : schedB .any ops s (Array.replicate ops.size false) = true) (hF : schedFB .any ops fin s = true) (hQ : ∀ c a d v w, Q (.panic c) (Act.put a d v) w → Q (.panic c) a w) (hC : C w.drew)
    (h : ∀ K : Act → World → Prop, (∀ a w, Q .normal a w → K a w) → wpSchedF P ops C fin K s a w.drew) : (Code.region id ops true).wp P Q a w := by
  refine wp_region_any hm ?_
  have h2 := wpAny_of_F _ _ _ _ (wpAnyF_of_sched (md := .any) (Q := Q) (C := C) (fin := fin) hs hQ s _ a w.drew hB hF hC (h _ (fun _ _ h => h)))
  rw [hl] at h2
  exact h2

theorem schedF_pure {fin : Nat} {K : Act → World → Prop} {i : Nat} {s : List (Bool × Nat)} {o : Oper} {v : Value} {a : Act} {w : World} (hi : ops[i]? = some o) (hw : Region.wanted o (yielded ops a.tmps) = true)
    (hv : ∀ w, C w → (execOp a.eval o).run P w = .ok (.value v) w) (h : wpSchedF P ops C fin K s (a.put o.dst v) w) : wpSchedF P ops C fin K ((true, i) :: s) a w := ⟨o, v, hi, .inl ⟨hw, hv⟩, h⟩
theorem schedF_eff {fin : Nat} {K : Act → World → Prop} {i : Nat} {s : List (Bool × Nat)} {o : Oper} {a : Act} {w : World} (hi : ops[i]? = some o)
    (h : ∀ K' : Act → World → Prop, (∀ a w, (i ≠ fin → C w) ∧ wpSchedF P ops C fin K s a w → K' a w) → wpList P ops (Exit.then K' (fun _ _ _ => False)) [o] a w) : wpSchedF P ops C fin K ((false, i) :: s) a w := ⟨o, hi, h _ (fun _ _ h => h)⟩
theorem schedF_nil {fin : Nat} {K : Act → World → Prop} {a : Act} {w : World} (h : K a w) : wpSchedF P ops C fin K [] a w := h
end
#print axioms wp_region_schedF
end Go.Proofs.YtbeileihbhooaaaDoor
