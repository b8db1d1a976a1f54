/-
  The same where at some points two operations may go first (an allocation, or a conversion that makes memory, beside calls): a tree of orders. No program is named here.
-/
import Derived.Test.YtbeileihbhooaaaDoorSchedF
namespace Go.Proofs.YtbeileihbhooaaaDoor
open Go.RowKit

/-- orders: one that yields in whatever world of the class, one that has to go next, two of which either may go next -/
inductive Tr where
  | nil : Tr
  | pure (i : Nat) (t : Tr) : Tr
  | eff (i : Nat) (t : Tr) : Tr
  | two (i : Nat) (t : Tr) (j : Nat) (u : Tr) : Tr

section
variable {P : Program} {ops : Array Oper} {md : Region.Mode} {C : World → Prop}

def trB (md : Region.Mode) (ops : Array Oper) (fin : Nat) : Tr → Nat → Array Bool → Bool
  | .nil, 0, listed => (Region.ready md ops listed).isEmpty
  | .pure i t, n + 1, listed => (Region.ready md ops listed).contains i && Region.free md ops listed i && (match ops[fin]? with | some o => o.after.any (fun e => Region.binds md e && e.on == i) | none => true) && trB md ops fin t n (listed.setIfInBounds i true)
  | .eff i t, n + 1, listed => decide (Region.ready md ops listed = [i]) && (decide (i ≠ fin) || decide (n = 0)) && trB md ops fin t n (listed.setIfInBounds i true)
  | .two i t j u, n + 1, listed => decide (Region.ready md ops listed = [i, j]) && decide (i ≠ fin) && decide (j ≠ fin) && trB md ops fin t n (listed.setIfInBounds i true) && trB md ops fin u n (listed.setIfInBounds j true)
  | _, _, _ => false

def wpTr (P : Program) (ops : Array Oper) (C : World → Prop) (fin : Nat) (K : Act → World → Prop) : Tr → Act → World → Prop
  | .nil, a, w => K a w
  | .pure i t, a, w => ∃ o v, ops[i]? = some o ∧ YieldsC P ops C o v a ∧ wpTr P ops C fin K t (a.put o.dst v) w
  | .eff i t, a, w => ∃ o, ops[i]? = some o ∧ wpList P ops (Exit.then (fun a' w' => (i ≠ fin → C w') ∧ wpTr P ops C fin K t a' w') (fun _ _ _ => False)) [o] a w
  | .two i t j u, a, w => (∃ o, ops[i]? = some o ∧ wpList P ops (Exit.then (fun a' w' => (i ≠ fin → C w') ∧ wpTr P ops C fin K t a' w') (fun _ _ _ => False)) [o] a w) ∧
      (∃ o, ops[j]? = some o ∧ wpList P ops (Exit.then (fun a' w' => (j ≠ fin → C w') ∧ wpTr P ops C fin K u a' w') (fun _ _ _ => False)) [o] a w)

theorem wpOp_of_list {Q : Exit → Act → World → Prop} {i : Nat} {o : Oper} {a : Act} {w : World} {K K' : Act → World → Prop} (hi : ops[i]? = some o) (hK : ∀ a w, K a w → K' a w)
    (h2 : wpList P ops (Exit.then K (fun _ _ _ => False)) [o] a w) : wpOp P ops Q i K' a w := by
  unfold wpOp
  simp only [hi]
  simp only [wpList] at h2
  by_cases hw : Region.wanted o (yielded ops a.tmps) = true
  · rw [if_pos hw] at h2 ⊢
    rcases h2 with h2 | ⟨_, _, _, h2⟩
    · exact .inl (wp_monoQ (fun a w h => hK a w h) (fun e a w hne h => by cases e <;> first | exact absurd rfl hne | exact h.elim) h2)
    · exact h2.elim
  · rw [if_neg hw] at h2 ⊢
    exact hK _ _ h2

theorem wpAnyF_of_tr {fin : Nat} {Q : Exit → Act → World → Prop} (hs : Region.noSelect ops = true) (hQ : ∀ c a d v w, Q (.panic c) (Act.put a d v) w → Q (.panic c) a w) :
    ∀ (t : Tr) (n : Nat) (listed : Array Bool) (a : Act) (w : World), trB md ops fin t n listed = true → (t = .nil ∨ C w) → wpTr P ops C fin (Q .normal) t a w → wpAnyF P md ops C fin Q n listed a w
  | .nil, 0, listed, a, w, hB, _, h => ⟨by simpa [trB] using hB, h⟩
  | .pure i t, n + 1, listed, a, w, hB, hC, h => by
    simp only [trB, Bool.and_eq_true] at hB
    have hC : C w := hC.resolve_left (by simp)
    obtain ⟨o, v, hi, hy, h2⟩ := h
    refine wpAnyF_first hi (Region.noSelect_spec hs) (fun c a w h => hQ c a o.dst v w h) (fun oj hoj => ?_) _ listed a w (Region.free_spec hi hB.1.1.2) (by simpa using hB.1.1.1) hy hC (wpAnyF_of_tr hs hQ t n _ _ _ hB.2 (.inr hC) h2)
    have h1 := hB.1.2
    rw [hoj] at h1
    obtain ⟨e, he, h3⟩ := Array.any_eq_true'.1 h1
    simp only [Bool.and_eq_true, beq_iff_eq] at h3
    exact ⟨e, he, h3.1, h3.2⟩
  | .eff i t, n + 1, listed, a, w, hB, _, h => by
    simp only [trB, Bool.and_eq_true, Bool.or_eq_true, decide_eq_true_eq] at hB
    obtain ⟨o, hi, h2⟩ := h
    refine ⟨fun h0 => (by rw [hB.1.1] at h0; cases h0), fun j hj => ?_⟩
    rw [hB.1.1] at hj
    obtain rfl : j = i := by simpa using hj
    refine wpOp_of_list hi (fun a' w' hh => ⟨hh.1, wpAnyF_of_tr hs hQ t n _ _ _ hB.2 ?_ hh.2⟩) h2
    rcases hB.1.2 with hne | h0
    · exact .inr (hh.1 hne)
    · subst h0
      left
      have := hB.2
      cases t <;> simp [trB] at this ⊢
  | .two i t j u, n + 1, listed, a, w, hB, _, h => by
    simp only [trB, Bool.and_eq_true, decide_eq_true_eq] at hB
    obtain ⟨⟨o, hi, h2⟩, ⟨o', hj', h3⟩⟩ := h
    refine ⟨fun h0 => (by rw [hB.1.1.1.1] at h0; cases h0), fun k hk => ?_⟩
    rw [hB.1.1.1.1] at hk
    rcases List.mem_cons.1 hk with rfl | hk
    · exact wpOp_of_list hi (fun a' w' hh => ⟨hh.1, wpAnyF_of_tr hs hQ t n _ _ _ hB.1.2 (.inr (hh.1 hB.1.1.1.2)) hh.2⟩) h2
    · obtain rfl : k = j := by simpa using hk
      exact wpOp_of_list hj' (fun a' w' hh => ⟨hh.1, wpAnyF_of_tr hs hQ u n _ _ _ hB.2 (.inr (hh.1 hB.1.1.2)) hh.2⟩) h3
  | .nil, n + 1, _, _, _, hB, _, _ => by simp [trB] at hB
  | .pure .., 0, _, _, _, hB, _, _ => by simp [trB] at hB
  | .eff .., 0, _, _, _, hB, _, _ => by simp [trB] at hB
  | .two .., 0, _, _, _, hB, _, _ => by simp [trB] at hB

/-- THE REGION BY A TREE OF ORDERS, in a class of worlds. -/
theorem wp_region_tr {fin : Nat} {id : Nat} {Q : Exit → Act → World → Prop} {a : Act} {w : World} (C : World → Prop) (t : Tr) (hm : P.follows .mixedOrders = true) (hs : Region.noSelect ops = true)
    (hB : trB .any ops fin t ops.size (Array.replicate ops.size false) = true) (hQ : ∀ c a d v w, Q (.panic c) (Act.put a d v) w → Q (.panic c) a w) (hC : C w.drew)
    (h : ∀ K : Act → World → Prop, (∀ a w, Q .normal a w → K a w) → wpTr P ops C fin K t a w.drew) : (Code.region id ops true).wp P Q a w := by
  refine wp_region_any hm ?_
  exact wpAny_of_F _ _ _ _ (wpAnyF_of_tr (md := .any) (Q := Q) (C := C) (fin := fin) hs hQ t _ _ a w.drew hB (.inr hC) (h _ (fun _ _ h => h)))

theorem tr_pure {fin : Nat} {K : Act → World → Prop} {i : Nat} {t : Tr} {o : Oper} {v : Value} {a : Act} {w : World} (hi : ops[i]? = some o) (hw : Region.wanted o (yielded ops a.tmps) = true)
    (hv : ∀ w, C w → (execOp a.eval o).run P w = .ok (.value v) w) (h : wpTr P ops C fin K t (a.put o.dst v) w) : wpTr P ops C fin K (.pure i t) a w := ⟨o, v, hi, .inl ⟨hw, hv⟩, h⟩
theorem tr_skip {fin : Nat} {K : Act → World → Prop} {i : Nat} {t : Tr} {o : Oper} {a : Act} {w : World} (hi : ops[i]? = some o) (hw : Region.wanted o (yielded ops a.tmps) = false)
    (h : wpTr P ops C fin K t (a.put o.dst undef) w) : wpTr P ops C fin K (.pure i t) a w := ⟨o, undef, hi, .inr ⟨hw, rfl⟩, h⟩
theorem tr_eff {fin : Nat} {K : Act → World → Prop} {i : Nat} {t : Tr} {o : Oper} {a : Act} {w : World} (hi : ops[i]? = some o)
    (h : ∀ K' : Act → World → Prop, (∀ a w, (i ≠ fin → C w) ∧ wpTr P ops C fin K t a w → K' a w) → wpList P ops (Exit.then K' (fun _ _ _ => False)) [o] a w) : wpTr P ops C fin K (.eff i t) a w := ⟨o, hi, h _ (fun _ _ h => h)⟩
theorem tr_two {fin : Nat} {K : Act → World → Prop} {i j : Nat} {t u : Tr} {o o' : Oper} {a : Act} {w : World} (hi : ops[i]? = some o) (hj : ops[j]? = some o')
    (h : ∀ K' : Act → World → Prop, (∀ a w, (i ≠ fin → C w) ∧ wpTr P ops C fin K t a w → K' a w) → wpList P ops (Exit.then K' (fun _ _ _ => False)) [o] a w)
    (h2 : ∀ K' : Act → World → Prop, (∀ a w, (j ≠ fin → C w) ∧ wpTr P ops C fin K u a w → K' a w) → wpList P ops (Exit.then K' (fun _ _ _ => False)) [o'] a w) : wpTr P ops C fin K (.two i t j u) a w :=
  ⟨⟨o, hi, h _ (fun _ _ h => h)⟩, ⟨o', hj, h2 _ (fun _ _ h => h)⟩⟩
theorem tr_nil {fin : Nat} {K : Act → World → Prop} {a : Act} {w : World} (h : K a w) : wpTr P ops C fin K .nil a w := h
end
#print axioms wp_region_tr
end Go.Proofs.YtbeileihbhooaaaDoor
