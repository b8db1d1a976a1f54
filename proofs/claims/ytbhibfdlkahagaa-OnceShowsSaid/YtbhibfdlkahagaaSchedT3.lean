/-
  The same where at some points two operations may go first (an allocation, or a conversion that makes memory, beside calls): a tree of orders. No program is named here.
-/
import Derived.Test.YtbhibfdlkahagaaSchedT
namespace Go.Proofs.Ytbhibfdlkahagaa
open Go.RowKit

/-- orders: one that yields in whatever world of the class, one that has to go next, two of which either may go next -/
inductive Tr3 where
  | nil : Tr3
  | pure (i : Nat) (t : Tr3) : Tr3
  | eff (i : Nat) (t : Tr3) : Tr3
  | two (i : Nat) (t : Tr3) (j : Nat) (u : Tr3) : Tr3
  | three (i : Nat) (t : Tr3) (j : Nat) (u : Tr3) (k : Nat) (s : Tr3) : Tr3

section
variable {P : Program} {ops : Array Oper} {md : Region.Mode} {C : World → Prop}

def trB3 (md : Region.Mode) (ops : Array Oper) (fin : Nat) : Tr3 → Nat → Array Bool → Bool
  | .nil, 0, listed => (Region.ready md ops listed).isEmpty
  | .pure i t, n + 1, listed => (Region.ready md ops listed).contains i && Region.free md ops listed i && (match ops[fin]? with | some o => o.after.any (fun e => Region.binds md e && e.on == i) | none => true) && trB3 md ops fin t n (listed.setIfInBounds i true)
  | .eff i t, n + 1, listed => decide (Region.ready md ops listed = [i]) && (decide (i ≠ fin) || decide (n = 0)) && trB3 md ops fin t n (listed.setIfInBounds i true)
  | .two i t j u, n + 1, listed => decide (Region.ready md ops listed = [i, j]) && decide (i ≠ fin) && decide (j ≠ fin) && trB3 md ops fin t n (listed.setIfInBounds i true) && trB3 md ops fin u n (listed.setIfInBounds j true)
  | .three i t j u k s, n + 1, listed => decide (Region.ready md ops listed = [i, j, k]) && decide (i ≠ fin) && decide (j ≠ fin) && decide (k ≠ fin) && trB3 md ops fin t n (listed.setIfInBounds i true) && trB3 md ops fin u n (listed.setIfInBounds j true) && trB3 md ops fin s n (listed.setIfInBounds k true)
  | _, _, _ => false

def wpTr3 (P : Program) (ops : Array Oper) (C : World → Prop) (fin : Nat) (K : Act → World → Prop) : Tr3 → Act → World → Prop
  | .nil, a, w => K a w
  | .pure i t, a, w => ∃ o v, ops[i]? = some o ∧ YieldsC P ops C o v a ∧ wpTr3 P ops C fin K t (a.put o.dst v) w
  | .eff i t, a, w => ∃ o, ops[i]? = some o ∧ wpList P ops (Exit.then (fun a' w' => (i ≠ fin → C w') ∧ wpTr3 P ops C fin K t a' w') (fun _ _ _ => False)) [o] a w
  | .two i t j u, a, w => (∃ o, ops[i]? = some o ∧ wpList P ops (Exit.then (fun a' w' => (i ≠ fin → C w') ∧ wpTr3 P ops C fin K t a' w') (fun _ _ _ => False)) [o] a w) ∧
      (∃ o, ops[j]? = some o ∧ wpList P ops (Exit.then (fun a' w' => (j ≠ fin → C w') ∧ wpTr3 P ops C fin K u a' w') (fun _ _ _ => False)) [o] a w)
  | .three i t j u k s, a, w => (∃ o, ops[i]? = some o ∧ wpList P ops (Exit.then (fun a' w' => (i ≠ fin → C w') ∧ wpTr3 P ops C fin K t a' w') (fun _ _ _ => False)) [o] a w) ∧ (∃ o, ops[j]? = some o ∧ wpList P ops (Exit.then (fun a' w' => (j ≠ fin → C w') ∧ wpTr3 P ops C fin K u a' w') (fun _ _ _ => False)) [o] a w) ∧ (∃ o, ops[k]? = some o ∧ wpList P ops (Exit.then (fun a' w' => (k ≠ fin → C w') ∧ wpTr3 P ops C fin K s a' w') (fun _ _ _ => False)) [o] a w)

theorem wpAnyF_of_tr3 {fin : Nat} {Q : Exit → Act → World → Prop} (hs : Region.noSelect ops = true) (hQ : ∀ c a d v w, Q (.panic c) (Act.put a d v) w → Q (.panic c) a w) :
    ∀ (t : Tr3) (n : Nat) (listed : Array Bool) (a : Act) (w : World), trB3 md ops fin t n listed = true → (t = .nil ∨ C w) → wpTr3 P ops C fin (Q .normal) t a w → wpAnyF P md ops C fin Q n listed a w
  | .nil, 0, listed, a, w, hB, _, h => ⟨by simpa [trB3] using hB, h⟩
  | .pure i t, n + 1, listed, a, w, hB, hC, h => by
    simp only [trB3, Bool.and_eq_true] at hB
    have hC : C w := hC.resolve_left (by simp)
    obtain ⟨o, v, hi, hy, h2⟩ := h
    refine wpAnyF_first hi (Region.noSelect_spec hs) (fun c a w h => hQ c a o.dst v w h) (fun oj hoj => ?_) _ listed a w (Region.free_spec hi hB.1.1.2) (by simpa using hB.1.1.1) hy hC (wpAnyF_of_tr3 hs hQ t n _ _ _ hB.2 (.inr hC) h2)
    have h1 := hB.1.2
    rw [hoj] at h1
    obtain ⟨e, he, h3⟩ := Array.any_eq_true'.1 h1
    simp only [Bool.and_eq_true, beq_iff_eq] at h3
    exact ⟨e, he, h3.1, h3.2⟩
  | .eff i t, n + 1, listed, a, w, hB, _, h => by
    simp only [trB3, Bool.and_eq_true, Bool.or_eq_true, decide_eq_true_eq] at hB
    obtain ⟨o, hi, h2⟩ := h
    refine ⟨fun h0 => (by rw [hB.1.1] at h0; cases h0), fun j hj => ?_⟩
    rw [hB.1.1] at hj
    obtain rfl : j = i := by simpa using hj
    refine wpOp_of_list hi (fun a' w' hh => ⟨hh.1, wpAnyF_of_tr3 hs hQ t n _ _ _ hB.2 ?_ hh.2⟩) h2
    rcases hB.1.2 with hne | h0
    · exact .inr (hh.1 hne)
    · subst h0
      left
      have := hB.2
      cases t <;> simp [trB3] at this ⊢
  | .two i t j u, n + 1, listed, a, w, hB, _, h => by
    simp only [trB3, Bool.and_eq_true, decide_eq_true_eq] at hB
    obtain ⟨⟨o, hi, h2⟩, ⟨o', hj', h3⟩⟩ := h
    refine ⟨fun h0 => (by rw [hB.1.1.1.1] at h0; cases h0), fun k hk => ?_⟩
    rw [hB.1.1.1.1] at hk
    rcases List.mem_cons.1 hk with rfl | hk
    · exact wpOp_of_list hi (fun a' w' hh => ⟨hh.1, wpAnyF_of_tr3 hs hQ t n _ _ _ hB.1.2 (.inr (hh.1 hB.1.1.1.2)) hh.2⟩) h2
    · obtain rfl : k = j := by simpa using hk
      exact wpOp_of_list hj' (fun a' w' hh => ⟨hh.1, wpAnyF_of_tr3 hs hQ u n _ _ _ hB.2 (.inr (hh.1 hB.1.1.2)) hh.2⟩) h3
  | .three i t j u k s, n + 1, listed, a, w, hB, _, h => by
    simp only [trB3, Bool.and_eq_true, decide_eq_true_eq] at hB
    obtain ⟨⟨o, hi, h2⟩, ⟨o', hj', h3⟩, ⟨o2, hk', h4⟩⟩ := h
    obtain ⟨⟨⟨⟨⟨⟨hr, hf1⟩, hf2⟩, hf3⟩, hb1⟩, hb2⟩, hb3⟩ := hB
    refine ⟨fun h0 => (by rw [hr] at h0; cases h0), fun q hq => ?_⟩
    rw [hr] at hq
    rcases List.mem_cons.1 hq with rfl | hq
    · exact wpOp_of_list hi (fun a' w' hh => ⟨hh.1, wpAnyF_of_tr3 hs hQ t n _ _ _ hb1 (.inr (hh.1 hf1)) hh.2⟩) h2
    · rcases List.mem_cons.1 hq with rfl | hq
      · exact wpOp_of_list hj' (fun a' w' hh => ⟨hh.1, wpAnyF_of_tr3 hs hQ u n _ _ _ hb2 (.inr (hh.1 hf2)) hh.2⟩) h3
      · obtain rfl : q = k := by simpa using hq
        exact wpOp_of_list hk' (fun a' w' hh => ⟨hh.1, wpAnyF_of_tr3 hs hQ s n _ _ _ hb3 (.inr (hh.1 hf3)) hh.2⟩) h4
  | .nil, n + 1, _, _, _, hB, _, _ => by simp [trB3] at hB
  | .pure .., 0, _, _, _, hB, _, _ => by simp [trB3] at hB
  | .eff .., 0, _, _, _, hB, _, _ => by simp [trB3] at hB
  | .two .., 0, _, _, _, hB, _, _ => by simp [trB3] at hB
  | .three .., 0, _, _, _, hB, _, _ => by simp [trB3] at hB

/-- THE REGION BY A TREE OF ORDERS, in a class of worlds. -/
theorem wp_region_tr3 {fin : Nat} {id : Nat} {Q : Exit → Act → World → Prop} {a : Act} {w : World} (C : World → Prop) (t : Tr3) (hm : P.follows .mixedOrders = true) (hs : Region.noSelect ops = true)
    (hB : trB3 .any ops fin t ops.size (Array.replicate ops.size false) = true) (hQ : ∀ c a d v w, Q (.panic c) (Act.put a d v) w → Q (.panic c) a w) (hC : C w.drew)
    (h : ∀ K : Act → World → Prop, (∀ a w, Q .normal a w → K a w) → wpTr3 P ops C fin K t a w.drew) : (Code.region id ops true).wp P Q a w := by
  refine wp_region_any hm ?_
  exact wpAny_of_F _ _ _ _ (wpAnyF_of_tr3 (md := .any) (Q := Q) (C := C) (fin := fin) hs hQ t _ _ a w.drew hB (.inr hC) (h _ (fun _ _ h => h)))

theorem tr_pure3 {fin : Nat} {K : Act → World → Prop} {i : Nat} {t : Tr3} {o : Oper} {v : Value} {a : Act} {w : World} (hi : ops[i]? = some o) (hw : Region.wanted o (yielded ops a.tmps) = true)
    (hv : ∀ w, C w → (execOp a.eval o).run P w = .ok (.value v) w) (h : wpTr3 P ops C fin K t (a.put o.dst v) w) : wpTr3 P ops C fin K (.pure i t) a w := ⟨o, v, hi, .inl ⟨hw, hv⟩, h⟩
theorem tr_skip3 {fin : Nat} {K : Act → World → Prop} {i : Nat} {t : Tr3} {o : Oper} {a : Act} {w : World} (hi : ops[i]? = some o) (hw : Region.wanted o (yielded ops a.tmps) = false)
    (h : wpTr3 P ops C fin K t (a.put o.dst undef) w) : wpTr3 P ops C fin K (.pure i t) a w := ⟨o, undef, hi, .inr ⟨hw, rfl⟩, h⟩
theorem tr_eff3 {fin : Nat} {K : Act → World → Prop} {i : Nat} {t : Tr3} {o : Oper} {a : Act} {w : World} (hi : ops[i]? = some o)
    (h : ∀ K' : Act → World → Prop, (∀ a w, (i ≠ fin → C w) ∧ wpTr3 P ops C fin K t a w → K' a w) → wpList P ops (Exit.then K' (fun _ _ _ => False)) [o] a w) : wpTr3 P ops C fin K (.eff i t) a w := ⟨o, hi, h _ (fun _ _ h => h)⟩
theorem tr_two3 {fin : Nat} {K : Act → World → Prop} {i j : Nat} {t u : Tr3} {o o' : Oper} {a : Act} {w : World} (hi : ops[i]? = some o) (hj : ops[j]? = some o')
    (h : ∀ K' : Act → World → Prop, (∀ a w, (i ≠ fin → C w) ∧ wpTr3 P ops C fin K t a w → K' a w) → wpList P ops (Exit.then K' (fun _ _ _ => False)) [o] a w)
    (h2 : ∀ K' : Act → World → Prop, (∀ a w, (j ≠ fin → C w) ∧ wpTr3 P ops C fin K u a w → K' a w) → wpList P ops (Exit.then K' (fun _ _ _ => False)) [o'] a w) : wpTr3 P ops C fin K (.two i t j u) a w :=
  ⟨⟨o, hi, h _ (fun _ _ h => h)⟩, ⟨o', hj, h2 _ (fun _ _ h => h)⟩⟩
theorem tr_three3 {fin : Nat} {K : Act → World → Prop} {i j k : Nat} {t u s : Tr3} {o o' o2 : Oper} {a : Act} {w : World} (hi : ops[i]? = some o) (hj : ops[j]? = some o') (hk : ops[k]? = some o2)
    (h : ∀ K' : Act → World → Prop, (∀ a w, (i ≠ fin → C w) ∧ wpTr3 P ops C fin K t a w → K' a w) → wpList P ops (Exit.then K' (fun _ _ _ => False)) [o] a w)
    (h2 : ∀ K' : Act → World → Prop, (∀ a w, (j ≠ fin → C w) ∧ wpTr3 P ops C fin K u a w → K' a w) → wpList P ops (Exit.then K' (fun _ _ _ => False)) [o'] a w)
    (h3 : ∀ K' : Act → World → Prop, (∀ a w, (k ≠ fin → C w) ∧ wpTr3 P ops C fin K s a w → K' a w) → wpList P ops (Exit.then K' (fun _ _ _ => False)) [o2] a w) : wpTr3 P ops C fin K (.three i t j u k s) a w :=
  ⟨⟨o, hi, h _ (fun _ _ h => h)⟩, ⟨o', hj, h2 _ (fun _ _ h => h)⟩, ⟨o2, hk, h3 _ (fun _ _ h => h)⟩⟩
theorem tr_nil3 {fin : Nat} {K : Act → World → Prop} {a : Act} {w : World} (h : K a w) : wpTr3 P ops C fin K .nil a w := h
end
#print axioms wp_region_tr3
end Go.Proofs.Ytbhibfdlkahagaa
