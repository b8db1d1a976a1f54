/-
  once: digits that are ahead of others: plain numbers; rows of digits compared.
-/
import Derived.Test.YtbhibfdlkahagaaODigs
import Derived.Test.YtbhibfdlkahagaaOEq
import Derived.Test.YtbhibfdlkahagaaOKnown
namespace Go.Proofs.Ytbhibfdlkahagaa
open Go.RowKit

theorem sum_eq (a b : Nat) : ∀ k, (∀ c, c < k → dg a c ≤ dg b c) → sumN a k ≤ sumN b k ∧ (sumN a k = sumN b k → ∀ c, c < k → dg a c = dg b c)
  | 0, _ => ⟨Nat.le_refl _, fun _ c hc => absurd hc (by omega)⟩
  | k + 1, h => by
    obtain ⟨h1, h2⟩ := sum_eq a b k (fun c hc => h c (by omega))
    have h3 := h k (by omega)
    have e1 : sumN a (k + 1) = sumN a k + dg a k := rfl
    have e2 : sumN b (k + 1) = sumN b k + dg b k := rfl
    refine ⟨by omega, fun e c hc => ?_⟩
    by_cases hk : c = k
    · subst hk; omega
    · exact h2 (by omega) c (by omega)
/-- where digits aren't all alike, some are ahead -/
theorem dg_ahead {a b : Nat} (h : ¬ ∀ c, c < 18 → dg a c = dg b c) : ∃ c, c < 18 ∧ dg b c < dg a c := by
  refine Classical.byContradiction fun hn => h ?_
  have hl : ∀ c, c < 18 → dg a c ≤ dg b c := fun c hc => by
    refine Classical.byContradiction fun h1 => hn ⟨c, hc, by omega⟩
  obtain ⟨s1, s2⟩ := sum_eq a b 16 (fun c hc => hl c (by omega))
  have ta := sum_all a
  have tb := sum_all b
  have l1 := hl 16 (by omega)
  have l2 := hl 17 (by omega)
  intro c hc
  by_cases h1 : c < 16
  · exact s2 (by omega) c h1
  · rcases (show c = 16 ∨ c = 17 by omega) with rfl | rfl <;> omega
theorem dg_same {a b : Nat} (ha : a < 18446744073709551616) (hb : b < 18446744073709551616) (h : ∀ c, c < 18 → dg a c = dg b c) : a = b := by
  have hb8 : ∀ k, k < 8 → byt a k = byt b k := fun k hk => by
    have h1 := h (2 * k) (by omega)
    have h2 := h (2 * k + 1) (by omega)
    rw [dg_nib _ _ (by omega), dg_nib _ _ (by omega), nib_even, nib_even] at h1
    rw [dg_nib _ _ (by omega), dg_nib _ _ (by omega), nib_odd, nib_odd] at h2
    omega
  have e1 := val8 ha
  have e2 := val8 hb
  rw [← e1, ← e2, hb8 0 (by omega), hb8 1 (by omega), hb8 2 (by omega), hb8 3 (by omega), hb8 4 (by omega), hb8 5 (by omega), hb8 6 (by omega), hb8 7 (by omega)]
def aheadI (a b : Nat) : Int := match (List.range 18).find? (fun c => decide (dg b c < dg a c)) with
  | some c => (c : Int)
  | none => -1
theorem ahead_some {a b k : Nat} (hk : k < 18) (hn : ∀ c, c < k → ¬ dg b c < dg a c) (h : dg b k < dg a k) : aheadI a b = k := by
  have e : (List.range 18).find? (fun c => decide (dg b c < dg a c)) = some k := by
    rw [List.find?_range_eq_some]
    exact ⟨by simpa using h, by simpa using hk, fun j hj => by simpa using hn j hj⟩
  unfold aheadI
  rw [e]
theorem ahead_none {a b : Nat} (hn : ∀ c, c < 18 → ¬ dg b c < dg a c) : aheadI a b = -1 := by
  have e : (List.range 18).find? (fun c => decide (dg b c < dg a c)) = none := by
    rw [List.find?_range_eq_none]
    exact fun j hj => by simpa using hn j hj
  unfold aheadI
  rw [e]
theorem ahead_self (a : Nat) : aheadI a a = -1 := ahead_none fun _ _ => Nat.lt_irrefl _
theorem ahead_of {a b : Nat} (ha : a < 18446744073709551616) (hb : b < 18446744073709551616) (h : a ≠ b) : ∃ k : Nat, aheadI a b = k ∧ k < 18 ∧ dg b k < dg a k := by
  obtain ⟨c, hc, hl⟩ := dg_ahead (a := a) (b := b) (fun e => h (dg_same ha hb e))
  cases e : (List.range 18).find? (fun c => decide (dg b c < dg a c)) with
  | none =>
    rw [List.find?_range_eq_none] at e
    have := e c hc
    simp at this
    omega
  | some k =>
    have e0 := e
    rw [List.find?_range_eq_some] at e
    refine ⟨k, by unfold aheadI; rw [e0], by simpa using e.2.1, by simpa using e.1⟩
/-- rows of numbers that are compared -/
theorem eqItems_18 {P : Program} {e : TypeId} (he : P.plainKey e = true) (hu : P.underlying e = some (.int .i64)) (A B : Array Value) (f g : Nat → Nat) (d : Nat) : ∀ (l : List Nat), (∀ i ∈ l, A[i * 1]? = some (.int .i64 (f i)) ∧ B[i * 1]? = some (.int .i64 (g i))) → ∀ w : World,
    (Op.eqItems (d + 1) e 1 A B l).run P w = .ok (l.all fun i => f i == g i) w
  | [], _, w => by simp [Op.eqItems]
  | i :: l, h, w => by
    obtain ⟨h1, h2⟩ := h i (List.mem_cons_self ..)
    have p1 := run_part_plain (w := w) he h1
    have p2 := run_part_plain (w := w) he h2
    have p3 := run_equalIn_int (P := P) w d e .i64 .i64 (f i : Int) (g i : Int) hu
    have p4 := eqItems_18 he hu A B f g d l (fun j hj => h j (List.mem_cons_of_mem _ hj)) w
    simp only [Op.eqItems, Sem.run_bind, p1, p2, p3, Result.andThen_ok]
    rw [List.all_cons]
    by_cases hb : f i = g i
    · have e1 : ((f i : Int) == (g i : Int)) = true := by rw [hb]; simp
      have e2 : (f i == g i) = true := by rw [hb]; simp
      rw [e1, e2]
      simpa using p4
    · have e1 : ((f i : Int) == (g i : Int)) = false := by rw [beq_eq_false_iff_ne]; omega
      have e2 : (f i == g i) = false := by rw [beq_eq_false_iff_ne]; exact hb
      rw [e1, e2]
      simp
theorem eql_digs (a b : Nat) (w : World) : (binOp .eql 42 (.agg (digA18 a).toList.toArray) (.agg (digA18 b).toList.toArray)).run Try.prog w = .ok (.bool ((List.range 18).all fun i => dg a i == dg b i)) w := by
  obtain ⟨i, hi, _⟩ := info_parts (show (Try.prog.info? 3).map (fun i => (i.zero, i.size, i.bytes)) = some (some (.int .i64 0), 1, 8) by kernel_rfl)
  have h1 := run_equalIn_array (P := Try.prog) (w := w) 9999 (digA18 a).toList.toArray (digA18 b).toList.toArray Try.underlying42 hi
  have hg : ∀ i ∈ List.range 18, (digA18 a).toList.toArray[i * 1]? = some (.int .i64 (dg a i)) ∧ (digA18 b).toList.toArray[i * 1]? = some (.int .i64 (dg b i)) := fun i hi => by
    have hi : i < 18 := by simpa using hi
    rw [Nat.mul_one, List.getElem?_toArray, List.getElem?_toArray]
    exact ⟨digA18_get a i hi, digA18_get b i hi⟩
  rw [show Try.prog.cellsOf 3 = 1 by kernel_rfl, eqItems_18 (P := Try.prog) (by kernel_rfl) Try.underlying3 _ _ (dg a) (dg b) 9998 (List.range 18) hg w] at h1
  have := run_eql_struct (P := Try.prog) w 42 (digA18 a).toList.toArray (digA18 b).toList.toArray
  rw [h1] at this
  exact this
theorem all_digs {a b : Nat} (ha : a < 18446744073709551616) (hb : b < 18446744073709551616) : ((List.range 18).all fun i => dg a i == dg b i) = decide (a = b) := by
  rw [Bool.eq_iff_iff, List.all_eq_true, decide_eq_true_iff]
  refine ⟨fun h => dg_same ha hb fun c hc => ?_, fun h => by subst h; simp⟩
  simpa using h c (by simpa using hc)
/-- two rows of digits in new blocks -/
def DRows (LA LB : List Value) (W : World) (x y : Value) (v : World) : Prop := ∃ p q, x = .pointer (some ⟨p, 0, none⟩) ∧ y = .pointer (some ⟨q, 0, none⟩) ∧ W.heap.size ≤ p ∧ W.heap.size ≤ q ∧ v.rangeAt p 0 LA ∧ v.rangeAt q 0 LB ∧ Below W.heap.size W v
#print axioms eql_digs
#print axioms ahead_of
end Go.Proofs.Ytbhibfdlkahagaa
