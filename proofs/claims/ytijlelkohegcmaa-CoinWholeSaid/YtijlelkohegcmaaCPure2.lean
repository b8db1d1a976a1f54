/-
  coin: what a part is: pure facts.
-/
import Derived.Test.YtijlelkohegcmaaCPure
namespace Go.Proofs.Ytijlelkohegcmaa

theorem parts_at {T W : Int} {xs : List Int} {i : Nat} (hT : 0 ≤ T) (hW : 1 ≤ W) (hi : i < xs.length) {x y : Int} (hx : x = xs.getD i 0) (hy : y = (parts T W xs).getD i 0) (h0 : 0 ≤ x) (h1 : x ≤ W) :
    0 ≤ y ∧ y ≤ T + 1 ∧ y * W ≤ T * x + W ∧ T * x - W ≤ y * W ∧ (x = 0 → y = 0) := by
  have hs := share_le hT hW h0 h1
  have lo := share_lo (T := T) (x := x) hW
  have hi' := share_hi (T := T) (x := x) hW
  have hl : i < (shares T W xs).length := by rw [shares_length]; exact hi
  rcases ones_at (shares T W xs) xs (T - (shares T W xs).sum) i (shares_length T W xs) hl with h | ⟨hp, h⟩
  · have e : y = share T W x := by rw [hy, hx]; unfold parts; rw [h, shares_getD hi]
    rw [e, Int.mul_comm (share T W x) W]
    refine ⟨hs.1, by omega, by omega, by omega, fun hz => ?_⟩
    rw [hz]; exact share_zero T W
  · have e : y = share T W x + 1 := by rw [hy, hx]; unfold parts; rw [h, shares_getD hi]
    have e2 : (share T W x + 1) * W = W * share T W x + W := by rw [Int.add_mul, Int.one_mul, Int.mul_comm]
    rw [e, e2]
    exact ⟨by omega, by omega, by omega, by omega, fun hz => by omega⟩
theorem sum_range {M : Int} : ∀ (l : List Int), (∀ x ∈ l, 0 ≤ x ∧ x ≤ M) → 0 ≤ l.sum ∧ l.sum ≤ M * l.length
  | [], _ => by simp
  | x :: l, h => by
    have h1 := sum_range l (fun y hy => h y (List.mem_cons_of_mem _ hy))
    have h2 := h x (List.mem_cons_self ..)
    simp only [List.sum_cons, List.length_cons, Int.natCast_add, Int.mul_add]
    omega
theorem parts_length (T W : Int) (xs : List Int) : (parts T W xs).length = xs.length := by unfold parts; rw [ones_length, shares_length]
theorem mem_getD {l : List Int} {x : Int} (h : x ∈ l) : ∃ i, i < l.length ∧ x = l.getD i 0 := by
  obtain ⟨i, hi, rfl⟩ := List.mem_iff_getElem.1 h
  exact ⟨i, hi, by simp [hi]⟩
theorem getD_mem {l : List Int} {i : Nat} (h : i < l.length) : l.getD i 0 ∈ l := by
  rw [show l.getD i 0 = l[i] by simp [h]]; exact List.getElem_mem _
theorem parts_take {T W : Int} {xs : List Int} (hT : 0 ≤ T) (hT1 : T ≤ 1125899906842624) (hW : 1 ≤ W) (h : ∀ x ∈ xs, 0 ≤ x ∧ x ≤ 1024 ∧ x ≤ W) (hl : xs.length ≤ 8) (k : Nat) :
    0 ≤ ((parts T W xs).take k).sum ∧ ((parts T W xs).take k).sum ≤ 18014398509481984 := by
  have h1 := sum_range (M := 2251799813685248) ((parts T W xs).take k) (fun x hx => by
    obtain ⟨i, hi, e⟩ := mem_getD (List.mem_of_mem_take hx)
    rw [parts_length] at hi
    have hm := h _ (getD_mem hi)
    have := parts_at hT hW hi rfl e hm.1 hm.2.2
    omega)
  have h2 : (((parts T W xs).take k).length : Int) ≤ 8 := by rw [List.length_take, parts_length]; omega
  omega
theorem nat_sum_take {xs : List Int} {k acc X : Nat} (hk : k < xs.length) (h : (acc : Int) = (xs.take k).sum) (hX : (X : Int) = xs.getD k 0) : ((acc + X : Nat) : Int) = (xs.take (k + 1)).sum := by
  rw [sum_take_succ hk, ← h, ← hX]; simp
#print axioms parts_take
end Go.Proofs.Ytijlelkohegcmaa
