/-
  code: what holds of an instruction that may be: plain facts.
-/
import Derived.Test.YtibmkihehaedjaaDoorGPure
namespace Go.Proofs.YtibmkihehaedjaaDoor

theorem right_parts {o a b c size words : Int} (h : rightV o a b c size words = true) : (0 ≤ o ∧ o < 22) ∧ ∀ k, k < 3 → partOk (hasB o.toNat) (three a b c) size words k = true := by
  unfold rightV at h
  simp only [Bool.and_eq_true, decide_eq_true_eq] at h
  refine ⟨h.1.1.1.1, fun k hk => ?_⟩
  rcases (by omega : k = 0 ∨ k = 1 ∨ k = 2) with rfl | rfl | rfl
  · exact h.1.1.1.2
  · exact h.1.1.2
  · exact h.1.2
theorem part_in {has : List UInt8} {t : Nat → Int} {size words : Int} {k : Nat} (hk : k < has.length) (hw : has.getD k 0 = 114 ∨ has.getD k 0 = 99 ∨ has.getD k 0 = 119) (h : partOk has t size words k = true) : 0 ≤ t k ∧ t k < words := by
  unfold partOk at h
  rw [if_neg (by omega), if_neg (by rcases hw with e | e | e <;> rw [e] <;> decide), if_neg (by rcases hw with e | e | e <;> rw [e] <;> decide)] at h
  exact of_decide_eq_true h
theorem readsF_in {has : List UInt8} {t : Nat → Int} {size words : Int} (h : ∀ k, k < has.length → partOk has t size words k = true) : ∀ k, k ≤ has.length → ∀ x ∈ readsF has t k, 0 ≤ x ∧ x < words
  | 0, _, x, hx => by simp [readsF] at hx
  | k + 1, hk, x, hx => by
    unfold readsF at hx
    split at hx
    · rename_i hc
      rcases List.mem_append.1 hx with h1 | h1
      · exact readsF_in h k (by omega) x h1
      · obtain rfl : x = t k := by simpa using h1
        exact part_in (by omega) (by rcases hc.1 with e | e; exact .inl e; exact .inr (.inl e)) (h k (by omega))
    · exact readsF_in h k (by omega) x hx
theorem reads_in {o a b c size words : Int} (h : rightV o a b c size words = true) : ∀ x ∈ readsV o a b c, 0 ≤ x ∧ x < words := by
  obtain ⟨ho, hp⟩ := right_parts h
  intro x hx
  unfold readsV at hx
  rw [if_pos ho] at hx
  have h3 := hasB_len o.toNat (by omega)
  exact readsF_in (fun k hk => hp k (by omega)) _ (Nat.le_refl _) x hx
theorem of22 {P : Int → Prop} (h : ∀ n : Nat, n < 22 → P n) {o : Int} (ho : 0 ≤ o ∧ o < 22) : P o := by
  obtain ⟨m, rfl⟩ : ∃ m : Nat, o = (m : Int) := ⟨o.toNat, by omega⟩
  exact h m (by omega)
theorem first_word : ∀ n : Nat, n < 22 → ¬ (n < 1 ∨ n = 16 ∨ 18 < n) → (hasB n).getD 0 0 = 114 ∨ (hasB n).getD 0 0 = 99 ∨ (hasB n).getD 0 0 = 119 := by decide
theorem writes_in {o a b c size words : Int} (h : rightV o a b c size words = true) (hw : 0 ≤ words) : -1 ≤ writesV o a ∧ writesV o a < words := by
  obtain ⟨ho, hp⟩ := right_parts h
  unfold writesV
  split
  · omega
  · rename_i hn
    have h3 := hasB_len o.toNat (by omega)
    have := part_in (k := 0) (by omega) (first_word o.toNat (by omega) (by omega)) (hp 0 (by omega))
    have e : three a b c 0 = a := rfl
    rw [e] at this
    omega
theorem jump_place : ∀ n : Nat, n < 22 → 18 < n → (hasB n).getD 0 0 = 112 := by decide
theorem next_in {o a b c size words i : Int} (h : rightV o a b c size words = true) (h0 : 0 ≤ i) (hi : i < size) : ∀ p ∈ nextV o a i, 0 ≤ p ∧ p ≤ size ∧ (p = size → i = size - 1) := by
  obtain ⟨ho, hp⟩ := right_parts h
  have ha : 18 < o → 0 ≤ a ∧ a < size := by
    intro h18
    have h3 := hasB_len o.toNat (by omega)
    have := hp 0 (by omega)
    unfold partOk at this
    have e := jump_place o.toNat (by omega) (by omega)
    rw [if_neg (by omega), if_neg (by rw [e]; decide), if_pos e] at this
    exact of_decide_eq_true this
  intro p hpn
  unfold nextV at hpn
  split at hpn
  · simp at hpn
  · split at hpn
    · rename_i h19
      have := ha (by omega)
      obtain rfl : p = a := by simpa using hpn
      omega
    · split at hpn
      · rename_i hc
        have := ha (by omega)
        rcases (by simpa using hpn : p = i + 1 ∨ p = a) with rfl | rfl <;> omega
      · obtain rfl : p = i + 1 := by simpa using hpn
        omega
theorem next_len (o a i : Int) (h : 0 ≤ o ∧ o < 22) : (nextV o a i).length ≤ 2 ∧ ((nextV o a i).length = 0 ↔ o = 0) := by
  unfold nextV
  split
  · refine ⟨by simp, by simp; omega⟩
  · split
    · refine ⟨by simp, by simp; omega⟩
    · split
      · refine ⟨by simp, by simp; omega⟩
      · refine ⟨by simp, by simp; omega⟩
theorem part_more {has : List UInt8} {t : Nat → Int} {size words d e : Int} {k : Nat} (hd : 0 ≤ d) (he : 0 ≤ e) (h : partOk has t size words k = true) : partOk has t (size + d) (words + e) k = true := by
  unfold partOk at h ⊢
  split
  · rename_i h1
    rw [if_pos h1] at h
    exact h
  · rename_i h1
    rw [if_neg h1] at h
    split
    · rename_i h2
      rw [if_pos h2] at h
      exact h
    · rename_i h2
      rw [if_neg h2] at h
      split
      · rename_i h3
        rw [if_pos h3] at h
        have := of_decide_eq_true h
        exact decide_eq_true (by omega)
      · rename_i h3
        rw [if_neg h3] at h
        have := of_decide_eq_true h
        exact decide_eq_true (by omega)
theorem right_more {o a b c size words d e : Int} (hd : 0 ≤ d) (he : 0 ≤ e) (h : rightV o a b c size words = true) : rightV o a b c (size + d) (words + e) = true := by
  have h' := h
  unfold rightV at h' ⊢
  simp only [Bool.and_eq_true] at h' ⊢
  exact ⟨⟨⟨⟨h'.1.1.1.1, part_more hd he h'.1.1.1.2⟩, part_more hd he h'.1.1.2⟩, part_more hd he h'.1.2⟩, h'.2⟩
#print axioms right_more
end Go.Proofs.YtibmkihehaedjaaDoor
