/-
  What is put is read: a number's bytes, and what is read of them.
-/
import Derived.Test.YtgplamfjemmfnaaReader2
namespace Go.Proofs.Ytgplamfjemmfnaa
open Go.RowKit

theorem num_pair (K : Nat) : ∃ x : UInt8, ∃ t, num (2 * K) = x :: t ∧ num (2 * K + 1) = (x + 1) :: t ∧ x.toNat ≤ 254 ∧ (x + 1).toNat = x.toNat + 1 ∧ (K < 64 → t = []) ∧ (¬ K < 64 → 0 < t.length) := by
  by_cases h : 2 * K < 128
  · refine ⟨UInt8.ofNat (2 * K), [], num_small h, ?_, ?_, ?_, fun _ => rfl, fun h' => by omega⟩
    · rw [num_small (by omega)]
      congr 1
      apply UInt8.toNat_inj.1
      simp [UInt8.toNat_add, UInt8.toNat_ofNat']
    · simp [UInt8.toNat_ofNat']; omega
    · simp [UInt8.toNat_add, UInt8.toNat_ofNat']; omega
  · refine ⟨UInt8.ofNat (128 + 2 * K % 128), num (2 * K / 128), num_big h, ?_, ?_, ?_, fun _ => by omega, fun _ => num_pos _⟩
    · rw [num_big (by omega), show (2 * K + 1) / 128 = 2 * K / 128 by omega]
      congr 1
      apply UInt8.toNat_inj.1
      simp [UInt8.toNat_add, UInt8.toNat_ofNat']
      omega
    · simp [UInt8.toNat_ofNat']; omega
    · simp [UInt8.toNat_add, UInt8.toNat_ofNat']; omega

/-- what is put is read -/
theorem decF_num : ∀ (k m i acc : Nat) (r : List UInt8), m < 128 ^ k → 0 < k → i + k ≤ 10 → (i + k = 10 → m < 2 * 128 ^ (k - 1)) → (0 < i → 0 < m) → decF i acc (num m ++ r) = (acc + m * 128 ^ i, i + (num m).length, 0)
  | 0, _, _, _, _, _, h, _, _, _ => absurd h (by omega)
  | k + 1, m, i, acc, r, hm, _, hi, ht, hp => by
    by_cases h : m < 128
    · have e : (UInt8.ofNat m).toNat = m := by simp [UInt8.toNat_ofNat']; omega
      rw [num_small h, List.cons_append, List.nil_append, decF, e, if_neg, if_pos h]
      · rfl
      · rintro (⟨h1, h2⟩ | ⟨h1, h2⟩)
        · have := hp h1; omega
        · have h3 : k = 0 := by omega
          subst h3
          have := ht (by omega)
          omega
    · have hk : 0 < k := by
        rcases Nat.eq_zero_or_pos k with h0 | h0
        · subst h0; omega
        · exact h0
      have e : (UInt8.ofNat (128 + m % 128)).toNat = 128 + m % 128 := by simp [UInt8.toNat_ofNat']; omega
      rw [num_big h, List.cons_append, decF, e, if_neg (by omega), if_neg (by omega)]
      rw [show (128 + m % 128) % 128 = m % 128 by omega]
      have hk1 : 128 ^ k = 128 ^ (k - 1) * 128 := by rw [← Nat.pow_succ]; congr 1; omega
      rw [decF_num k (m / 128) (i + 1) _ r (by rw [Nat.pow_succ] at hm; omega) hk (by omega) (fun h10 => by
        have := ht (by omega)
        rw [Nat.add_sub_cancel] at this
        omega) (fun _ => by omega)]
      have hd : m = 128 * (m / 128) + m % 128 := by omega
      refine Prod.ext ?_ (Prod.ext ?_ rfl)
      · simp only
        rw [Nat.pow_succ]
        have : m * 128 ^ i = (m % 128) * 128 ^ i + (m / 128) * (128 ^ i * 128) := by
          conv => lhs; rw [hd]
          rw [Nat.add_mul, Nat.mul_comm (128 ^ i) 128, ← Nat.mul_assoc, Nat.mul_comm (m / 128) 128, Nat.add_comm]
        omega
      · simp only [List.length_cons]
        omega
theorem dec_num {m : Nat} (hm : m < 18446744073709551616) (r : List UInt8) : dec (num m ++ r) = (m, (num m).length, 0) := by
  have := decF_num 10 m 0 0 r (by omega) (by omega) (by omega) (fun _ => by omega) (fun h => absurd h (by omega))
  unfold dec
  rw [this]
  simp
theorem unfold_fold {k : Int} : unfold_ (fold k) = k := by
  unfold unfold_
  rcases (show k < 0 ∨ 0 ≤ k by omega) with h | h
  · have := fold_neg h
    rw [if_pos (by omega)]
    omega
  · have := fold_pos h
    rw [if_neg (by omega)]
    omega
theorem rnum_num {m : Nat} (hm : m < 18446744073709551616) (r : List UInt8) {most : Nat} (h : m ≤ most) : rnum (num m ++ r) 0 most = (m, r, 0) := by
  unfold rnum
  rw [dec_num hm r, if_neg (by simp), if_neg (by simp), if_neg (by simp; omega)]
  simp

end Go.Proofs.Ytgplamfjemmfnaa
