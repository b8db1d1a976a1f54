/-
  A number's bytes, as the document has them: seven bits each, the lowest first. No program is named here.
-/
import Derived.Test.YtgplamfjemmfnaaMem
namespace Go.Proofs.Ytgplamfjemmfnaa

/-- the bytes of a number -/
def num (m : Nat) : List UInt8 := if m < 128 then [UInt8.ofNat m] else UInt8.ofNat (128 + m % 128) :: num (m / 128)
termination_by m
decreasing_by omega

theorem num_small {m : Nat} (h : m < 128) : num m = [UInt8.ofNat m] := by rw [num, if_pos h]
theorem num_big {m : Nat} (h : ¬ m < 128) : num m = UInt8.ofNat (128 + m % 128) :: num (m / 128) := by rw [num, if_neg h]
theorem num_pos (m : Nat) : 0 < (num m).length := by
  by_cases h : m < 128
  · rw [num_small h]; simp
  · rw [num_big h]; simp
/-- as long as seven bits a byte ask -/
theorem num_le : ∀ (k m : Nat), m < 128 ^ k → 0 < k → (num m).length ≤ k
  | 0, _, _, h => absurd h (by omega)
  | k + 1, m, hm, _ => by
    by_cases h : m < 128
    · rw [num_small h]; simp
    · rw [num_big h, List.length_cons]
      have hk : 0 < k := by
        rcases Nat.eq_zero_or_pos k with h0 | h0
        · subst h0; omega
        · exact h0
      have := num_le k (m / 128) (by rw [Nat.pow_succ] at hm; omega) hk
      omega
theorem num_ten {m : Nat} (hm : m < 18446744073709551616) : (num m).length ≤ 10 := num_le 10 m (by omega) (by omega)

theorem ten_more {bs : List UInt8} {m n n1 : Nat} (h1 : (bs ++ num m).length = n1) (h : bs.length = n) (hn : n ≤ 1000000000000) (hm : m < 18446744073709551616) : n1 ≤ 1000000000010 := by
  have := num_ten hm
  rw [List.length_append] at h1
  omega

theorem u64_div {k : Nat} (h : k < 18446744073709551616) : IntKind.u64.wrap ((k : Int) / 128) = ((k / 128 : Nat) : Int) := by
  rw [IntKind.wrap_u64]; omega

/-- the number that tells one with a sign -/
def fold (k : Int) : Nat := if k < 0 then (2 * -(k + 1) + 1).toNat else (2 * k).toNat
theorem fold_pos {k : Int} (h : 0 ≤ k) : ((fold k : Nat) : Int) = 2 * k := by unfold fold; rw [if_neg (by omega)]; omega
theorem fold_neg {k : Int} (h : k < 0) : ((fold k : Nat) : Int) = 2 * -(k + 1) + 1 := by unfold fold; rw [if_pos h]; omega
theorem fold_lt {k : Int} (h1 : -9223372036854775808 ≤ k) (h2 : k < 9223372036854775808) : fold k < 18446744073709551616 := by
  rcases (show k < 0 ∨ 0 ≤ k by omega) with h | h
  · have := fold_neg h; omega
  · have := fold_pos h; omega
theorem xor_ones (a : Nat) (h : a < 18446744073709551616) : a ^^^ 18446744073709551615 = 18446744073709551615 - a := by
  have e : (BitVec.ofNat 64 a ^^^ BitVec.allOnes 64).toNat = a ^^^ 18446744073709551615 := by
    rw [BitVec.toNat_xor, BitVec.toNat_ofNat, Nat.mod_eq_of_lt (by omega)]; rfl
  rw [← e, BitVec.xor_allOnes, BitVec.toNat_not, BitVec.toNat_ofNat, Nat.mod_eq_of_lt (by omega)]
theorem xor_pos {k : Int} (h : 0 ≤ k) (h2 : k < 9223372036854775808) : bits BinOp.xor IntKind.u64 (k * 2) (k / 9223372036854775808) = ((fold k : Nat) : Int) := by
  have e1 : k / 9223372036854775808 = ((0 : Nat) : Int) := by omega
  have e2 : k * 2 = (((k * 2).toNat : Nat) : Int) := by omega
  rw [e1, e2, bits_xor_u64_nat _ _ (by omega) (by omega), Nat.xor_zero, fold_pos h]
  omega
theorem xor_neg {k : Int} (h : k < 0) (h2 : -9223372036854775808 ≤ k) :
    bits BinOp.xor IntKind.u64 (IntKind.u64.wrap (IntKind.u64.wrap k * 2)) (IntKind.u64.wrap (k / 9223372036854775808)) = ((fold k : Nat) : Int) := by
  have e1 : IntKind.u64.wrap (k / 9223372036854775808) = ((18446744073709551615 : Nat) : Int) := by rw [IntKind.wrap_u64]; omega
  have e2 : IntKind.u64.wrap (IntKind.u64.wrap k * 2) = (((2 * k + 18446744073709551616).toNat : Nat) : Int) := by rw [IntKind.wrap_u64, IntKind.wrap_u64]; omega
  rw [e1, e2, bits_xor_u64_nat _ _ (by omega) (by omega), xor_ones _ (by omega), fold_neg h]
  omega
end Go.Proofs.Ytgplamfjemmfnaa
