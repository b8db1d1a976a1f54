/-
  What is read as a number at the front of bytes, as the document has it. No program is named here.
-/
import Derived.Test.YtgplamfjemmfnaaNum
namespace Go.Proofs.Ytgplamfjemmfnaa
open Go.RowKit

/-- from byte i on, with what the bytes ahead have told: the number, how many bytes it has, the error -/
def decF : Nat → Nat → List UInt8 → Nat × Nat × Int
  | _, _, [] => (0, 0, 4)
  | i, acc, x :: r =>
    if (0 < i ∧ x.toNat = 0) ∨ (i = 9 ∧ 1 < x.toNat) then (0, 0, 3)
    else if x.toNat < 128 then (acc + x.toNat * 128 ^ i, i + 1, 0)
    else decF (i + 1) (acc + (x.toNat % 128) * 128 ^ i) r
def dec (bs : List UInt8) : Nat × Nat × Int := decF 0 0 bs

theorem drop_at {bs : List UInt8} {i : Nat} {x : UInt8} (h : i < bs.length) (hx : x = bs.getD i 0) : bs.drop i = x :: bs.drop (i + 1) := by
  subst hx
  rw [List.drop_eq_getElem_cons h]
  simp [List.getD, h]

theorem dec_form {bs : List UInt8} {i acc : Nat} {x : UInt8} (hD : decF i acc (bs.drop i) = dec bs) (h : i < bs.length) (hx : x = bs.getD i 0) (hc : (0 < i ∧ x.toNat = 0) ∨ (i = 9 ∧ 1 < x.toNat)) : dec bs = (0, 0, 3) := by
  rw [← hD, drop_at h hx, decF, if_pos hc]
theorem dec_last {bs : List UInt8} {i acc : Nat} {x : UInt8} (hD : decF i acc (bs.drop i) = dec bs) (h : i < bs.length) (hx : x = bs.getD i 0) (hc : ¬ ((0 < i ∧ x.toNat = 0) ∨ (i = 9 ∧ 1 < x.toNat))) (h1 : x.toNat < 128) :
    dec bs = (acc + x.toNat * 128 ^ i, i + 1, 0) := by
  rw [← hD, drop_at h hx, decF, if_neg hc, if_pos h1]
theorem dec_step {bs : List UInt8} {i acc : Nat} {x : UInt8} (hD : decF i acc (bs.drop i) = dec bs) (h : i < bs.length) (hx : x = bs.getD i 0) (hc : ¬ ((0 < i ∧ x.toNat = 0) ∨ (i = 9 ∧ 1 < x.toNat))) (h1 : ¬ x.toNat < 128) :
    decF (i + 1) (acc + (x.toNat % 128) * 128 ^ i) (bs.drop (i + 1)) = dec bs := by
  rw [← hD, drop_at h hx, decF, if_neg hc, if_neg h1]
theorem dec_short {bs : List UInt8} {i acc : Nat} (hD : decF i acc (bs.drop i) = dec bs) (h : ¬ i < bs.length) : dec bs = (0, 0, 4) := by
  rw [← hD, List.drop_eq_nil_of_le (by omega), decF]

theorem pow_le {i : Nat} (hi : i ≤ 9) : 128 ^ i ≤ 9223372036854775808 := by
  calc 128 ^ i ≤ 128 ^ 9 := Nat.pow_le_pow_right (by omega) hi
    _ = _ := by decide
theorem acc_step {acc i x : Nat} (ha : acc < 128 ^ i) : acc + (x % 128) * 128 ^ i < 128 ^ (i + 1) := by
  have h : x % 128 ≤ 127 := by omega
  have := Nat.mul_le_mul_right (128 ^ i) h
  rw [Nat.pow_succ]
  omega
theorem andNot_high : ∀ x : Fin 256, bits BinOp.andNot IntKind.u8 ((x.val : Nat) : Int) 128 = ((x.val % 128 : Nat) : Int) := by decide +kernel
theorem pow_two (i : Nat) : (2 : Int) ^ (7 * i) = ((128 ^ i : Nat) : Int) := by
  rw [Int.pow_mul]
  simp
/-- seven bits more are laid above those that there are -/
theorem or_put {acc i : Nat} {x : UInt8} (hi : i ≤ 9) (ha : acc < 128 ^ i) (h9 : i = 9 → x.toNat % 128 ≤ 1) :
    bits BinOp.or IntKind.u64 (acc : Int) (IntKind.u64.wrap (IntKind.u64.wrap (bits BinOp.andNot IntKind.u8 ((x.toNat : Nat) : Int) 128) * 2 ^ (7 * i))) = ((acc + (x.toNat % 128) * 128 ^ i : Nat) : Int) := by
  have hx := andNot_high ⟨x.toNat, x.toNat_lt⟩
  simp only at hx
  have hv : x.toNat % 128 ≤ 127 := by omega
  have hsm : (x.toNat % 128) * 128 ^ i < 18446744073709551616 := by
    by_cases h : i = 9
    · subst h
      have := h9 rfl
      have h2 := Nat.mul_le_mul_right (128 ^ 9) this
      have : (1 : Nat) * 128 ^ 9 = 9223372036854775808 := by decide
      omega
    · have h1 : 128 ^ i ≤ 128 ^ 8 := Nat.pow_le_pow_right (by omega) (by omega)
      have h2 := Nat.mul_le_mul hv h1
      have : (127 : Nat) * 128 ^ 8 = 9151314442816847872 := by decide
      omega
  have hp := pow_le hi
  rw [hx, pow_two, IntKind.wrap_u64, IntKind.wrap_u64]
  have e1 : (((x.toNat % 128 : Nat) : Int) % 18446744073709551616 * ((128 ^ i : Nat) : Int)) % 18446744073709551616 = (((x.toNat % 128) * 128 ^ i : Nat) : Int) := by
    rw [show ((x.toNat % 128 : Nat) : Int) % 18446744073709551616 = ((x.toNat % 128 : Nat) : Int) by omega, ← Int.natCast_mul]
    omega
  rw [e1, u64_or_nat _ _ (by omega) hsm]
  have h7 : (128 : Nat) ^ i = 2 ^ (7 * i) := by rw [Nat.pow_mul]
  rw [Nat.or_comm, nat_join (7 * i) _ _ (by rw [h7]; exact Nat.mul_mod_left _ _) (by rw [← h7]; exact ha)]
  rw [Nat.add_comm]
theorem decF_le : ∀ (bs : List UInt8) (i acc : Nat), (decF i acc bs).2.1 ≤ i + bs.length
  | [], i, acc => by simp [decF]
  | x :: r, i, acc => by
    rw [decF]
    split
    · simp
    · split
      · simp
      · have := decF_le r (i + 1) (acc + (x.toNat % 128) * 128 ^ i)
        simp only [List.length_cons]
        omega
theorem dec_le (bs : List UInt8) : (dec bs).2.1 ≤ bs.length := by
  have := decF_le bs 0 0
  unfold dec
  omega
theorem decF_lt : ∀ (bs : List UInt8) (i acc : Nat), i ≤ 9 → acc < 128 ^ i → (decF i acc bs).1 < 18446744073709551616
  | [], i, acc, _, _ => by simp [decF]
  | x :: r, i, acc, hi, ha => by
    rw [decF]
    split
    · simp
    · rename_i hc
      have hp := pow_le hi
      have hx := x.toNat_lt
      split
      · rename_i h1
        simp only
        by_cases h9 : i = 9
        · have h2 : x.toNat ≤ 1 := by omega
          have := Nat.mul_le_mul_right (128 ^ i) h2
          omega
        · have h8 : 128 ^ i ≤ 128 ^ 8 := Nat.pow_le_pow_right (by omega) (by omega)
          have h2 := Nat.mul_le_mul (show x.toNat ≤ 127 by omega) h8
          have : (127 : Nat) * 128 ^ 8 = 9151314442816847872 := by decide
          omega
      · rename_i h1
        exact decF_lt r (i + 1) _ (by omega) (acc_step ha)
theorem dec_lt (bs : List UInt8) : (dec bs).1 < 18446744073709551616 := decF_lt bs 0 0 (by omega) (by omega)

/-- the number with a sign that one tells -/
def unfold_ (n : Nat) : Int := if n % 2 = 1 then -((n / 2 : Nat) : Int) - 1 else ((n / 2 : Nat) : Int)
theorem xor_i64_zero {x : Int} (h0 : 0 ≤ x) (h1 : x < 9223372036854775808) : bits BinOp.xor IntKind.i64 x 0 = x := by
  show IntKind.i64.wrap ((BitVec.ofInt 64 x ^^^ BitVec.ofInt 64 0).toNat : Int) = _
  have e : (BitVec.ofInt 64 x ^^^ BitVec.ofInt 64 0).toNat = x.toNat := by
    rw [show BitVec.ofInt 64 0 = 0#64 from rfl, BitVec.xor_zero, BitVec.toNat_ofInt]
    omega
  rw [e, IntKind.wrap_i64]
  omega
theorem xor_i64_ones {x : Int} (h0 : 0 ≤ x) (h1 : x < 9223372036854775808) : bits BinOp.xor IntKind.i64 x (-1) = -x - 1 := by
  show IntKind.i64.wrap ((BitVec.ofInt 64 x ^^^ BitVec.ofInt 64 (-1)).toNat : Int) = _
  have e : (BitVec.ofInt 64 x ^^^ BitVec.ofInt 64 (-1)).toNat = 18446744073709551615 - x.toNat := by
    rw [show BitVec.ofInt 64 (-1) = BitVec.allOnes 64 from rfl, BitVec.xor_allOnes, BitVec.toNat_not, BitVec.toNat_ofInt]
    omega
  rw [e, IntKind.wrap_i64]
  omega
theorem unfold_bits {N : Nat} (h : N < 18446744073709551616) :
    bits BinOp.xor IntKind.i64 (wrap64 ((N : Int) / 2)) (wrap64 (-wrap64 (bits BinOp.and IntKind.u64 (N : Int) 1))) = unfold_ N := by
  have e1 : bits BinOp.and IntKind.u64 (N : Int) 1 = ((N % 2 : Nat) : Int) := by
    have := u64_and_nat N 1 h (by omega)
    rw [Nat.and_one_is_mod] at this
    exact this
  have e2 : wrap64 ((N : Int) / 2) = ((N / 2 : Nat) : Int) := by unfold wrap64; omega
  rw [e1, e2]
  unfold unfold_
  by_cases h2 : N % 2 = 1
  · rw [if_pos h2, h2, show wrap64 (-wrap64 ((1 : Nat) : Int)) = -1 by simp only [wrap64]; omega]
    exact xor_i64_ones (by omega) (by omega)
  · rw [if_neg h2, show N % 2 = 0 by omega, show wrap64 (-wrap64 ((0 : Nat) : Int)) = 0 by simp only [wrap64]; omega]
    exact xor_i64_zero (by omega) (by omega)
theorem last_num {E : Int} {acc i x : Nat} (h : E = ((acc + (x % 128) * 128 ^ i : Nat) : Int)) (hx : x < 128) : E = ((acc + x * 128 ^ i : Nat) : Int) := by
  rw [h, Nat.mod_eq_of_lt hx]
end Go.Proofs.Ytgplamfjemmfnaa
