/-
  shifts and bits of places.
-/
import Derived.Test.YtbejjmmopdcjoaaDoorTPure
import Derived.Laws.Shifts
namespace Go.Proofs.YtbejjmmopdcjoaaDoor
open Go.RowKit

theorem exec_bin {P : Program} {w : World} {ev : Operand → Value} {o : Oper} {op : BinOp} {t t2 : TypeId} {x y : Operand} (ho : o.op = .binOp op t x y t2) {v1 v2 v : Value} (hx : ev x = v1) (hy : ev y = v2) (hg : eqGuard op t x y v1 v2 = pure ()) (hb : binOp op t v1 v2 = pure v) : (execOp ev o).run P w = .ok (Next.value v) w := by
  unfold execOp
  simp only [ho, hx, hy, hg, hb]
  rfl
theorem shr_nat (t : TypeId) (i k a : Nat) (hk : k ≤ 64) (ha : a = i / 2 ^ k) : binOp .shr t (.int .i64 (i : Int)) (.int .i64 (k : Int)) = pure (.int .i64 (a : Int)) := by
  rw [binOp_shr, shift_shr_i64 _ _ _ (by omega) (by omega), ha, Int.toNat_natCast]
  rfl
theorem wrap_nat {n : Nat} (h : n < 9223372036854775808) : IntKind.i64.wrap ((n : Nat) : Int) = (n : Int) := by rw [IntKind.wrap_i64]; omega
theorem shl_one (t : TypeId) (k p : Nat) (hk : k ≤ 12) (hp : p = 2 ^ k) : binOp .shl t (.int .i64 1) (.int .i64 (k : Int)) = pure (.int .i64 (p : Int)) := by
  have hp2 : p ≤ 4096 := by rw [hp]; exact Nat.le_trans (Nat.pow_le_pow_right (by omega) hk) (by omega)
  rw [show binOp .shl t (.int .i64 1) (.int .i64 (k : Int)) = Op.shift .shl .i64 1 .i64 (k : Int) from rfl, shift_shl _ _ _ _ (by omega) (show (k : Int) ≤ 64 by omega), Int.toNat_natCast, Int.one_mul]
  rw [show ((2 : Int) ^ k) = ((2 ^ k : Nat) : Int) by rw [Int.natCast_pow]; rfl, ← hp, wrap_nat (by omega)]
theorem ofInt_nat (n : Nat) : BitVec.ofInt 64 (n : Int) = BitVec.ofNat 64 n := by simp
theorem xor_oth (a : Nat) : a ^^^ 1 = oth a := by
  have h1 : (a ^^^ 1) % 2 = (a + 1) % 2 := by
    have e := Nat.xor_mod_two_pow (a := a) (b := 1) (n := 1)
    rw [Nat.pow_one] at e
    rw [e]
    rcases Nat.mod_two_eq_zero_or_one a with q | q
    · rw [q, show (a + 1) % 2 = 1 by omega]
      rfl
    · rw [q, show (a + 1) % 2 = 0 by omega]
      rfl
  have h2 : (a ^^^ 1) / 2 = a / 2 := by rw [Nat.xor_div_two]; simp
  unfold oth
  split <;> omega
theorem xor_nat (t : TypeId) (a p : Nat) (ha : a ≤ 4096) (hp : p = oth a) : binOp .xor t (.int .i64 (a : Int)) (.int .i64 1) = pure (.int .i64 (p : Int)) := by
  rw [binOp_xor, intBits_xor]
  congr 2
  show IntKind.i64.wrap ((BitVec.ofInt 64 (a : Int) ^^^ BitVec.ofInt 64 ((1 : Nat) : Int)).toNat : Int) = _
  rw [ofInt_nat, ofInt_nat, BitVec.toNat_xor, BitVec.toNat_ofNat, BitVec.toNat_ofNat, Nat.mod_eq_of_lt (by omega), Nat.mod_eq_of_lt (by omega), xor_oth, ← hp]
  have : p ≤ 4097 := by rw [hp]; unfold oth; split <;> omega
  exact wrap_nat (by omega)
theorem and_nat (t : TypeId) (a : Nat) (ha : a ≤ 9000000000000000000) : binOp .and t (.int .i64 (a : Int)) (.int .i64 1) = pure (.int .i64 ((a % 2 : Nat) : Int)) := by
  rw [binOp_and, intBits_and]
  congr 2
  show IntKind.i64.wrap ((BitVec.ofInt 64 (a : Int) &&& BitVec.ofInt 64 ((1 : Nat) : Int)).toNat : Int) = _
  rw [ofInt_nat, ofInt_nat, BitVec.toNat_and, BitVec.toNat_ofNat, BitVec.toNat_ofNat, Nat.mod_eq_of_lt (by omega), Nat.mod_eq_of_lt (by omega), Nat.and_one_is_mod]
  exact wrap_nat (by omega)
#print axioms xor_nat
#print axioms and_nat
#print axioms shl_one
end Go.Proofs.YtbejjmmopdcjoaaDoor
