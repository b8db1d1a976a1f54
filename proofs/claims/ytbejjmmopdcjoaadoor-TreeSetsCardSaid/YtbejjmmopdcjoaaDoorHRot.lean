/-
  hash: the words' turning: contracts.
-/
import Derived.Test.YtbejjmmopdcjoaaDoorMem
import Derived.Test.YtbejjmmopdcjoaaDoorRows
import Derived.Lib.Hide
import Derived.Outline
import Derived.WalkLawsBesides
import Derived.WalkSpells
import Derived.Laws.Bits64
import Derived.Laws.Bits64b
namespace Go.Proofs.YtbejjmmopdcjoaaDoor
open Go.RowKit

/-- a word turned left: p is 2 to the power of how far, q the power of the rest -/
def rotl (p q x : Nat) : Nat := (x * p % 18446744073709551616) ||| (x / q)
theorem rotl_lt {p q x : Nat} (h : x < 18446744073709551616) : rotl p q x < 18446744073709551616 := by
  unfold rotl
  exact Nat.or_lt_two_pow (n := 64) (by omega) (Nat.lt_of_le_of_lt (Nat.div_le_self _ _) (by omega))
theorem rotl_bits {p q x : Nat} (h : x < 18446744073709551616) : bits BinOp.or IntKind.u64 (IntKind.u64.wrap ((x : Int) * (p : Int))) ((x : Int) / (q : Int)) = ((rotl p q x : Nat) : Int) := by
  have e : IntKind.u64.wrap ((x : Int) * (p : Int)) = ((x * p % 18446744073709551616 : Nat) : Int) := by rw [IntKind.wrap_u64]; simp
  have e2 : (x : Int) / (q : Int) = ((x / q : Nat) : Int) := by simp
  rw [e, e2, bits_or_u64_nat _ _ (by omega) (Nat.lt_of_le_of_lt (Nat.div_le_self _ _) h)]
  rfl
def Turns (p q x : Nat) (w : World) (e : Ending) (w' : World) : Prop := e = .returned (.int .u64 ((rotl p q x : Nat) : Int)) ∧ w = w'

set_option maxRecDepth 100000 in
theorem rot32 (w : World) (x : Nat) (hx : x < 18446744073709551616) : Calls Tryd.prog 72 #[.int .u64 x, .int .i64 32] w (Turns 4294967296 4294967296 x w) := by
  have e : bits BinOp.and IntKind.u64 32 63 = 32 := by decide +kernel
  go_enter Tryd.func72, Tryd.ntmps72
  go_wp2_with fail
  go_ret
  exact ⟨by rw [← rotl_bits hx]; rfl, rfl⟩
set_option maxRecDepth 100000 in
theorem left32 (w : World) (x : Nat) (hx : x < 18446744073709551616) : Calls Tryd.prog 71 #[.int .u64 x, .int .u64 32] w (Turns 4294967296 4294967296 x w) := by
  go_enter Tryd.func71, Tryd.ntmps71
  go_wp2_with fail
  go_ret
  exact ⟨by rw [← rotl_bits hx]; rfl, rfl⟩

set_option maxRecDepth 100000 in
theorem rot24 (w : World) (x : Nat) (hx : x < 18446744073709551616) : Calls Tryd.prog 72 #[.int .u64 x, .int .i64 24] w (Turns 16777216 1099511627776 x w) := by
  have e : bits BinOp.and IntKind.u64 24 63 = 24 := by decide +kernel
  go_enter Tryd.func72, Tryd.ntmps72
  go_wp2_with fail
  go_ret
  exact ⟨by rw [← rotl_bits hx]; rfl, rfl⟩
set_option maxRecDepth 100000 in
theorem left24 (w : World) (x : Nat) (hx : x < 18446744073709551616) : Calls Tryd.prog 71 #[.int .u64 x, .int .u64 24] w (Turns 16777216 1099511627776 x w) := by
  go_enter Tryd.func71, Tryd.ntmps71
  go_wp2_with fail
  go_ret
  exact ⟨by rw [← rotl_bits hx]; rfl, rfl⟩

set_option maxRecDepth 100000 in
theorem rot16 (w : World) (x : Nat) (hx : x < 18446744073709551616) : Calls Tryd.prog 72 #[.int .u64 x, .int .i64 16] w (Turns 65536 281474976710656 x w) := by
  have e : bits BinOp.and IntKind.u64 16 63 = 16 := by decide +kernel
  go_enter Tryd.func72, Tryd.ntmps72
  go_wp2_with fail
  go_ret
  exact ⟨by rw [← rotl_bits hx]; rfl, rfl⟩
set_option maxRecDepth 100000 in
theorem left16 (w : World) (x : Nat) (hx : x < 18446744073709551616) : Calls Tryd.prog 71 #[.int .u64 x, .int .u64 16] w (Turns 65536 281474976710656 x w) := by
  go_enter Tryd.func71, Tryd.ntmps71
  go_wp2_with fail
  go_ret
  exact ⟨by rw [← rotl_bits hx]; rfl, rfl⟩

set_option maxRecDepth 100000 in
theorem rot63 (w : World) (x : Nat) (hx : x < 18446744073709551616) : Calls Tryd.prog 72 #[.int .u64 x, .int .i64 63] w (Turns 9223372036854775808 2 x w) := by
  have e : bits BinOp.and IntKind.u64 63 63 = 63 := by decide +kernel
  go_enter Tryd.func72, Tryd.ntmps72
  go_wp2_with fail
  go_ret
  exact ⟨by rw [← rotl_bits hx]; rfl, rfl⟩
set_option maxRecDepth 100000 in
theorem left63 (w : World) (x : Nat) (hx : x < 18446744073709551616) : Calls Tryd.prog 71 #[.int .u64 x, .int .u64 63] w (Turns 9223372036854775808 2 x w) := by
  go_enter Tryd.func71, Tryd.ntmps71
  go_wp2_with fail
  go_ret
  exact ⟨by rw [← rotl_bits hx]; rfl, rfl⟩
#print axioms left63
end Go.Proofs.YtbejjmmopdcjoaaDoor
