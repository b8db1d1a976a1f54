/-
  CoinSums: the walk, whole.
-/
import Derived.Test.YtijlelkohegcmaaCoinSums
import Derived.Test.YtijlelkohegcmaaCTold
import Derived.Test.YtijlelkohegcmaaCFrame
namespace Go.Proofs.Ytijlelkohegcmaa
theorem walkCoinSums (w : World) (a b : Int) (A : Option Addr) (n c : Nat) (xs : List Int) (_ : -9223372036854775808 ≤ a) (_ : a < 9223372036854775808) (_ : -9223372036854775808 ≤ b) (_ : b < 9223372036854775808) (h : RdI w A n c xs) :
    Calls Try.prog 3 #[.int .i64 a, .int .i64 b, .slice A n c] w (Holds w) := coinSums_walk told_c w a b A n c xs h
#print axioms walkCoinSums
end Go.Proofs.Ytijlelkohegcmaa
