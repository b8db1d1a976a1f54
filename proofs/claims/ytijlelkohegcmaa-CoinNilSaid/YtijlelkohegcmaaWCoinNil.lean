/-
  CoinNil: the walk, whole.
-/
import Derived.Test.YtijlelkohegcmaaCoinNil
import Derived.Test.YtijlelkohegcmaaCTold
import Derived.Test.YtijlelkohegcmaaFrame
namespace Go.Proofs.Ytijlelkohegcmaa
theorem walkCoinNil (w : World) (a b : Int) (_ : -9223372036854775808 ≤ a) (_ : a < 9223372036854775808) (_ : -9223372036854775808 ≤ b) (_ : b < 9223372036854775808) :
    Calls Try.prog 10 #[.int .i64 a, .int .i64 b] w (Holds w) := coinNil_walk told_c w a b
#print axioms walkCoinNil
end Go.Proofs.Ytijlelkohegcmaa
