/-
  CoinBack: the walk, whole.
-/
import Derived.Test.YtijlelkohegcmaaCoinBack
import Derived.Test.YtijlelkohegcmaaCTold
import Derived.Test.YtijlelkohegcmaaFrame
namespace Go.Proofs.Ytijlelkohegcmaa
theorem walkCoinBack (w : World) (a b : Int) (_ : -9223372036854775808 ≤ a) (_ : a < 9223372036854775808) (_ : -9223372036854775808 ≤ b) (_ : b < 9223372036854775808) :
    Calls Try.prog 4 #[.int .i64 a, .int .i64 b] w (Holds w) := coinBack_walk told_c w a b
#print axioms walkCoinBack
end Go.Proofs.Ytijlelkohegcmaa
