/-
  OctetNil: the walk.
-/
import Derived.Test.YtcikknhjhokmdaaKnown
import Derived.Test.YtcikknhjhokmdaaFrame
import Derived.Handy
namespace Go.Proofs.Ytcikknhjhokmdaa
open Go.RowKit
set_option maxRecDepth 100000 in
set_option maxHeartbeats 400000 in
theorem walkOctetNil (w : World) (n : Int) (m : Nat) (_h1 : -9223372036854775808 ≤ n) (_h2 : n < 9223372036854775808) (_hm : m < 18446744073709551616) :
    Calls Try.prog 11 #[.int .i64 n, .int .u64 m] w (Holds w) := by
  clear _h1 _h2 _hm
  have hz : bits BinOp.xor IntKind.i64 0 (wrap64 (-wrap64 (bits BinOp.and IntKind.u64 0 1))) = 0 := by decide +kernel
  have hcv := fun (w : World) => (Rd.nil w).text Try.underlying22 Try.underlying5 Try.underlying9
  go_enter Try.func11, Try.ntmps11
  go_wp2_with (first | (go_at_call 16; refine (known_c _).mono ?_; rintro e w1 ⟨rfl, hb1⟩) | go_in)
  go_ret
  exact ⟨rfl, ext_trans hb1 (by go_grown)⟩
end Go.Proofs.Ytcikknhjhokmdaa
