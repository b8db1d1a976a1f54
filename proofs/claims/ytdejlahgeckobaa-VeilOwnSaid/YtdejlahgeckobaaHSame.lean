/-
  hash: bytes compared: the law's same, bytes.Equal: contracts.
-/
import Derived.Test.YtdejlahgeckobaaHSum
namespace Go.Proofs.Ytdejlahgeckobaa
open Go.RowKit

set_option maxRecDepth 100000 in
theorem lsame_c (w : World) (A : Option Addr) (n c : Nat) (bs : List UInt8) (h : Hid (Rd w A n c bs)) (A2 : Option Addr) (n2 c2 : Nat) (cs : List UInt8) (h2 : Hid (Rd w A2 n2 c2 cs)) :
    Calls Try.prog 19 #[.slice A n c, .slice A2 n2 c2] w (Hands (.bool (bs == cs)) w) := by
  have T1 := h.out.text Try.underlying22 Try.underlying5 Try.underlying9
  have T2 := h2.out.text Try.underlying22 Try.underlying5 Try.underlying9
  go_enter Try.func19, Try.ntmps19
  go_wp2_with fail
  go_ret
  exact ⟨rfl, Below.refl _ _⟩
#print axioms lsame_c
set_option maxRecDepth 100000 in
theorem equal_c (w : World) (A : Option Addr) (n c : Nat) (bs : List UInt8) (h : Hid (Rd w A n c bs)) (A2 : Option Addr) (n2 c2 : Nat) (cs : List UInt8) (h2 : Hid (Rd w A2 n2 c2 cs)) :
    Calls Try.prog 48 #[.slice A n c, .slice A2 n2 c2] w (Hands (.bool (bs == cs)) w) := by
  have T1 := h.out.text Try.underlying22 Try.underlying5 Try.underlying9
  have T2 := h2.out.text Try.underlying22 Try.underlying5 Try.underlying9
  go_enter Try.func48, Try.ntmps48
  go_wp2_with fail
  go_ret
  exact ⟨rfl, Below.refl _ _⟩
#print axioms equal_c
end Go.Proofs.Ytdejlahgeckobaa
