/-
  What octet's other Put calls come to, and the document's own Num, Fold, Bytes, Same.
-/
import Derived.Test.YtibmkihehaedjaaDoorPuts
import Derived.Deep.QuietTactic
import Derived.BigQuiet
namespace Go.Proofs.YtibmkihehaedjaaDoor
open Go.RowKit

theorem putNum_i (w : World) (A : Option Addr) (n c : Nat) (bs : List UInt8) (h : Rd w A n c bs) (hn : n ≤ 1000000000000) (m : Nat) (hm : m < 18446744073709551616) (X : Int) (hX : X = (m : Int)) :
    Calls Tryd.prog 40 #[.slice A n c, .int .u64 X] w (Makes w (bs ++ num m)) := by
  subst hX
  exact putNum_c w A n c bs h hn m hm

theorem Makes.fwd {w w' : World} {bs : List UInt8} {e : Ending} (h : Makes w bs e w') : ∃ A n c, e = .returned (.slice A n c) ∧ Own w' 5 w.heap.size A n c bs ∧ Below w.heap.size w w' := h

set_option maxRecDepth 100000 in
set_option maxHeartbeats 400000 in
theorem putInt_c (w : World) (A : Option Addr) (n c : Nat) (bs : List UInt8) (h : Rd w A n c bs) (hn : n ≤ 1000000000000) (k : Int) (h1 : -9223372036854775808 ≤ k) (h2 : k < 9223372036854775808) :
    Calls Tryd.prog 61 #[.slice A n c, .int .i64 k] w (Makes w (bs ++ num (fold k))) := by
  have hf := fold_lt h1 h2
  rcases (show k < 0 ∨ 0 ≤ k by omega) with h0 | h0
  · go_enter Tryd.func61, Tryd.ntmps61
    go_wp2_with (go_at_call 40; refine (putNum_i _ _ _ _ _ h hn _ hf _ (xor_neg h0 h1)).mono ?_; rintro e w' ⟨A', n', c', rfl, ho, hb⟩)
    go_ret
    exact ⟨_, _, _, rfl, ho, hb⟩
  · go_enter Tryd.func61, Tryd.ntmps61
    go_wp2_with (go_at_call 40; refine (putNum_i _ _ _ _ _ h hn _ hf _ (xor_pos h0 h2)).mono ?_; rintro e w' ⟨A', n', c', rfl, ho, hb⟩)
    go_ret
    exact ⟨_, _, _, rfl, ho, hb⟩

end Go.Proofs.YtibmkihehaedjaaDoor
