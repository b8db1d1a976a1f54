/-
  What octet's Reader does with bytes and texts.
-/
import Derived.Test.YtibmkihehaedjaaDoorReader2
namespace Go.Proofs.YtibmkihehaedjaaDoor
open Go.RowKit

/-- Bytes: the bytes, what is left, the error -/
def rbytes (bs : List UInt8) (err : Int) (most : Int) : List UInt8 × List UInt8 × Int :=
  if err ≠ 0 then ([], bs, err) else if (dec bs).2.2 ≠ 0 then ([], bs, (dec bs).2.2) else if (max most 0).toNat < (dec bs).1 then ([], bs, 2)
  else if bs.length - (dec bs).2.1 < (dec bs).1 then ([], bs, 4) else ((bs.drop (dec bs).2.1).take (dec bs).1, bs.drop ((dec bs).2.1 + (dec bs).1), 0)

def ReadsB (w : World) (b : Nat) (v : List UInt8) (bs : List UInt8) (err : Int) (e : Ending) (w' : World) : Prop :=
  (∃ A n c, e = .returned (.slice A n c) ∧ Rd w' A n c v) ∧ ∃ A n c, Rdr w' b A n c bs err ∧ w.grownBy w' (some b)

theorem rd_end {w : World} {A : Option Addr} {n c k : Nat} {bs : List UInt8} (h : Rd w A n c bs) (hc : c = k) (hk : k ≤ n) : Rd w A (n - k) 0 (bs.drop k) := by
  subst hc
  exact h.cutEnd hk
theorem u64_small {k : Int} (h : 0 ≤ k) (h2 : k < 9223372036854775808) : IntKind.u64.wrap k = k := by rw [IntKind.wrap_u64]; omega

end Go.Proofs.YtibmkihehaedjaaDoor
