/-
  code: what bytes are as instructions: plain functions.
-/
import Derived.Test.YtibmkihehaedjaaDoorGEnc
import Derived.Test.YtibmkihehaedjaaDoorReader2
import Derived.Test.YtibmkihehaedjaaDoorInts0
namespace Go.Proofs.YtibmkihehaedjaaDoor
open Go.RowKit

/-- so many numbers read: they, what is left, the error -/
def numR : Nat → List UInt8 → List Int × List UInt8 × Int
  | 0, bs => ([], bs, 0)
  | q + 1, bs =>
    if (rnum bs 0 18446744073709551615).2.2 ≠ 0 then ([], bs, (rnum bs 0 18446744073709551615).2.2)
    else if ¬ (-2147483648 ≤ unfold_ (rnum bs 0 18446744073709551615).1 ∧ unfold_ (rnum bs 0 18446744073709551615).1 ≤ 2147483647) then ([], bs, 2)
    else (unfold_ (rnum bs 0 18446744073709551615).1 :: (numR q (rnum bs 0 18446744073709551615).2.1).1, (numR q (rnum bs 0 18446744073709551615).2.1).2)
/-- an instruction of its numbers -/
def insOf (o : Nat) (l : List Int) : Ins := ⟨o, l.getD 0 0, l.getD 1 0, l.getD 2 0⟩
/-- an instruction read -/
def insR (bs : List UInt8) : Ins × List UInt8 × Int :=
  if (rnum bs 0 21).2.2 ≠ 0 then (noIns, bs, (rnum bs 0 21).2.2)
  else (insOf (rnum bs 0 21).1 (numR (hasB (rnum bs 0 21).1).length (rnum bs 0 21).2.1).1, (numR (hasB (rnum bs 0 21).1).length (rnum bs 0 21).2.1).2)
/-- so many instructions read -/
def manyR : Nat → List UInt8 → List Ins × List UInt8 × Int
  | 0, bs => ([], bs, 0)
  | n + 1, bs => if (insR bs).2.2 ≠ 0 then ([], bs, (insR bs).2.2) else ((insR bs).1 :: (manyR n (insR bs).2.1).1, (manyR n (insR bs).2.1).2)
/-- the instructions that bytes are, or why there are none -/
def decV (bs : List UInt8) : List Ins × Int :=
  if (rnum bs 0 2048).2.2 ≠ 0 then ([], (rnum bs 0 2048).2.2)
  else if (manyR (rnum bs 0 2048).1 (rnum bs 0 2048).2.1).2.2 ≠ 0 then ([], (manyR (rnum bs 0 2048).1 (rnum bs 0 2048).2.1).2.2)
  else if (manyR (rnum bs 0 2048).1 (rnum bs 0 2048).2.1).2.1 ≠ [] then ([], 5)
  else if (checkV (manyR (rnum bs 0 2048).1 (rnum bs 0 2048).2.1).1 256).2 ≠ 0 then ([], (checkV (manyR (rnum bs 0 2048).1 (rnum bs 0 2048).2.1).1 256).2)
  else ((manyR (rnum bs 0 2048).1 (rnum bs 0 2048).2.1).1, 0)
theorem rnum_most (bs : List UInt8) (err : Int) (most : Nat) : (rnum bs err most).1 ≤ most := by
  unfold rnum
  split
  · exact Nat.zero_le _
  · split
    · exact Nat.zero_le _
    · split
      · exact Nat.zero_le _
      · rename_i h; exact Nat.le_of_not_lt h
theorem rnum_stuck {bs : List UInt8} {err : Int} (h : err ≠ 0) (most : Nat) : rnum bs err most = (0, bs, err) := by unfold rnum; rw [if_pos h]
theorem unfold_0 : unfold_ 0 = 0 := rfl
theorem rnum_bad {bs : List UInt8} {most : Nat} (h : (rnum bs 0 most).2.2 ≠ 0) : (rnum bs 0 most).1 = 0 ∧ (rnum bs 0 most).2.1 = bs := by
  unfold rnum at h ⊢
  split
  · exact ⟨rfl, rfl⟩
  · split
    · exact ⟨rfl, rfl⟩
    · split
      · exact ⟨rfl, rfl⟩
      · rename_i h1 h2 h3
        rw [if_neg h1, if_neg h2, if_neg h3] at h
        exact absurd rfl h
#print axioms rnum_bad
end Go.Proofs.YtibmkihehaedjaaDoor
