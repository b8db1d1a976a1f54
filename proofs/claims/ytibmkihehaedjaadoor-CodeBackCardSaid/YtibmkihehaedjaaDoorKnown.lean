/-
  The chapter's example is so.
-/
import Derived.Test.YtibmkihehaedjaaDoorRefs
namespace Go.Proofs.YtibmkihehaedjaaDoor
open Go.RowKit
theorem num_300 : num 300 = [172, 2] := by rw [num_big (by omega), num_small (by omega)]; rfl
theorem num_m3 : num (fold (-3)) = [5] := by
  have h : fold (-3) = 5 := by rfl
  rw [h, num_small (by omega)]; rfl
theorem num_2 : num 2 = [2] := by rw [num_small (by omega)]; rfl

end Go.Proofs.YtibmkihehaedjaaDoor
