/-
  an argument of 16 bits, opened.
-/
import Derived.Test.YtibmkihehaedjaaDoorFrame
namespace Go.Proofs.YtibmkihehaedjaaDoor
open Go.ChangeShapes Go.WideShapes Go.ChangeAt Go.RowKit
section
variable {H : Type} {enc : TypeId × Value → H}
set_option maxRecDepth 100000 in
theorem open_u16 {H : Type} {enc : TypeId × Value → H} {t : TypeId} (ht : Tryd.prog.underlying t = some (.int .u16)) {W : World} {base : Nat} {v : Value} {d : DataW H} {p : List MemPlace}
    (hv : Value.okWide Tryd.prog W .any base t v) (h : DataW.Trod enc Tryd.prog W 0 (fun _ => true) true t v d p) : ∃ m : Nat, v = .int .u16 m ∧ m < 65536 := by
  obtain ⟨k, rfl, rfl, rfl, hw⟩ := open_int ht hv h
  simp [Lit.wf, IntKind.min, IntKind.max, IntKind.signed, IntKind.bits] at hw
  exact ⟨k.toNat, by congr 1; omega, by omega⟩

end
end Go.Proofs.YtibmkihehaedjaaDoor
