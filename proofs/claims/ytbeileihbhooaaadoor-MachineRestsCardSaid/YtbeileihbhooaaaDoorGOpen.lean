/-
  code: an instruction that came in, by value; many that came in.
-/
import Derived.Test.YtbeileihbhooaaaDoorMem
import Derived.Test.YtbeileihbhooaaaDoorRows
import Derived.Lib.SmallJoins
import Derived.Deep.Slices
import Derived.Deep.Fields
import Derived.ChangeSame
namespace Go.Proofs.YtbeileihbhooaaaDoor
open Go.Joins Go.ChangeShapes Go.WideShapes Go.ChangeAt Go.RowKit Go.Deep

/-- a number of 64 bits -/
def In64 (x : Int) : Prop := -9223372036854775808 ≤ x ∧ x < 9223372036854775808
theorem in64_of {x : Int} (h : (Lit.int .i64 x).wf = true) : In64 x := by
  simp [Lit.wf, IntKind.min, IntKind.max, IntKind.signed, IntKind.bits] at h
  unfold In64; omega
/-- an instruction, as a value -/
abbrev insV (o a b c : Int) : Value := .agg #[.int .i64 o, .int .i64 a, .int .i64 b, .int .i64 c]
/-- an instruction's four numbers -/
structure Ins where
  o : Int
  a : Int
  b : Int
  c : Int
def Ins.ok (i : Ins) : Prop := In64 i.o ∧ In64 i.a ∧ In64 i.b ∧ In64 i.c

section
variable {H : Type} {enc : TypeId × Value → H}
set_option maxRecDepth 100000 in
theorem open_instr {W : World} {base : Nat} {v : Value} {d : DataW H} {p : List MemPlace}
    (hv : Value.okWide Tryd.prog W .any base 58 v) (h : DataW.Trod enc Tryd.prog W 0 (fun _ => true) true 58 v d p) :
    ∃ o a b c : Int, v = insV o a b c ∧ In64 o ∧ In64 a ∧ In64 b ∧ In64 c := by
  obtain ⟨v0, v1, v2, v3, y0, y1, y2, y3, n, rfl, _, _, h0, h1, h2, h3⟩ := open_agg4 Tryd.underlying58 (by kernel_rfl) (by kernel_rfl) hv h
  obtain ⟨p0, e0, _, w0⟩ := DataW.trod_int Tryd.underlying3 h0
  obtain ⟨p1, e1, _, w1⟩ := DataW.trod_int Tryd.underlying3 h1
  obtain ⟨p2, e2, _, w2⟩ := DataW.trod_int Tryd.underlying3 h2
  obtain ⟨p3, e3, _, w3⟩ := DataW.trod_int Tryd.underlying3 h3
  injection e0 with e0; injection e1 with e1; injection e2 with e2; injection e3 with e3
  subst e0 e1 e2 e3
  exact ⟨p0, p1, p2, p3, rfl, in64_of w0, in64_of w1, in64_of w2, in64_of w3⟩
end
#print axioms open_instr
end Go.Proofs.YtbeileihbhooaaaDoor
