/-
  coin: structs of payments that came in.
-/
import Derived.Test.YthdnfnilckjldaaCAsk
namespace Go.Proofs.Ythdnfnilckjldaa
open Go.ChangeShapes Go.WideShapes Go.ChangeAt Go.RowKit Go.Deep

section
variable {H : Type} {enc : TypeId × Value → H}
set_option maxRecDepth 100000 in
theorem open_asksS {W : World} {base : Nat} {v : Value} {d : DataW H} {p : List MemPlace}
    (hv : Value.okWide Try.prog W .any base 56 v) (h : DataW.Trod enc Try.prog W 0 (fun _ => true) true 56 v d p) : ∃ A n c xs last, v = .agg #[.slice A n c, .int .i64 last] ∧ RdP W A n c xs := by
  simp only [Value.okWide, Try.underlying56] at hv
  obtain ⟨cs, rfl, h2, _⟩ := hv
  obtain ⟨fuel, hf⟩ := h
  obtain ⟨y0, y1, m, _, hl, g0, g1⟩ := trod_struct2 Try.underlying56 hf
  obtain ⟨l⟩ := cs
  have hc : Try.prog.cellsOf 56 = 2 := by kernel_rfl
  have c0 : Try.prog.cellsOf 40 = 1 := by kernel_rfl
  have c1 : Try.prog.cellsOf 3 = 1 := by kernel_rfl
  rw [hc] at h2
  have hl2 : l.length = 2 := by simpa using h2
  match l, hl2, g0, g1 with
  | [a, b], _, g0, g1 =>
    have e0 : DataW.trod enc Try.prog W 0 (fun _ => true) true m 40 [a] = some y0 := by rw [c0] at g0; exact g0
    have e1 : DataW.trod enc Try.prog W 0 (fun _ => true) true m 3 [b] = some y1 := by rw [c1] at g1; exact g1
    obtain ⟨A, n, c, xs, rfl, r⟩ := asks_of e0
    obtain ⟨q, hq, _, _⟩ := DataW.trod_int Try.underlying3 e1
    injection hq with hq
    exact ⟨A, n, c, xs, q, by rw [hq], r⟩
set_option maxRecDepth 100000 in
theorem open_pairS {W : World} {base : Nat} {v : Value} {d : DataW H} {p : List MemPlace}
    (hv : Value.okWide Try.prog W .any base 60 v) (h : DataW.Trod enc Try.prog W 0 (fun _ => true) true 60 v d p) : ∃ A n c xs A2 n2 c2 ys, v = .agg #[.slice A n c, .slice A2 n2 c2] ∧ RdP W A n c xs ∧ RdP W A2 n2 c2 ys := by
  simp only [Value.okWide, Try.underlying60] at hv
  obtain ⟨cs, rfl, h2, _⟩ := hv
  obtain ⟨fuel, hf⟩ := h
  obtain ⟨y0, y1, m, _, hl, g0, g1⟩ := trod_struct2 Try.underlying60 hf
  obtain ⟨l⟩ := cs
  have hc : Try.prog.cellsOf 60 = 2 := by kernel_rfl
  have c0 : Try.prog.cellsOf 40 = 1 := by kernel_rfl
  rw [hc] at h2
  have hl2 : l.length = 2 := by simpa using h2
  match l, hl2, g0, g1 with
  | [a, b], _, g0, g1 =>
    have e0 : DataW.trod enc Try.prog W 0 (fun _ => true) true m 40 [a] = some y0 := by rw [c0] at g0; exact g0
    have e1 : DataW.trod enc Try.prog W 0 (fun _ => true) true m 40 [b] = some y1 := by rw [c0] at g1; exact g1
    obtain ⟨A, n, c, xs, rfl, r⟩ := asks_of e0
    obtain ⟨A2, n2, c2, ys, rfl, r2⟩ := asks_of e1
    exact ⟨A, n, c, xs, A2, n2, c2, ys, rfl, r, r2⟩
end
#print axioms open_asksS
#print axioms open_pairS
end Go.Proofs.Ythdnfnilckjldaa
