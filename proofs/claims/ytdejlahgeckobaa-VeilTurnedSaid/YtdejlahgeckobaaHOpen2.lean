/-
  Pairs that came in: two digests, two numbers.
-/
import Derived.Test.YtdejlahgeckobaaHDigs
import Derived.Test.YtdejlahgeckobaaHOpen
namespace Go.Proofs.Ytdejlahgeckobaa
open Go.ChangeShapes Go.WideShapes Go.ChangeAt Go.RowKit Go.Deep

def dig2A (x y : Nat) : Array Value := #[.int .u8 (byt x 0), .int .u8 (byt x 1), .int .u8 (byt x 2), .int .u8 (byt x 3), .int .u8 (byt x 4), .int .u8 (byt x 5), .int .u8 (byt x 6), .int .u8 (byt x 7), .int .u8 (byt y 0), .int .u8 (byt y 1), .int .u8 (byt y 2), .int .u8 (byt y 3), .int .u8 (byt y 4), .int .u8 (byt y 5), .int .u8 (byt y 6), .int .u8 (byt y 7)]
def dig2V (x y : Nat) : Value := .agg #[.int .u8 (byt x 0), .int .u8 (byt x 1), .int .u8 (byt x 2), .int .u8 (byt x 3), .int .u8 (byt x 4), .int .u8 (byt x 5), .int .u8 (byt x 6), .int .u8 (byt x 7), .int .u8 (byt y 0), .int .u8 (byt y 1), .int .u8 (byt y 2), .int .u8 (byt y 3), .int .u8 (byt y 4), .int .u8 (byt y 5), .int .u8 (byt y 6), .int .u8 (byt y 7)]

section
variable {H : Type} {enc : TypeId × Value → H}
set_option maxRecDepth 100000 in
theorem open_dig2 {t e u : TypeId} (ht : Try.prog.underlying t = some (.array 2 e)) (he : Try.prog.underlying e = some (.array 8 u)) (hu : Try.prog.underlying u = some (.int .u8)) (hcu : Try.prog.cellsOf u = 1) (hce : Try.prog.cellsOf e = 8) (hct : Try.prog.cellsOf t = 16) {W : World} {base : Nat} {v : Value} {d : DataW H} {p : List MemPlace}
    (hv : Value.okWide Try.prog W .any base t v) (h : DataW.Trod enc Try.prog W 0 (fun _ => true) true t v d p) : ∃ x y : Nat, v = dig2V x y ∧ x < 18446744073709551616 ∧ y < 18446744073709551616 := by
  simp only [Value.okWide, ht] at hv
  obtain ⟨cs, rfl, h2, _⟩ := hv
  obtain ⟨fuel, hf⟩ := h
  obtain ⟨xs, m, _, _, hl, hx, hi⟩ := DataW.trod_array ht hf
  obtain ⟨l⟩ := cs
  rw [hct] at h2
  have hl16 : l.length = 16 := by simpa using h2
  have key : ∀ i, i < 2 → ∃ n : Nat, n < 18446744073709551616 ∧ (l.drop (i * 8)).take 8 = (digA n).toList := fun i hi2 => by
    have h1 := hi i hi2
    rw [hce] at h1
    have hsome : xs[i]? = some (xs[i]'(by omega)) := List.getElem?_eq_getElem (by omega)
    rw [hsome] at h1
    exact dig_cells he hu hcu (by show (List.take 8 (List.drop (i * 8) l)).length = 8; rw [List.length_take, List.length_drop]; omega) h1
  obtain ⟨x, lx, ex⟩ := key 0 (by omega)
  obtain ⟨y, ly, ey⟩ := key 1 (by omega)
  refine ⟨x, y, ?_, lx, ly⟩
  have e : l = (digA x).toList ++ (digA y).toList := by
    rw [← ex, ← ey]
    simp only [Nat.zero_mul, Nat.one_mul, List.drop_zero]
    rw [List.take_of_length_le (l := List.drop 8 l) (by rw [List.length_drop]; omega), List.take_append_drop]
  subst e
  rfl
set_option maxRecDepth 100000 in
theorem open_int2 {t e : TypeId} (ht : Try.prog.underlying t = some (.array 2 e)) (he : Try.prog.underlying e = some (.int .i64)) (hce : Try.prog.cellsOf e = 1) (hct : Try.prog.cellsOf t = 2) {W : World} {base : Nat} {v : Value} {d : DataW H} {p : List MemPlace}
    (hv : Value.okWide Try.prog W .any base t v) (h : DataW.Trod enc Try.prog W 0 (fun _ => true) true t v d p) : ∃ a b : Int, v = .agg #[.int .i64 a, .int .i64 b] ∧ (-9223372036854775808 ≤ a ∧ a < 9223372036854775808) ∧ (-9223372036854775808 ≤ b ∧ b < 9223372036854775808) := by
  simp only [Value.okWide, ht] at hv
  obtain ⟨cs, rfl, h2, _⟩ := hv
  obtain ⟨fuel, hf⟩ := h
  obtain ⟨xs, m, _, _, hl, hx, hi⟩ := DataW.trod_array ht hf
  obtain ⟨l⟩ := cs
  rw [hct] at h2
  have hl2 : l.length = 2 := by simpa using h2
  have key : ∀ i, i < 2 → ∃ b : Int, l[i]? = some (.int .i64 b) ∧ -9223372036854775808 ≤ b ∧ b < 9223372036854775808 := fun i hi2 => by
    have h1 := hi i hi2
    rw [hce] at h1
    have hsome : xs[i]? = some (xs[i]'(by omega)) := List.getElem?_eq_getElem (by omega)
    rw [hsome] at h1
    obtain ⟨b, hb, _, hw⟩ := DataW.trod_int he h1
    simp [Lit.wf, IntKind.min, IntKind.max, IntKind.signed, IntKind.bits] at hw
    refine ⟨b, ?_, by omega⟩
    have e1 : ((Value.agg { toList := l }).cells.toList.drop (i * 1)).take 1 = [l[i]'(by omega)] := by
      rw [Nat.mul_one]
      show (l.drop i).take 1 = _
      rw [List.drop_eq_getElem_cons (by omega)]
      rfl
    rw [e1] at hb
    injection hb with hb
    rw [List.getElem?_eq_getElem (by omega), hb]
  match l, hl2, key with
  | [c0, c1], _, key =>
    obtain ⟨b0, g0, l0⟩ := key 0 (by omega)
    obtain ⟨b1, g1, l1⟩ := key 1 (by omega)
    simp at g0 g1
    subst g0 g1
    exact ⟨b0, b1, rfl, l0, l1⟩
end
#print axioms open_dig2
#print axioms open_int2

theorem full16 {w : World} {b : Nat} {T : TypeId} {x y : Nat} (h : w.heap[b]? = some (.cells (dig2A x y) T (0, 0))) :
    (w.cell? ⟨b, 0, none⟩ = some (.int .u8 (byt x 0)) ∧ w.cell? ⟨b, 1, none⟩ = some (.int .u8 (byt x 1)) ∧ w.cell? ⟨b, 2, none⟩ = some (.int .u8 (byt x 2)) ∧ w.cell? ⟨b, 3, none⟩ = some (.int .u8 (byt x 3)) ∧ w.cell? ⟨b, 4, none⟩ = some (.int .u8 (byt x 4)) ∧ w.cell? ⟨b, 5, none⟩ = some (.int .u8 (byt x 5)) ∧ w.cell? ⟨b, 6, none⟩ = some (.int .u8 (byt x 6)) ∧ w.cell? ⟨b, 7, none⟩ = some (.int .u8 (byt x 7))) ∧
    (w.cell? ⟨b, 8, none⟩ = some (.int .u8 (byt y 0)) ∧ w.cell? ⟨b, 9, none⟩ = some (.int .u8 (byt y 1)) ∧ w.cell? ⟨b, 10, none⟩ = some (.int .u8 (byt y 2)) ∧ w.cell? ⟨b, 11, none⟩ = some (.int .u8 (byt y 3)) ∧ w.cell? ⟨b, 12, none⟩ = some (.int .u8 (byt y 4)) ∧ w.cell? ⟨b, 13, none⟩ = some (.int .u8 (byt y 5)) ∧ w.cell? ⟨b, 14, none⟩ = some (.int .u8 (byt y 6)) ∧ w.cell? ⟨b, 15, none⟩ = some (.int .u8 (byt y 7))) := by
  refine ⟨⟨?_, ?_, ?_, ?_, ?_, ?_, ?_, ?_⟩, ⟨?_, ?_, ?_, ?_, ?_, ?_, ?_, ?_⟩⟩ <;> (rw [cell_of_row w b _ _ _ _ h]; rfl)
#print axioms full16
end Go.Proofs.Ytdejlahgeckobaa
