/-
  A slice of numbers that came in as a law's argument.
-/
import Derived.Test.YthdnfnilckjldaaFrame
import Derived.Test.YthdnfnilckjldaaCSum2
namespace Go.Proofs.Ythdnfnilckjldaa
open Go.ChangeShapes Go.WideShapes Go.ChangeAt Go.RowKit

section
variable {H : Type} {enc : TypeId × Value → H}

theorem RdI.nil (w : World) : RdI w none 0 0 [] := ⟨rfl, Nat.le_refl _, by omega, fun h => absurd h (by omega), fun _ => rfl⟩

theorem open_nums {t e : TypeId} (ht : Try.prog.underlying t = some (.slice e)) (he : Try.prog.underlying e = some (.int .i64)) (hc : Try.prog.cellsOf e = 1) {W : World} {base : Nat} {v : Value} {d : DataW H} {p : List MemPlace}
    (hv : Value.okWide Try.prog W .any base t v) (h : DataW.Trod enc Try.prog W 0 (fun _ => true) true t v d p) : ∃ A n c xs, v = .slice A n c ∧ RdI W A n c xs := by
  obtain ⟨A, n, c, rfl⟩ := okWide_slice ht hv
  obtain ⟨fuel, hf⟩ := h
  rcases open_ints ht he hc hf with ⟨hcs, _⟩ | ⟨x, l, c', zs, hcs, _, hl, hm, hz, _, hcell, _⟩
  · simp [Value.cells] at hcs
    obtain ⟨rfl, rfl, rfl⟩ := hcs
    exact ⟨none, 0, 0, [], rfl, RdI.nil W⟩
  · simp [Value.cells] at hcs
    obtain ⟨rfl, rfl, rfl⟩ := hcs
    simp only [if_true] at hz
    have hm' : c ≤ 9223372036854775807 := by simp only [maxLen] at hm; omega
    refine ⟨some x, n, c, zs.take n, rfl, by simp; omega, hl, hm', fun h0 => ?_, fun h => by cases h⟩
    obtain ⟨b, off, rfl, hc'⟩ := ints_at hcell (by omega)
    refine ⟨b, off, rfl, World.block_lt_of_cell? _ _ (hc' 0 (by omega)), fun j hj => ?_⟩
    rw [hc' j (by omega)]
    have e2 : (zs.take n).getD j 0 = zs.getD j 0 := by simp [List.getD, hj]
    rw [e2]
end
#print axioms open_nums
end Go.Proofs.Ythdnfnilckjldaa
