/-
  machine: a state that came in; words that came in.
-/
import Derived.Test.YtbeileihbhooaaaDoorMBase
import Derived.Test.YtbeileihbhooaaaDoorFrame
import Derived.ChangeSlices
namespace Go.Proofs.YtbeileihbhooaaaDoor
open Go.Joins Go.ChangeShapes Go.WideShapes Go.ChangeAt Go.RowKit Go.Deep
theorem in32_of {x : Int} (h : (Lit.int .i32 x).wf = true) : In32 x := by
  simp [Lit.wf, IntKind.min, IntKind.max, IntKind.signed, IntKind.bits] at h
  unfold In32; omega
section
variable {H : Type} {enc : TypeId × Value → H}
theorem words_of {W : World} {fuel : Nat} {v : Value} {y : DataW H × List MemPlace} (h : DataW.trod enc Tryd.prog W 0 (fun _ => true) true fuel 23 [v] = some y) : ∃ A n c xs, v = .slice A n c ∧ RdW W A n c xs ∧ ∀ x ∈ xs, In32 x := by
  rcases open_ints Tryd.underlying23 Tryd.underlying21 (by kernel_rfl) h with ⟨hcs, _⟩ | ⟨x, l, c', zs, hcs, _, hl, hm, hz, _, hcell, hwf⟩
  · injection hcs with hv _
    subst hv
    exact ⟨none, 0, 0, [], rfl, RdW.nil W, by simp⟩
  · injection hcs with hv _
    subst hv
    simp only [if_true] at hz
    have hm' : c' ≤ 9223372036854775807 := by simp only [maxLen] at hm; omega
    refine ⟨some x, l, c', zs.take l, rfl, ⟨by simp; omega, hl, hm', fun h0 => ?_, fun h => by cases h⟩, fun z hz => in32_of (hwf z (List.mem_of_mem_take hz))⟩
    obtain ⟨b, off, rfl, hc'⟩ := ints_at hcell (by omega)
    refine ⟨b, off, rfl, World.block_lt_of_cell? _ _ (hc' 0 (by omega)), fun j hj => ?_⟩
    rw [hc' j (by omega)]
    have e2 : (zs.take l).getD j 0 = zs.getD j 0 := by simp [List.getD, hj]
    rw [e2]
set_option maxRecDepth 100000 in
theorem open_state {W : World} {base : Nat} {v : Value} {d : DataW H} {p : List MemPlace}
    (hv : Value.okWide Tryd.prog W .any base 25 v) (h : DataW.Trod enc Tryd.prog W 0 (fun _ => true) true 25 v d p) :
    ∃ pc A n c halt xs, v = stV pc A n c halt ∧ RdW W A n c xs ∧ (∀ x ∈ xs, In32 x) := by
  obtain ⟨v0, v1, v2, y0, y1, y2, n, rfl, _, _, h0, h1, h2⟩ := open_agg3 Tryd.underlying25 (by kernel_rfl) (by kernel_rfl) hv h
  obtain ⟨p0, e0, _, w0⟩ := DataW.trod_int Tryd.underlying3 h0
  obtain ⟨A, k, c, xs, rfl, hr, hi⟩ := words_of h1
  obtain ⟨p2, e2, _, w2⟩ := DataW.trod_int Tryd.underlying3 h2
  injection e0 with e0; injection e2 with e2
  subst e0 e2
  exact ⟨p0, A, k, c, p2, xs, rfl, hr, hi⟩
set_option maxRecDepth 100000 in
theorem open_words {W : World} {base : Nat} {v : Value} {d : DataW H} {p : List MemPlace}
    (hv : Value.okWide Tryd.prog W .any base 23 v) (h : DataW.Trod enc Tryd.prog W 0 (fun _ => true) true 23 v d p) : ∃ A n c xs, v = .slice A n c ∧ RdW W A n c xs ∧ ∀ x ∈ xs, In32 x := by
  obtain ⟨A, n, c, rfl⟩ := okWide_slice Tryd.underlying23 hv
  obtain ⟨fuel, hf⟩ := h
  simp only [Value.cells] at hf
  exact words_of hf
end
#print axioms open_state
#print axioms open_words
end Go.Proofs.YtbeileihbhooaaaDoor
