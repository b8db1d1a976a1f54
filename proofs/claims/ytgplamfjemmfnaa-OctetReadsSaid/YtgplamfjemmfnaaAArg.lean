/-
  octet: slices of numbers and of texts that came in.
-/
import Derived.Test.YtgplamfjemmfnaaFrame
import Derived.Deep.Strs
namespace Go.Proofs.Ytgplamfjemmfnaa
open Go.ChangeShapes Go.WideShapes Go.ChangeAt Go.RowKit Go.Deep

/-- a slice's cells, by index -/
structure RdX (w : World) (A : Option Addr) (n c : Nat) (f : Nat → Value) : Prop where
  le : n ≤ c
  max : c ≤ 9223372036854775807
  cells : 0 < n → ∃ b o, A = some ⟨b, o, none⟩ ∧ b < w.heap.size ∧ ∀ j, j < n → w.cell? ⟨b, o + j, none⟩ = some (f j)
theorem RdX.ext {w w' : World} {A : Option Addr} {n c : Nat} {f : Nat → Value} (h : RdX w A n c f) (k : Below w.heap.size w w') : RdX w' A n c f :=
  ⟨h.le, h.max, fun hn => by
    obtain ⟨b, o, hA, hb, hc⟩ := h.cells hn
    exact ⟨b, o, hA, Nat.lt_of_lt_of_le hb k.size, fun j hj => (k.cell (p := ⟨b, o + j, none⟩) hb).trans (hc j hj)⟩⟩
theorem RdX.front {w : World} {A : Option Addr} {n c : Nat} {f : Nat → Value} (h : RdX w A n c f) {m : Nat} (hm : m ≤ n) : RdX w A m c f :=
  ⟨Nat.le_trans hm h.le, h.max, fun h0 => by
    obtain ⟨b, o, hA, hb, hc⟩ := h.cells (by omega)
    exact ⟨b, o, hA, hb, fun j hj => hc j (by omega)⟩⟩

section
variable {H : Type} {enc : TypeId × Value → H}

theorem open_u64s {t e : TypeId} (ht : Try.prog.underlying t = some (.slice e)) (he : Try.prog.underlying e = some (.int .u64)) (hc : Try.prog.cellsOf e = 1) {W : World} {base : Nat} {v : Value} {d : DataW H} {p : List MemPlace}
    (hv : Value.okWide Try.prog W .any base t v) (h : DataW.Trod enc Try.prog W 0 (fun _ => true) true t v d p) : ∃ A n c, ∃ f : Nat → Nat, v = .slice A n c ∧ RdX W A n c (fun j => .int .u64 (f j)) ∧ ∀ j, j < n → f j < 18446744073709551616 := by
  obtain ⟨A, n, c, rfl⟩ := okWide_slice ht hv
  obtain ⟨fuel, hf⟩ := h
  rcases open_ints ht he hc hf with ⟨hcs, _⟩ | ⟨x, l, c', zs, hcs, _, hl, hm, hz, _, hcell, hwf⟩
  · simp [Value.cells] at hcs
    obtain ⟨rfl, rfl, rfl⟩ := hcs
    exact ⟨none, 0, 0, fun _ => 0, rfl, ⟨Nat.le_refl _, by omega, fun h => absurd h (by omega)⟩, fun j hj => absurd hj (by omega)⟩
  · simp [Value.cells] at hcs
    obtain ⟨rfl, rfl, rfl⟩ := hcs
    simp only [if_true] at hz
    have hm' : c ≤ 9223372036854775807 := by simp only [maxLen] at hm; omega
    have hr : ∀ j, j < n → (Lit.int .u64 (zs.getD j 0)).wf = true := fun j hj => hwf _ (by rw [show zs.getD j 0 = zs[j]'(by omega) by simp [show j < zs.length by omega]]; exact List.getElem_mem _)
    have hr2 : ∀ j, j < n → 0 ≤ zs.getD j 0 ∧ zs.getD j 0 < 18446744073709551616 := fun j hj => by
      have := hr j hj
      obtain ⟨z, hz'⟩ : ∃ z, z = zs.getD j 0 := ⟨_, rfl⟩
      rw [← hz'] at this ⊢
      simp [Lit.wf, IntKind.min, IntKind.max, IntKind.signed, IntKind.bits] at this
      omega
    refine ⟨some x, n, c, fun j => (zs.getD j 0).toNat, rfl, ⟨hl, hm', fun h0 => ?_⟩, fun j hj => by have := hr2 j hj; show (zs.getD j 0).toNat < _; omega⟩
    obtain ⟨b, off, rfl, hc'⟩ := ints_at hcell (by omega)
    refine ⟨b, off, rfl, World.block_lt_of_cell? _ _ (hc' 0 (by omega)), fun j hj => ?_⟩
    rw [hc' j (by omega)]
    have := (hr2 j hj).1
    rw [Int.toNat_of_nonneg this]

theorem open_i64s {t e : TypeId} (ht : Try.prog.underlying t = some (.slice e)) (he : Try.prog.underlying e = some (.int .i64)) (hc : Try.prog.cellsOf e = 1) {W : World} {base : Nat} {v : Value} {d : DataW H} {p : List MemPlace}
    (hv : Value.okWide Try.prog W .any base t v) (h : DataW.Trod enc Try.prog W 0 (fun _ => true) true t v d p) : ∃ A n c, ∃ f : Nat → Int, v = .slice A n c ∧ RdX W A n c (fun j => .int .i64 (f j)) ∧ ∀ j, j < n → -9223372036854775808 ≤ f j ∧ f j < 9223372036854775808 := by
  obtain ⟨A, n, c, rfl⟩ := okWide_slice ht hv
  obtain ⟨fuel, hf⟩ := h
  rcases open_ints ht he hc hf with ⟨hcs, _⟩ | ⟨x, l, c', zs, hcs, _, hl, hm, hz, _, hcell, hwf⟩
  · simp [Value.cells] at hcs
    obtain ⟨rfl, rfl, rfl⟩ := hcs
    exact ⟨none, 0, 0, fun _ => 0, rfl, ⟨Nat.le_refl _, by omega, fun h => absurd h (by omega)⟩, fun j hj => absurd hj (by omega)⟩
  · simp [Value.cells] at hcs
    obtain ⟨rfl, rfl, rfl⟩ := hcs
    simp only [if_true] at hz
    have hm' : c ≤ 9223372036854775807 := by simp only [maxLen] at hm; omega
    have hr : ∀ j, j < n → (Lit.int .i64 (zs.getD j 0)).wf = true := fun j hj => hwf _ (by rw [show zs.getD j 0 = zs[j]'(by omega) by simp [show j < zs.length by omega]]; exact List.getElem_mem _)
    have hr2 : ∀ j, j < n → -9223372036854775808 ≤ zs.getD j 0 ∧ zs.getD j 0 < 9223372036854775808 := fun j hj => by
      have := hr j hj
      obtain ⟨z, hz'⟩ : ∃ z, z = zs.getD j 0 := ⟨_, rfl⟩
      rw [← hz'] at this ⊢
      simp [Lit.wf, IntKind.min, IntKind.max, IntKind.signed, IntKind.bits] at this
      omega
    refine ⟨some x, n, c, fun j => zs.getD j 0, rfl, ⟨hl, hm', fun h0 => ?_⟩, fun j hj => by have := hr2 j hj; exact this⟩
    obtain ⟨b, off, rfl, hc'⟩ := ints_at hcell (by omega)
    refine ⟨b, off, rfl, World.block_lt_of_cell? _ _ (hc' 0 (by omega)), fun j hj => ?_⟩
    rw [hc' j (by omega)]

theorem open_texts {t e : TypeId} (ht : Try.prog.underlying t = some (.slice e)) (he : Try.prog.underlying e = some .string) (hc : Try.prog.cellsOf e = 1) {W : World} {base : Nat} {v : Value} {d : DataW H} {p : List MemPlace}
    (hv : Value.okWide Try.prog W .any base t v) (h : DataW.Trod enc Try.prog W 0 (fun _ => true) true t v d p) : ∃ A n c, ∃ f : Nat → ByteArray, v = .slice A n c ∧ RdX W A n c (fun j => .string (f j)) ∧ ∀ j, j < n → (f j).size ≤ 9223372036854775807 := by
  obtain ⟨A, n, c, rfl⟩ := okWide_slice ht hv
  obtain ⟨fuel, hf⟩ := h
  rcases open_strs ht he hc hf with ⟨hcs, _⟩ | ⟨a, len, cap, m, Sx, hcs, _, hl, hm, hmm, _, hcell⟩
  · simp [Value.cells] at hcs
    obtain ⟨rfl, rfl, rfl⟩ := hcs
    exact ⟨none, 0, 0, fun _ => ByteArray.empty, rfl, ⟨Nat.le_refl _, by omega, fun h => absurd h (by omega)⟩, fun j hj => absurd hj (by omega)⟩
  · simp [Value.cells] at hcs
    obtain ⟨rfl, rfl, rfl⟩ := hcs
    simp only [if_true] at hmm
    have hm' : c ≤ 9223372036854775807 := by simp only [maxLen] at hm; omega
    refine ⟨some a, n, c, Sx, rfl, ⟨hl, hm', fun h0 => ?_⟩, fun j hj => by have := (hcell j (by omega)).2; simp only [maxLen] at this; omega⟩
    obtain ⟨b, off, spot⟩ := a
    have h00 := (hcell 0 (by omega)).1
    have hspot : spot = none := by simpa [Addr.add] using World.cell?_spot h00
    subst hspot
    have hblk := World.block_lt_of_cell? _ _ h00
    refine ⟨b, off, rfl, by simpa [Addr.add] using hblk, fun j hj => ?_⟩
    rw [← Go.WideShapes.add_plain]
    exact (hcell j (by omega)).1
end
#print axioms open_u64s
#print axioms open_i64s
#print axioms open_texts
end Go.Proofs.Ytgplamfjemmfnaa
