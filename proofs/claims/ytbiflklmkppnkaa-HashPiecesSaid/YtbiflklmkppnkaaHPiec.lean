/-
  hash: pieces: a slice of byte slices that came in.
-/
import Derived.Test.YtbiflklmkppnkaaHDigs
import Derived.Test.YtbiflklmkppnkaaHSum
namespace Go.Proofs.Ytbiflklmkppnkaa
open Go.ChangeShapes Go.WideShapes Go.ChangeAt Go.RowKit Go.Deep

/-- a slice of byte slices -/
structure RdB (w : World) (A : Option Addr) (n c : Nat) (f : Nat → List UInt8) : Prop where
  le : n ≤ c
  max : c ≤ 9223372036854775807
  at_ : 0 < n → ∃ b o, A = some ⟨b, o, none⟩ ∧ b < w.heap.size ∧ ∀ j, j < n → ∃ A' n' c', w.cell? ⟨b, o + j, none⟩ = some (.slice A' n' c') ∧ Rd w A' n' c' (f j)
theorem RdB.ext {w w' : World} {A : Option Addr} {n c : Nat} {f : Nat → List UInt8} (h : RdB w A n c f) (k : Below w.heap.size w w') : RdB w' A n c f :=
  ⟨h.le, h.max, fun h0 => by
    obtain ⟨b, o, hA, hb, hj⟩ := h.at_ h0
    refine ⟨b, o, hA, Nat.lt_of_lt_of_le hb k.size, fun j hjn => ?_⟩
    obtain ⟨A', n', c', h1, h2⟩ := hj j hjn
    exact ⟨A', n', c', (k.cell (p := ⟨b, o + j, none⟩) hb).trans h1, h2.ext k⟩⟩

section
variable {H : Type} {enc : TypeId × Value → H}
theorem elem_bytes {t e : TypeId} (ht : Try.prog.underlying t = some (.slice e)) (he : Try.prog.underlying e = some (.int .u8)) (hc : Try.prog.cellsOf e = 1) {W : World} {fuel : Nat} {v : Value} {x : DataW H × List MemPlace}
    (hf : DataW.trod enc Try.prog W 0 (fun _ => true) true fuel t [v] = some x) : ∃ A n c bs, v = .slice A n c ∧ Rd W A n c bs := by
  rcases open_ints ht he hc hf with ⟨hcs, _⟩ | ⟨x, l, c', zs, hcs, _, hl, hm, hz, _, hcell, hwz⟩
  · simp at hcs
    subst hcs
    exact ⟨none, 0, 0, [], rfl, Rd.nil W⟩
  · simp at hcs
    subst hcs
    simp only [if_true] at hz
    have hm' : c' ≤ 9223372036854775807 := by simp only [maxLen] at hm; omega
    refine ⟨some x, l, c', (zs.take l).map (fun z => UInt8.ofNat z.toNat), rfl, by simp; omega, hl, hm', fun h0 => ?_, fun h => by cases h⟩
    obtain ⟨b, off, rfl, hc'⟩ := ints_at hcell (by omega)
    refine ⟨b, off, rfl, World.block_lt_of_cell? _ _ (hc' 0 (by omega)), fun j hj => ?_⟩
    rw [hc' j (by omega)]
    have hj2 : j < zs.length := by omega
    have hw := hwz (zs[j]) (List.getElem_mem hj2)
    simp [Lit.wf, IntKind.min, IntKind.max, IntKind.signed, IntKind.bits] at hw
    have e1 : zs.getD j 0 = zs[j] := by simp [List.getD, hj2]
    have e2 : ((zs.take l).map (fun z => UInt8.ofNat z.toNat)).getD j 0 = UInt8.ofNat (zs[j]).toNat := by
      simp [List.getD, hj, hj2]
    rw [e1, e2]
    have : (UInt8.ofNat (zs[j]).toNat).toNat = (zs[j]).toNat := by simp [UInt8.toNat_ofNat']; omega
    rw [this]
    congr 2
    omega

theorem open_pieces {t e u : TypeId} (ht : Try.prog.underlying t = some (.slice e)) (he : Try.prog.underlying e = some (.slice u)) (hu : Try.prog.underlying u = some (.int .u8)) (hcu : Try.prog.cellsOf u = 1) (hce : Try.prog.cellsOf e = 1) {W : World} {base : Nat} {v : Value} {d : DataW H} {p : List MemPlace}
    (hv : Value.okWide Try.prog W .any base t v) (h : DataW.Trod enc Try.prog W 0 (fun _ => true) true t v d p) : ∃ A n c f, v = .slice A n c ∧ RdB W A n c f := by
  obtain ⟨A, n, c, rfl⟩ := okWide_slice ht hv
  obtain ⟨fuel, hf⟩ := h
  rcases open_slice1 ht hce hf with ⟨hcs, _⟩ | ⟨a, len, cap, m, k, V, D, Pl, hcs, _, hl, hm, hmm, _, hi⟩
  · simp [Value.cells] at hcs
    obtain ⟨rfl, rfl, rfl⟩ := hcs
    exact ⟨none, 0, 0, fun _ => [], rfl, Nat.le_refl _, by omega, fun h => by omega⟩
  · simp [Value.cells] at hcs
    obtain ⟨rfl, rfl, rfl⟩ := hcs
    simp only [if_true] at hmm
    have hm' : c ≤ 9223372036854775807 := by simp only [maxLen] at hm; omega
    have ex : ∀ i, ∃ bs : List UInt8, i < n → ∃ A' n' c', W.cell? (a.add i) = some (.slice A' n' c') ∧ Rd W A' n' c' bs := fun i => by
      by_cases hin : i < n
      · obtain ⟨h1, h2⟩ := hi i (by omega)
        obtain ⟨A', n', c', bs, e, r⟩ := elem_bytes he hu hcu h2
        exact ⟨bs, fun _ => ⟨A', n', c', by rw [h1, e], r⟩⟩
      · exact ⟨[], fun h => absurd h hin⟩
    obtain ⟨f, hf'⟩ := Classical.axiomOfChoice ex
    refine ⟨some a, n, c, f, rfl, hl, hm', fun h0 => ?_⟩
    obtain ⟨b, off, spot⟩ := a
    obtain ⟨A0, n0, c0, h00, _⟩ := hf' 0 h0
    have hspot : spot = none := by simpa [Addr.add] using World.cell?_spot h00
    subst hspot
    refine ⟨b, off, rfl, World.block_lt_of_cell? _ _ h00, fun j hj => ?_⟩
    obtain ⟨A', n', c', h1, h2⟩ := hf' j hj
    rw [Addr.add_lit] at h1
    exact ⟨A', n', c', h1, h2⟩
end
#print axioms open_pieces
end Go.Proofs.Ytbiflklmkppnkaa
