/-
  hash: pieces: what came in is no longer than the form's reach.
-/
import Derived.Test.YtbiflklmkppnkaaHPiec
import Derived.SizedLaws
namespace Go.Proofs.Ytbiflklmkppnkaa
open Go.ChangeShapes Go.WideShapes Go.ChangeAt Go.RowKit Go.Deep

section
variable {H : Type} {enc : TypeId × Value → H}
theorem weightsAll_mem {P : Program} {e : TypeId} : ∀ {l : List (DataW H)} {d : DataW H}, d ∈ l → ∀ n ∈ d.weights P e, n ∈ DataW.weightsAll P e l
  | d0 :: l, d, hd, n, hn => by
    simp only [DataW.weightsAll, List.mem_append]
    rcases List.mem_cons.1 hd with rfl | hd
    · exact .inl hn
    · exact .inr (weightsAll_mem hd n hn)
theorem elem_small {t e : TypeId} (ht : Try.prog.underlying t = some (.slice e)) (he : Try.prog.underlying e = some (.int .u8)) (hc : Try.prog.cellsOf e = 1) (hb : Try.prog.bytesOf e = 1) {W : World} {fuel : Nat} {A : Option Addr} {n c : Nat} {x : DataW H × List MemPlace}
    (hf : DataW.trod enc Try.prog W 0 (fun _ => true) true fuel t [.slice A n c] = some x) (hw : ∀ k ∈ x.1.weights Try.prog t, k ≤ reachBytes) : n ≤ 140737488351232 := by
  rcases open_ints ht he hc hf with ⟨hcs, _⟩ | ⟨a, l, c', zs, hcs, _, hl, hm, hz, hx, hcell, hwz⟩
  · simp at hcs
    omega
  · simp at hcs
    obtain ⟨rfl, rfl, rfl⟩ := hcs
    simp only [if_true] at hz
    rw [hx] at hw
    have := hw ((zs.take n).length * 1 + (zs.drop n).length * 1) (by
      simp only [DataW.weights, ht, hb]
      refine List.mem_cons.2 (.inl ?_)
      simp [lits])
    simp only [List.length_take, List.length_drop, reachBytes] at this
    omega

theorem open_piecesS {t e u : TypeId} (ht : Try.prog.underlying t = some (.slice e)) (he : Try.prog.underlying e = some (.slice u)) (hu : Try.prog.underlying u = some (.int .u8)) (hcu : Try.prog.cellsOf u = 1) (hbu : Try.prog.bytesOf u = 1) (hce : Try.prog.cellsOf e = 1) {W : World} {base : Nat} {v : Value} {d : DataW H} {p : List MemPlace}
    (hv : Value.okWide Try.prog W .any base t v) (h : DataW.Trod enc Try.prog W 0 (fun _ => true) true t v d p) (hw : ∀ k ∈ d.weights Try.prog t, k ≤ reachBytes) : ∃ A n c f, v = .slice A n c ∧ RdB W A n c f ∧ ∀ j, j < n → (f j).length ≤ 140737488351232 := by
  obtain ⟨A, n, c, rfl⟩ := okWide_slice ht hv
  obtain ⟨fuel, hf⟩ := h
  rcases open_slice1 ht hce hf with ⟨hcs, _⟩ | ⟨a, len, cap, m, k, V, D, Pl, hcs, _, hl, hm, hmm, hx, hi⟩
  · simp [Value.cells] at hcs
    obtain ⟨rfl, rfl, rfl⟩ := hcs
    exact ⟨none, 0, 0, fun _ => [], rfl, ⟨Nat.le_refl _, by omega, fun h => by omega⟩, fun j hj => by omega⟩
  · simp [Value.cells] at hcs
    obtain ⟨rfl, rfl, rfl⟩ := hcs
    simp only [if_true] at hmm
    have hm' : c ≤ 9223372036854775807 := by simp only [maxLen] at hm; omega
    have hd : d = .slice ((List.range n).map D) ((List.range (m - n)).map fun j => D (n + j)) := congrArg Prod.fst hx
    have ex : ∀ i, ∃ bs : List UInt8, i < n → (∃ A' n' c', W.cell? (a.add i) = some (.slice A' n' c') ∧ Rd W A' n' c' bs) ∧ bs.length ≤ 140737488351232 := fun i => by
      by_cases hin : i < n
      · obtain ⟨h1, h2⟩ := hi i (by omega)
        obtain ⟨A', n', c', bs, e', r⟩ := elem_bytes he hu hcu h2
        rw [e'] at h2
        have hs := elem_small he hu hcu hbu h2 (fun k hk => hw k (by
          rw [hd]
          simp only [DataW.weights, ht]
          refine List.mem_cons.2 (.inr (List.mem_append.2 (.inl ?_)))
          exact weightsAll_mem (List.mem_map.2 ⟨i, List.mem_range.2 hin, rfl⟩) k hk))
        exact ⟨bs, fun _ => ⟨⟨A', n', c', by rw [h1, e'], r⟩, by rw [r.len]; exact hs⟩⟩
      · exact ⟨[], fun h => absurd h hin⟩
    obtain ⟨f, hf'⟩ := Classical.axiomOfChoice ex
    refine ⟨some a, n, c, f, rfl, ⟨hl, hm', fun h0 => ?_⟩, fun j hj => (hf' j hj).2⟩
    obtain ⟨b, off, spot⟩ := a
    obtain ⟨⟨A0, n0, c0, h00, _⟩, _⟩ := hf' 0 h0
    have hspot : spot = none := by simpa [Addr.add] using World.cell?_spot h00
    subst hspot
    refine ⟨b, off, rfl, World.block_lt_of_cell? _ _ h00, fun j hj => ?_⟩
    obtain ⟨⟨A', n', c', h1, h2⟩, _⟩ := hf' j hj
    rw [Addr.add_lit] at h1
    exact ⟨A', n', c', h1, h2⟩
end
#print axioms open_piecesS
end Go.Proofs.Ytbiflklmkppnkaa
