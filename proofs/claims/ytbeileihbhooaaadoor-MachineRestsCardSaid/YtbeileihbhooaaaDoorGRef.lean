/-
  code: the words that an instruction reads: the document's contract.
-/
import Derived.Test.YtbeileihbhooaaaDoorGReads
import Derived.Test.YtbeileihbhooaaaDoorSchedC
import Derived.Deep.CutBlock
namespace Go.Proofs.YtbeileihbhooaaaDoor
open Go.RowKit

theorem run_index_aggG {P : Program} {t e : TypeId} {n : Nat} {cs : Array Value} {k : IntKind} {i : Int} {v : Value} (h : P.underlying t = some (.array n e)) (h0 : 0 ≤ i) (hn : i < n) (hs : (P.info? e).map (·.size) = some 1) (hp : P.plainKey e = true)
    (hv : cs[i.toNat]? = some v) (w : World) : (Instr.index t (.agg cs) (.int k i)).run P w = .ok v w := by
  have hi : 0 ≤ i ∧ i < (n : Int) := ⟨h0, hn⟩
  obtain ⟨y, hy, hy2⟩ := Option.map_eq_some_iff.1 hs
  have hz : (sizeOf e).run P w = .ok 1 w := by simp [sizeOf, typeInfo, hy, hy2]
  have hpart := run_part_plain (w := w) hp (xs := cs) (off := i.toNat) hv
  simp [Instr.index, run_underlying h, asIntOf, hi, hz, hpart]

theorem which_len (o : Int) : (whichB o).length ≤ 2 := by
  unfold whichB
  split
  · simp
  · split
    · simp
    · split
      · simp
      · split <;> simp
theorem which_mem (o : Int) {k : Nat} (hk : k < (whichB o).length) : 97 ≤ ((whichB o).getD k 0).toNat ∧ ((whichB o).getD k 0).toNat ≤ 99 := by
  have h2 := which_len o
  have hk2 : k = 0 ∨ k = 1 := by omega
  revert hk
  unfold whichB
  split
  · rcases hk2 with rfl | rfl <;> simp
  · split
    · rcases hk2 with rfl | rfl <;> simp
    · split
      · rcases hk2 with rfl | rfl <;> simp
      · split
        · rcases hk2 with rfl | rfl <;> simp
        · simp

theorem rreadsF_yes {wh : List UInt8} {t : Nat → Int} {k : Nat} (h : rreadsF wh t k = [] ∨ (rreadsF wh t k).getD 0 0 ≠ t ((wh.getD k 0).toNat - 97)) : rreadsF wh t (k + 1) = rreadsF wh t k ++ [t ((wh.getD k 0).toNat - 97)] := by
  conv => lhs; unfold rreadsF
  rw [if_pos h]
theorem rreadsF_no {wh : List UInt8} {t : Nat → Int} {k : Nat} (h : ¬ (rreadsF wh t k = [] ∨ (rreadsF wh t k).getD 0 0 ≠ t ((wh.getD k 0).toNat - 97))) : rreadsF wh t (k + 1) = rreadsF wh t k := by
  conv => lhs; unfold rreadsF
  rw [if_neg h]

end Go.Proofs.YtbeileihbhooaaaDoor
