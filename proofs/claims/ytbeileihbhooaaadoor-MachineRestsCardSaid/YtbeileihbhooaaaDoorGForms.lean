/-
  code: the table of what operations have, as the condition says it.
-/
import Derived.Test.YtbeileihbhooaaaDoorGPure
import Derived.Test.YtbeileihbhooaaaDoorRows
import Derived.ProofKit
import Derived.LaidMore
import Derived.MakeChecks
import Derived.OpenShut
import Derived.ChangeArms
import Derived.Stop.Joined
namespace Go.Proofs.YtbeileihbhooaaaDoor
open Go.ChangeShapes Go.WideShapes Go.ChangeAt Go.RowKit

theorem gForms : Tryd.prog.globalNamed "baize/code.forms" = some 0 := by kernel_rfl
theorem tForms : (Tryd.prog.globals[0]?).map (·.type) = some 88 := by kernel_rfl

/-- the table in memory -/
structure Forms (w : World) : Prop where
  lt : 0 < w.heap.size
  name : ∀ o, o < 22 → w.cell? ⟨0, o * 2, none⟩ = some (.string ⟨(nameB o).toArray⟩)
  has : ∀ o, o < 22 → w.cell? ⟨0, o * 2 + 1, none⟩ = some (.string ⟨(hasB o).toArray⟩)
theorem Forms.ext {w w' : World} (h : Forms w) (k : Below w.heap.size w w') : Forms w' :=
  ⟨Nat.lt_of_lt_of_le h.lt k.size, fun o ho => (k.cell (p := ⟨0, o * 2, none⟩) h.lt).trans (h.name o ho), fun o ho => (k.cell (p := ⟨0, o * 2 + 1, none⟩) h.lt).trans (h.has o ho)⟩

theorem laid_forms_eq : (Rows.laid_baize_code_forms : DataW Unit) = .agg ((List.range 22).map fun o => .agg [.lit (.string (nameB o)), .lit (.string (hasB o))]) := by rfl

theorem forms_of {W : World} (h : laidMetH Tryd.prog [("baize/code.forms", Rows.laid_baize_code_forms)] W) : Forms W := by
  rw [MakeChecks.laidMetH_plain _ _ _ (by kernel_rfl)] at h
  obtain ⟨ps, ⟨g0, t0, cs0, f0, p0, q0, hg0, ht0, hv0, hd0, _, _⟩, _, _⟩ := h
  obtain rfl := Option.some.inj (gForms.symm.trans hg0)
  obtain rfl := Option.some.inj (tForms.symm.trans ht0)
  obtain ⟨xs, m1, rfl, hx1, hlen, hn3, hel⟩ := DataW.trod_array Tryd.underlying88 hd0
  have c2 : Tryd.prog.cellsOf 87 = 2 := by kernel_rfl
  have c1 : Tryd.prog.cellsOf 9 = 1 := by kernel_rfl
  rw [laid_forms_eq] at hx1
  simp only [Prod.mk.injEq, DataW.agg.injEq] at hx1
  have key : ∀ o, o < 22 → cs0[o * 2]? = some (.string ⟨(nameB o).toArray⟩) ∧ cs0[o * 2 + 1]? = some (.string ⟨(hasB o).toArray⟩) := fun o ho => by
    have he := hel o ho
    have hxo : xs[o]? = some (xs[o]'(by omega)) := List.getElem?_eq_getElem (by omega)
    rw [hxo, c2] at he
    obtain ⟨y0, y1, n, hx, hcl, h0, h1⟩ := trod_struct2 Tryd.underlying87 he
    have hm : (xs.map (·.1))[o]? = some (.agg [.lit (.string (nameB o)), .lit (.string (hasB o))]) := by
      rw [← hx1.1, List.getElem?_map, List.getElem?_range ho]; rfl
    rw [List.getElem?_map, hxo] at hm
    simp only [Option.map_some, Option.some.injEq] at hm
    rw [hx] at hm
    simp only [DataW.agg.injEq, List.cons.injEq, and_true] at hm
    rw [c1] at h0 h1
    obtain ⟨s0, e0, z0, _⟩ := DataW.trod_string Tryd.underlying9 h0
    obtain ⟨s1, e1, z1, _⟩ := DataW.trod_string Tryd.underlying9 h1
    have k0 : s0.data.toList = nameB o := by have := hm.1; rw [z0] at this; simpa using this
    have k1 : s1.data.toList = hasB o := by have := hm.2; rw [z1] at this; simpa using this
    have f0 : s0 = ⟨(nameB o).toArray⟩ := by rw [← k0]
    have f1 : s1 = ⟨(hasB o).toArray⟩ := by rw [← k1]
    have l2 : ((cs0.toList.drop (o * 2)).take 2).length = 2 := by rw [hcl, c2]
    have q0 : ((cs0.toList.drop (o * 2)).take 2)[0]? = some (.string s0) := by
      have := congrArg (fun l => l[0]?) e0
      simpa [List.getElem?_take, List.getElem?_drop] using this
    have q1 : ((cs0.toList.drop (o * 2)).take 2)[1]? = some (.string s1) := by
      have := congrArg (fun l => l[0]?) e1
      simpa [List.getElem?_take, List.getElem?_drop] using this
    refine ⟨?_, ?_⟩
    · rw [f0] at q0
      simpa [List.getElem?_take, List.getElem?_drop] using q0
    · rw [f1] at q1
      simpa [List.getElem?_take, List.getElem?_drop] using q1
  refine ⟨?_, fun o ho => ?_, fun o ho => ?_⟩
  · have := World.var?_cell gForms hv0 (0 * 2)
    rw [(key 0 (by omega)).1] at this
    exact World.block_lt_of_cell? _ _ this
  · rw [World.var?_cell gForms hv0 (o * 2)]; exact (key o ho).1
  · rw [World.var?_cell gForms hv0 (o * 2 + 1)]; exact (key o ho).2
#print axioms forms_of
end Go.Proofs.YtbeileihbhooaaaDoor
