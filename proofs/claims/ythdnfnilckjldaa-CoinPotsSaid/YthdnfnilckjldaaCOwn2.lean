/-
  rows of numbers of the call's own that are written.
-/
import Derived.Test.YthdnfnilckjldaaCOwn
import Derived.Test.YthdnfnilckjldaaCAlike
namespace Go.Proofs.Ythdnfnilckjldaa
open Go.RowKit

theorem OwnI.blockless {w : World} {E : TypeId} {B : Nat} {A : Option Addr} {n c : Nat} {bs : List Int} (h : OwnI w E B A n c bs) (hn : 0 < n) : ∃ g, A = some ⟨g, 0, none⟩ ∧ B ≤ g ∧ g < w.heap.size := by
  rcases h.row.2 with ⟨hv, h1⟩ | ⟨g, cap, cur, hv, hb, hg, _⟩
  · omega
  · injection hv with e1 e2 e3
    exact ⟨g, e1, hb, (Array.getElem?_eq_some_iff.1 hg).1⟩

theorem OwnI.get {w : World} {E : TypeId} {B g n c : Nat} {bs : List Int} (h : OwnI w E B (some ⟨g, 0, none⟩) n c bs) {j : Nat} (hj : j < n) : w.cell? ⟨g, j, none⟩ = some (.int .i64 (bs.getD j 0)) := by
  rw [h.row.cellAt j (by omega), I64_getD (by rw [h.len]; exact hj)]

theorem OwnI.set {w : World} {E : TypeId} {B g n c : Nat} {bs : List Int} (h : OwnI w E B (some ⟨g, 0, none⟩) n c bs) (j : Nat) (x : Int) :
    OwnI (w.setCell ⟨g, j, none⟩ (.int .i64 x)) E B (some ⟨g, 0, none⟩) n c (bs.set j x) ∧ w.grownBy (w.setCell ⟨g, j, none⟩ (.int .i64 x)) (some g) := by
  obtain ⟨h1, h2⟩ := h.row.stored j (.int .i64 x)
  refine ⟨⟨by rw [List.length_set]; exact h.len, h.max, ?_⟩, h2⟩
  rw [show I64 (bs.set j x) = (I64 bs).set j (.int .i64 x) by simp [I64, List.map_set]]
  exact h1

theorem OwnI.kept {w w' : World} {E : TypeId} {B : Nat} {A : Option Addr} {n c : Nat} {bs : List Int} (h : OwnI w E B A n c bs) {row : Option Nat} (k : w.grownBy w' row) (hr : ∀ g, row = some g → g < B) : OwnI w' E B A n c bs :=
  ⟨h.len, h.max, h.row.kept k (by
    cases hv : (Value.slice A n c).ownBlock with
    | none => exact .inl rfl
    | some g =>
      refine .inr fun e => ?_
      have h1 := (h.row.lt g hv).1
      have h2 := hr g e.symm
      omega)⟩

theorem OwnI.row_ge {w : World} {E : TypeId} {B : Nat} {A : Option Addr} {n c : Nat} {bs : List Int} (h : OwnI w E B A n c bs) : ∀ k, (Value.slice A n c).ownBlock = some k → B ≤ k ∧ k < w.heap.size := h.row.lt

theorem grown_stepI {a b c : World} {row : Option Nat} (h : a.grownBy b row) (k : b.grownBy c row) : a.grownBy c row :=
  ⟨k.os.trans h.os, k.tape.trans h.tape, k.output.trans h.output, Nat.le_trans h.size k.size, fun i hi hk => (k.block i (Nat.lt_of_lt_of_le hi h.size) hk).trans (h.block i hi hk)⟩

#print axioms OwnI.kept
end Go.Proofs.Ythdnfnilckjldaa
