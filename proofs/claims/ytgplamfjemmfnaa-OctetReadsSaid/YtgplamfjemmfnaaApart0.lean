/-
  rows of the call's own that are written: what stays.
-/
import Derived.Test.YtgplamfjemmfnaaPushG
import Derived.Test.YtgplamfjemmfnaaReader
import Derived.Laws.OwnMore
namespace Go.Proofs.Ytgplamfjemmfnaa
open Go.RowKit

theorem Own.blockless {w : World} {E : TypeId} {B : Nat} {A : Option Addr} {n c : Nat} {bs : List UInt8} (h : Own w E B A n c bs) (hn : 0 < n) : ∃ g, A = some ⟨g, 0, none⟩ ∧ B ≤ g ∧ g < w.heap.size := by
  rcases h.row.2 with ⟨hv, h1⟩ | ⟨g, cap, cur, hv, hb, hg, _⟩
  · omega
  · injection hv with e1 e2 e3
    exact ⟨g, e1, hb, (Array.getElem?_eq_some_iff.1 hg).1⟩

theorem Own.get {w : World} {E : TypeId} {B g n c : Nat} {bs : List UInt8} (h : Own w E B (some ⟨g, 0, none⟩) n c bs) {j : Nat} (hj : j < n) : ∃ x : UInt8, w.cell? ⟨g, j, none⟩ = some (.int .u8 x.toNat) := by
  refine ⟨bs.getD j 0, ?_⟩
  rw [h.row.cellAt j (by omega), U8_getD (by rw [h.len]; exact hj)]

theorem Own.set {w : World} {E : TypeId} {B g n c : Nat} {bs : List UInt8} (h : Own w E B (some ⟨g, 0, none⟩) n c bs) (j : Nat) (x : UInt8) :
    Own (w.setCell ⟨g, j, none⟩ (.int .u8 x.toNat)) E B (some ⟨g, 0, none⟩) n c (bs.set j x) ∧ w.grownBy (w.setCell ⟨g, j, none⟩ (.int .u8 x.toNat)) (some g) := by
  obtain ⟨h1, h2⟩ := h.row.stored j (.int .u8 x.toNat)
  refine ⟨⟨by rw [List.length_set]; exact h.len, h.max, ?_⟩, h2⟩
  rw [show U8 (bs.set j x) = (U8 bs).set j (.int .u8 x.toNat) by simp [U8, List.map_set]]
  exact h1

theorem Own.kept {w w' : World} {E : TypeId} {B : Nat} {A : Option Addr} {n c : Nat} {bs : List UInt8} (h : Own w E B A n c bs) {row : Option Nat} (k : w.grownBy w' row) (hr : ∀ g, row = some g → g < B) : Own w' E B A n c bs :=
  ⟨h.len, h.max, h.row.kept k (by
    cases hv : (Value.slice A n c).ownBlock with
    | none => exact .inl rfl
    | some g =>
      refine .inr fun e => ?_
      have h1 := (h.row.lt g hv).1
      have h2 := hr g e.symm
      omega)⟩

theorem Own.row_ge {w : World} {E : TypeId} {B : Nat} {A : Option Addr} {n c : Nat} {bs : List UInt8} (h : Own w E B A n c bs) : ∀ k, (Value.slice A n c).ownBlock = some k → B ≤ k ∧ k < w.heap.size := h.row.lt

theorem grown_step {a b c : World} {row : Option Nat} (h : a.grownBy b row) (k : b.grownBy c row) : a.grownBy c row :=
  ⟨k.os.trans h.os, k.tape.trans h.tape, k.output.trans h.output, Nat.le_trans h.size k.size, fun i hi hk => (k.block i (Nat.lt_of_lt_of_le hi h.size) hk).trans (h.block i hi hk)⟩

/-- one more, as a byte -/
theorem u8_more (x : UInt8) : ∃ y : UInt8, ((x.toNat : Int) + 1) % 256 = (y.toNat : Int) := by
  refine ⟨UInt8.ofNat (x.toNat + 1), ?_⟩
  have : (UInt8.ofNat (x.toNat + 1)).toNat = (x.toNat + 1) % 256 := by simp
  rw [this]
  omega
#print axioms u8_more
end Go.Proofs.Ytgplamfjemmfnaa
