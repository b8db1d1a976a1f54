/-
  tree: roots and paths of whatever leaves: contracts.
-/
import Derived.Test.YtbejjmmopdcjoaaDoorTPath
import Derived.Test.YtbejjmmopdcjoaaDoorTRef2
import Derived.Test.YtbejjmmopdcjoaaDoorTLawF
import Derived.Test.YtbejjmmopdcjoaaDoorTTold
namespace Go.Proofs.YtbejjmmopdcjoaaDoor
open Go.RowKit Go.Deep

def rootV (l : List Nat) : Nat × Int := if 1 ≤ l.length ∧ l.length ≤ 4096 then (treeN l (hgt l.length), 0) else (0, 2)
theorem rootV_lt {l : List Nat} (h : Small l) : (rootV l).1 < 18446744073709551616 := by
  unfold rootV
  split
  · exact treeN_lt h _
  · show 0 < _; omega
def pathV (l : List Nat) (i : Int) : List Nat × Int := if 1 ≤ l.length ∧ l.length ≤ 4096 then (if 0 ≤ i ∧ i < (l.length : Int) then (pathN l i.toNat (hgt l.length), 0) else ([], 9)) else ([], 2)
theorem pathV_small {l : List Nat} (h : Small l) (i : Int) : Small (pathV l i).1 := by
  unfold pathV
  split
  · split
    · exact pathN_small h _ _
    · exact small_nil
  · exact small_nil
theorem rd_some {w : World} {A : Option Addr} {n c : Nat} {l : List Nat} (h : RdD w A n c l) (h1 : 1 ≤ n) : ∃ b o, A = some ⟨b, o, none⟩ := by
  obtain ⟨b, o, hA, _⟩ := h.cells (by omega)
  exact ⟨b, o, hA⟩
theorem root_c (w : World) (A : Option Addr) (n c : Nat) (l : List Nat) (h : Hid (RdD w A n c l)) : Calls Tryd.prog 12 #[.slice A n c] w (Hands (.tuple #[digV (rootV l).1, .int .i64 (rootV l).2]) w) := by
  have HL := h.out.len
  have hle := h.out.le
  have hmx := h.out.max
  unfold rootV
  rw [HL]
  by_cases h0 : 1 ≤ n ∧ n ≤ 4096
  · rw [if_pos h0]
    obtain ⟨b, o, rfl⟩ := rd_some h.out h0.1
    exact root_ok w b o n c l h h0.1 h0.2
  · rw [if_neg h0]
    exact root_no w A n c (by omega) h0
theorem rroot_c (w : World) (A : Option Addr) (n c : Nat) (l : List Nat) (h : Hid (RdD w A n c l)) : Calls Tryd.prog 13 #[.slice A n c] w (Hands (.tuple #[digV (rootV l).1, .int .i64 (rootV l).2]) w) := by
  have HL := h.out.len
  have hle := h.out.le
  have hmx := h.out.max
  unfold rootV
  rw [HL]
  by_cases h0 : 1 ≤ n ∧ n ≤ 4096
  · rw [if_pos h0]
    exact rroot_ok w A n c l h h0.1 h0.2
  · rw [if_neg h0]
    exact rroot_no w A n c (by omega) h0
theorem path_c (w : World) (A : Option Addr) (n c : Nat) (l : List Nat) (i : Int) (h : Hid (RdD w A n c l)) : Calls Tryd.prog 18 #[.slice A n c, .int .i64 i] w (Paths w (pathV l i).2 (pathV l i).1) := by
  have HL := h.out.len
  have hle := h.out.le
  have hmx := h.out.max
  unfold pathV
  rw [HL]
  by_cases h0 : 1 ≤ n ∧ n ≤ 4096
  · rw [if_pos h0]
    obtain ⟨b, o, rfl⟩ := rd_some h.out h0.1
    by_cases hi : 0 ≤ i ∧ i < (n : Int)
    · rw [if_pos hi]
      obtain ⟨m, rfl⟩ : ∃ m : Nat, i = (m : Int) := ⟨i.toNat, by omega⟩
      rw [Int.toNat_natCast]
      exact path_ok w b o n c l m h h0.1 h0.2 (by omega)
    · rw [if_neg hi]
      exact path_out w b o n c l i h h0.1 h0.2 hi
  · rw [if_neg h0]
    exact path_no w A n c i (by omega) h0
theorem rpath_c (w : World) (A : Option Addr) (n c : Nat) (l : List Nat) (i : Int) (h : Hid (RdD w A n c l)) : Calls Tryd.prog 19 #[.slice A n c, .int .i64 i] w (PathsR w (pathV l i).2 (pathV l i).1) := by
  have HL := h.out.len
  have hle := h.out.le
  have hmx := h.out.max
  unfold pathV
  rw [HL]
  by_cases h0 : 1 ≤ n ∧ n ≤ 4096
  · rw [if_pos h0]
    by_cases hi : 0 ≤ i ∧ i < (n : Int)
    · rw [if_pos hi]
      obtain ⟨m, rfl⟩ : ∃ m : Nat, i = (m : Int) := ⟨i.toNat, by omega⟩
      rw [Int.toNat_natCast]
      exact rpath_ok w A n c l m h h0.1 h0.2 (by omega)
    · rw [if_neg hi]
      exact rpath_out w A n c i h0.1 h0.2 hi
  · rw [if_neg h0]
    exact rpath_no w A n c i (by omega) h0
#print axioms path_c
#print axioms rpath_c
end Go.Proofs.YtbejjmmopdcjoaaDoor
