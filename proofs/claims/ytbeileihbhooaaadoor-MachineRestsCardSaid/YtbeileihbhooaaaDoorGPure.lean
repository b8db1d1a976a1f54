/-
  code: what operations have, what instructions read and write and where they may go on: plain functions. No program is named here.
-/
import Derived.WalkKit
namespace Go.Proofs.YtbeileihbhooaaaDoor

def hasT : List (List UInt8) := [[110], [119, 110], [119, 114], [119, 114, 114], [119, 114, 114], [119, 114, 114], [119, 114, 114], [119, 114, 114], [119, 114, 114], [119, 114, 114], [119, 114, 114], [119, 114, 114], [119, 114, 114], [119, 114, 114], [119, 114], [119, 98, 114], [98, 114, 114], [99, 110, 110], [119, 114, 110], [112], [112, 114], [112, 114]]
def nameT : List (List UInt8) := [[104, 97, 108, 116], [115, 101, 116], [109, 111, 118, 101], [97, 100, 100], [115, 117, 98], [109, 117, 108], [100, 105, 118], [114, 101, 109], [101, 113], [110, 101], [108, 116], [108, 101], [97, 110, 100], [111, 114], [110, 111, 116], [108, 111, 97, 100], [115, 116, 111, 114, 101], [99, 117, 116], [119, 105, 116, 104, 105, 110], [106, 117, 109, 112], [106, 122], [106, 110, 122]]
/-- what an operation has, of A, B and C -/
def hasB (o : Nat) : List UInt8 := hasT.getD o []
def nameB (o : Nat) : List UInt8 := nameT.getD o []
theorem hasB_len : ∀ o, o < 22 → 1 ≤ (hasB o).length ∧ (hasB o).length ≤ 3 := by decide
theorem nameB_len : ∀ o, o < 22 → (nameB o).length ≤ 6 := by decide
/-- of three numbers one -/
def three (a b c : Int) (k : Nat) : Int := if k = 0 then a else if k = 1 then b else c

/-- the words that are read, of the first k -/
def readsF (has : List UInt8) (t : Nat → Int) : Nat → List Int
  | 0 => []
  | k + 1 => if (has.getD k 0 = 114 ∨ has.getD k 0 = 99) ∧ ¬ t k ∈ readsF has t k then readsF has t k ++ [t k] else readsF has t k
theorem readsF_len (has : List UInt8) (t : Nat → Int) : ∀ k, (readsF has t k).length ≤ k
  | 0 => Nat.le_refl _
  | k + 1 => by
    have := readsF_len has t k
    unfold readsF
    split
    · rw [List.length_append, List.length_singleton]; omega
    · omega
def readsV (o a b c : Int) : List Int := if 0 ≤ o ∧ o < 22 then readsF (hasB o.toNat) (three a b c) (hasB o.toNat).length else []
theorem readsV_len (o a b c : Int) : (readsV o a b c).length ≤ 3 := by
  unfold readsV
  split
  · rename_i h
    have h1 := readsF_len (hasB o.toNat) (three a b c) (hasB o.toNat).length
    have h2 := hasB_len o.toNat (by omega)
    omega
  · simp
/-- the document's: which of A, B, C -/
def whichB (o : Int) : List UInt8 :=
  if o = 2 ∨ o = 14 ∨ o = 18 ∨ o = 20 ∨ o = 21 then [98]
  else if (3 ≤ o ∧ o ≤ 13) ∨ o = 16 then [98, 99]
  else if o = 15 then [99]
  else if o = 17 then [97]
  else []
def rreadsF (wh : List UInt8) (t : Nat → Int) : Nat → List Int
  | 0 => []
  | k + 1 => if rreadsF wh t k = [] ∨ (rreadsF wh t k).getD 0 0 ≠ t ((wh.getD k 0).toNat - 97) then rreadsF wh t k ++ [t ((wh.getD k 0).toNat - 97)] else rreadsF wh t k
theorem rreadsF_len (wh : List UInt8) (t : Nat → Int) : ∀ k, (rreadsF wh t k).length ≤ k
  | 0 => Nat.le_refl _
  | k + 1 => by
    have := rreadsF_len wh t k
    unfold rreadsF
    split
    · rw [List.length_append, List.length_singleton]; omega
    · omega
theorem rreads_eq (o a b c : Int) : rreadsF (whichB o) (three a b c) (whichB o).length = readsV o a b c := by
  unfold readsV
  by_cases h : 0 ≤ o ∧ o < 22
  · rw [if_pos h]
    obtain ⟨n, rfl⟩ : ∃ n : Nat, o = (n : Int) := ⟨o.toNat, by omega⟩
    rw [Int.toNat_natCast]
    have hn : n < 22 := by omega
    clear h
    revert n
    intro n hn
    have : n = 0 ∨ n = 1 ∨ n = 2 ∨ n = 3 ∨ n = 4 ∨ n = 5 ∨ n = 6 ∨ n = 7 ∨ n = 8 ∨ n = 9 ∨ n = 10 ∨ n = 11 ∨ n = 12 ∨ n = 13 ∨ n = 14 ∨ n = 15 ∨ n = 16 ∨ n = 17 ∨ n = 18 ∨ n = 19 ∨ n = 20 ∨ n = 21 := by omega
    rcases this with h | h | h | h | h | h | h | h | h | h | h | h | h | h | h | h | h | h | h | h | h | h <;> subst h <;> by_cases e : c = b <;> simp [whichB, rreadsF, readsF, hasB, hasT, three, e, eq_comm]
    all_goals (intro h; exact e h.symm)
  · rw [if_neg h]
    have : whichB o = [] := by
      unfold whichB
      rw [if_neg (by omega), if_neg (by omega), if_neg (by omega), if_neg (by omega)]
    rw [this]; rfl
/-- the word that is written -/
def writesV (o a : Int) : Int := if o < 1 ∨ o = 16 ∨ 18 < o then -1 else a
/-- where it may go on -/
def nextV (o a i : Int) : List Int := if o < 1 ∨ 21 < o then [] else if o = 19 then [a] else if 19 < o ∧ a ≠ i + 1 then [i + 1, a] else [i + 1]
/-- may an instruction be? -/
def partOk (has : List UInt8) (t : Nat → Int) (size words : Int) (k : Nat) : Bool :=
  if has.length ≤ k then decide (t k = 0)
  else if has.getD k 0 = 110 then decide (-2147483648 ≤ t k ∧ t k ≤ 2147483647)
  else if has.getD k 0 = 112 then decide (0 ≤ t k ∧ t k < size)
  else decide (0 ≤ t k ∧ t k < words)
def rightV (o a b c size words : Int) : Bool :=
  decide (0 ≤ o ∧ o < 22) && partOk (hasB o.toNat) (three a b c) size words 0 && partOk (hasB o.toNat) (three a b c) size words 1 && partOk (hasB o.toNat) (three a b c) size words 2 &&
    (if o = 0 then decide (a = 0 ∨ a = 1) else if o = 17 then decide (b ≤ c) else if o = 18 then decide (0 ≤ c) else true)
#print axioms rreads_eq
end Go.Proofs.YtbeileihbhooaaaDoor
