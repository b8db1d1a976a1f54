/-
  hash: slices of digests; Many: the contract.
-/
import Derived.Test.YtbejjmmopdcjoaaDoorHStrm
namespace Go.Proofs.YtbejjmmopdcjoaaDoor
open Go.RowKit

/-- a slice that reads as the digests of these numbers; it may be nil -/
structure RdD (w : World) (A : Option Addr) (n c : Nat) (xs : List Nat) : Prop where
  len : xs.length = n
  le : n ≤ c
  max : c ≤ 9223372036854775807
  cells : 0 < n → ∃ b o, A = some ⟨b, o, none⟩ ∧ b < w.heap.size ∧ ∀ j, j < n → ∀ i, i < 8 → w.cell? ⟨b, o + (j * 8 + i), none⟩ = some (.int .u8 (byt (xs.getD j 0) i))
  none_ : A = none → c = 0
  small : ∀ x ∈ xs, x < 18446744073709551616
theorem RdD.ext {w w' : World} {A : Option Addr} {n c : Nat} {xs : List Nat} (h : RdD w A n c xs) (k : Below w.heap.size w w') : RdD w' A n c xs :=
  ⟨h.len, h.le, h.max, fun hn => by
    obtain ⟨b, o, hA, hb, hc⟩ := h.cells hn
    exact ⟨b, o, hA, Nat.lt_of_lt_of_le hb k.size, fun j hj i hi => (k.cell (p := ⟨b, o + (j * 8 + i), none⟩) hb).trans (hc j hj i hi)⟩, h.none_, h.small⟩

/-- the cells of one of them, as a walk spells them -/
theorem RdD.at {w : World} {A : Option Addr} {n c : Nat} {xs : List Nat} (h : RdD w A n c xs) {k : Nat} (hk : k < n) : ∃ b o, A = some ⟨b, o, none⟩ ∧ b < w.heap.size ∧ w.cell? ⟨b, o + k * 8, none⟩ = some (.int .u8 (byt (xs.getD k 0) 0)) ∧ w.cell? ⟨b, o + k * 8 + 1, none⟩ = some (.int .u8 (byt (xs.getD k 0) 1)) ∧ w.cell? ⟨b, o + k * 8 + 2, none⟩ = some (.int .u8 (byt (xs.getD k 0) 2)) ∧ w.cell? ⟨b, o + k * 8 + 3, none⟩ = some (.int .u8 (byt (xs.getD k 0) 3)) ∧ w.cell? ⟨b, o + k * 8 + 4, none⟩ = some (.int .u8 (byt (xs.getD k 0) 4)) ∧ w.cell? ⟨b, o + k * 8 + 5, none⟩ = some (.int .u8 (byt (xs.getD k 0) 5)) ∧ w.cell? ⟨b, o + k * 8 + 6, none⟩ = some (.int .u8 (byt (xs.getD k 0) 6)) ∧ w.cell? ⟨b, o + k * 8 + 7, none⟩ = some (.int .u8 (byt (xs.getD k 0) 7)) := by
  obtain ⟨b, o, hA, hb, hc⟩ := h.cells (by omega)
  have q := hc k hk
  exact ⟨b, o, hA, hb, q 0 (by omega), q 1 (by omega), q 2 (by omega), q 3 (by omega), q 4 (by omega), q 5 (by omega), q 6 (by omega), q 7 (by omega)⟩

def manyS : St → List Nat → St
  | s, [] => s
  | s, x :: xs => manyS (takeN s x) xs
theorem manyS_on {s : St} {xs : List Nat} {k : Nat} {p : St} (h : manyS s (xs.drop k) = p) (hk : k < xs.length) : manyS (takeN s (xs.getD k 0)) (xs.drop (k + 1)) = p := by
  rw [List.drop_eq_getElem_cons hk, manyS] at h
  have e : xs[k] = xs.getD k 0 := by simp [hk]
  rw [e] at h
  exact h
theorem manyS_end {s : St} {xs : List Nat} {p : St} (h : manyS s (xs.drop xs.length) = p) : s = p := by
  rw [List.drop_length, manyS] at h
  exact h
theorem manyS_ok : ∀ (xs : List Nat) {s : St}, s.Ok → (∀ x ∈ xs, x < 18446744073709551616) → (manyS s xs).Ok
  | [], _, h, _ => h
  | x :: xs, _, h, hx => manyS_ok xs (takeN_ok h (hx x (List.mem_cons_self ..))) (fun y hy => hx y (List.mem_cons_of_mem _ hy))
def manyN (xs : List Nat) : Nat := outN (takeN (manyS (begin 5) xs) xs.length)
theorem manyN_lt {xs : List Nat} (h : ∀ x ∈ xs, x < 18446744073709551616) (hl : xs.length < 18446744073709551616) : manyN xs < 18446744073709551616 :=
  outN_lt (takeN_ok (manyS_ok xs (begin_ok (by omega)) h) hl)
theorem getD_lt {xs : List Nat} {k : Nat} (h : ∀ x ∈ xs, x < 18446744073709551616) (hk : k < xs.length) : xs.getD k 0 < 18446744073709551616 :=
  h _ (by rw [show xs.getD k 0 = xs[k] by simp [hk]]; exact List.getElem_mem _)

end Go.Proofs.YtbejjmmopdcjoaaDoor
