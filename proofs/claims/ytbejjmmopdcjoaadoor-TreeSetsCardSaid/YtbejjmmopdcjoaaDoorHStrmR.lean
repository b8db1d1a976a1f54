/-
  hash: the document's Stream: the contract.
-/
import Derived.Test.YtbejjmmopdcjoaaDoorHStrm
import Derived.Test.YtbejjmmopdcjoaaDoorHManyR
import Derived.Test.YtbejjmmopdcjoaaDoorSchedT
import Derived.Deep.DeepCutAuto
namespace Go.Proofs.YtbejjmmopdcjoaaDoor
open Go.RowKit

theorem Own.keptNe {w w' : World} {E : TypeId} {B : Nat} {A : Option Addr} {n c : Nat} {bs : List UInt8} (h : Own w E B A n c bs) {k : Nat} (hk : w.grownBy w' (some k)) (hne : ∀ g, (Value.slice A n c).ownBlock = some g → g ≠ k) : Own w' E B A n c bs :=
  ⟨h.len, h.max, h.row.kept hk (by
    cases hv : (Value.slice A n c).ownBlock with
    | none => exact .inl rfl
    | some g => exact .inr (fun e => hne g hv (by injection e)))⟩
theorem bytesOf_getD (x k : Nat) (hk : k < 8) : (bytesOf x).getD k 0 = UInt8.ofNat (byt x k) := by
  match k, hk with
  | 0, _ => rfl
  | 1, _ => rfl
  | 2, _ => rfl
  | 3, _ => rfl
  | 4, _ => rfl
  | 5, _ => rfl
  | 6, _ => rfl
  | 7, _ => rfl
  | k + 8, h => exact absurd h (by omega)
theorem bytesOf_take (x k : Nat) (hk : k < 8) : (bytesOf x).take (k + 1) = (bytesOf x).take k ++ [UInt8.ofNat (byt x k)] := by
  have hl : k < (bytesOf x).length := hk
  rw [List.take_succ_eq_append_getElem hl, ← bytesOf_getD x k hk]
  congr 2
  simp [List.getD, hl]
theorem strm_part {s : St} {j k N : Nat} (hN : 8 * j + k = N) (hk : k ≤ 8) : strm s j ++ (bytesOf (outN (iterS j s))).take k = (strm s (j + 1)).take N := by
  show _ = (strm s j ++ bytesOf (outN (iterS j s))).take N
  rw [List.take_append, List.take_of_length_le (l := strm s j) (by rw [strm_len]; omega), strm_len, show N - 8 * j = k by omega]
theorem strm_whole {s : St} {j N : Nat} (hN : 8 * (j + 1) ≤ N) : strm s j ++ (bytesOf (outN (iterS j s))).take 8 = (strm s (j + 1)).take N := by
  show _ = (strm s (j + 1)).take N
  rw [List.take_of_length_le (l := strm s (j + 1)) (by rw [strm_len]; omega)]
  rfl
theorem digA_at' (n : Nat) (i : Nat) (h : i < 8) : (#[.int .u8 (byt n 0), .int .u8 (byt n 1), .int .u8 (byt n 2), .int .u8 (byt n 3), .int .u8 (byt n 4), .int .u8 (byt n 5), .int .u8 (byt n 6), .int .u8 (byt n 7)] : Array Value)[i]? = some (.int .u8 (byt n i)) := by
  match i, h with
  | 0, _ => rfl
  | 1, _ => rfl
  | 2, _ => rfl
  | 3, _ => rfl
  | 4, _ => rfl
  | 5, _ => rfl
  | 6, _ => rfl
  | 7, _ => rfl
  | i + 8, h => exact absurd h (by omega)
theorem Own.base {w : World} {E : TypeId} {B B' : Nat} {A : Option Addr} {n c : Nat} {bs : List UInt8} (h : Own w E B A n c bs) (hB : B' ≤ B) : Own w E B' A n c bs := by
  refine ⟨h.len, h.max, h.row.1, ?_⟩
  rcases h.row.2 with h1 | ⟨g, cap, cur, h1, h2, h3⟩
  · exact .inl h1
  · exact .inr ⟨g, cap, cur, h1, Nat.le_trans hB h2, h3⟩
theorem byte_cell {w : World} {b : Nat} {T : TypeId} {x : Nat} (h : w.heap[b]? = some (.cells #[.int .u8 (byt x 0), .int .u8 (byt x 1), .int .u8 (byt x 2), .int .u8 (byt x 3), .int .u8 (byt x 4), .int .u8 (byt x 5), .int .u8 (byt x 6), .int .u8 (byt x 7)] T (0, 0))) {k : Nat} (hk : k < 8) : w.cell? ⟨b, k, none⟩ = some (.int .u8 (byt x k)) := by
  rw [cell_of_row w b k _ _ _ h]
  have := digA_at' x k hk
  exact this

/-- a block with this state -/
def StBlk (s : St) (W : World) (x : Value) (v : World) : Prop := ∃ p, x = .pointer (some ⟨p, 0, none⟩) ∧ W.heap.size ≤ p ∧ v.heap[p]? = some (.cells #[.int .u64 s.a, .int .u64 s.b, .int .u64 s.c, .int .u64 s.d] 88 (0, 0)) ∧ Below W.heap.size W v

end Go.Proofs.YtbejjmmopdcjoaaDoor
