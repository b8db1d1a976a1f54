/-
  once: what all digits of a message make together; eight bytes as they are told from digits.
-/
import Derived.Test.YtbhibfdlkahagaaOKnown
import Derived.Test.YtbhibfdlkahagaaHOpen
namespace Go.Proofs.Ytbhibfdlkahagaa
open Go.RowKit

def sumN (m : Nat) : Nat → Nat
  | 0 => 0
  | k + 1 => sumN m k + dg m k
theorem sumN_le (m : Nat) : ∀ k, sumN m k ≤ 15 * k
  | 0 => by simp [sumN]
  | k + 1 => by have := sumN_le m k; have := dg_lt m k; unfold sumN; omega
theorem dg_nib (m c : Nat) (h : c < 16) : dg m c = nib m c := by unfold dg; rw [if_pos h]
theorem sum_lack (m : Nat) : ∀ k, k ≤ 8 → sumN m (2 * k) + lackN m k = 30 * k
  | 0, _ => rfl
  | k + 1, h => by
    have h0 := sum_lack m k (by omega)
    have h1 := nib_lt m (2 * k)
    have h2 := nib_lt m (2 * k + 1)
    have h3 := nib_even m k
    have h4 := nib_odd m k
    show sumN m (2 * k + 1 + 1) + (lackN m k + (30 - byt m k % 16 - byt m k / 16)) = _
    unfold sumN
    unfold sumN
    rw [dg_nib m (2 * k) (by omega), dg_nib m (2 * k + 1) (by omega)]
    omega
theorem sum_all (m : Nat) : sumN m 16 + dg m 16 + 16 * dg m 17 = 240 := by
  have h := sum_lack m 8 (by omega)
  have h1 : dg m 16 = lackN m 8 % 16 := rfl
  have h2 : dg m 17 = lackN m 8 / 16 := rfl
  have h3 : sumN m (2 * 8) = sumN m 16 := rfl
  omega
def fb (m k c : Nat) : Value := if c < k then .int .u8 (byt m c) else .int .u8 0
def fillB (m k : Nat) : Array Value := #[fb m k 0, fb m k 1, fb m k 2, fb m k 3, fb m k 4, fb m k 5, fb m k 6, fb m k 7]
theorem fillB_on (m : Nat) : ∀ k, k < 8 → (fillB m k).setIfInBounds k (.int .u8 (byt m k)) = fillB m (k + 1)
  | 0, _ => rfl
  | 1, _ => rfl
  | 2, _ => rfl
  | 3, _ => rfl
  | 4, _ => rfl
  | 5, _ => rfl
  | 6, _ => rfl
  | 7, _ => rfl
  | k + 8, h => absurd h (by omega)
theorem fillB_at (m : Nat) : ∀ k, k < 8 → (fillB m k)[k]? = some (.int .u8 0)
  | 0, _ => rfl
  | 1, _ => rfl
  | 2, _ => rfl
  | 3, _ => rfl
  | 4, _ => rfl
  | 5, _ => rfl
  | 6, _ => rfl
  | 7, _ => rfl
  | k + 8, h => absurd h (by omega)
theorem digA18_get (m : Nat) : ∀ k, k < 18 → (digA18 m).toList[k]? = some (.int .i64 (dg m k))
  | 0, _ => rfl
  | 1, _ => rfl
  | 2, _ => rfl
  | 3, _ => rfl
  | 4, _ => rfl
  | 5, _ => rfl
  | 6, _ => rfl
  | 7, _ => rfl
  | 8, _ => rfl
  | 9, _ => rfl
  | 10, _ => rfl
  | 11, _ => rfl
  | 12, _ => rfl
  | 13, _ => rfl
  | 14, _ => rfl
  | 15, _ => rfl
  | 16, _ => rfl
  | 17, _ => rfl
  | k + 18, h => absurd h (by omega)
#print axioms sum_all
end Go.Proofs.Ytbhibfdlkahagaa
