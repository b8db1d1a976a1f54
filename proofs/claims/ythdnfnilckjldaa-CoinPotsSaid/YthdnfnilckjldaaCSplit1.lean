/-
  coin: Split's shares: pure facts.
-/
import Derived.Test.YthdnfnilckjldaaCSplit0
namespace Go.Proofs.Ythdnfnilckjldaa
open Go.RowKit

theorem weighF_ok : ∀ (xs : List Int) (t W : Int), 0 ≤ t → weighF t xs = (W, 0) → (∀ x ∈ xs, 0 ≤ x ∧ x ≤ 1024 ∧ x + t ≤ W) ∧ t ≤ W ∧ W ≠ 0
  | [], t, W, _, h => by
    unfold weighF at h
    split at h
    · simp at h
    · simp at h; refine ⟨by simp, by omega, by omega⟩
  | x :: xs, t, W, ht, h => by
    unfold weighF at h
    split at h
    · simp at h
    · rename_i hx
      obtain ⟨h1, h2, h3⟩ := weighF_ok xs (t + x) W (by omega) h
      refine ⟨fun y hy => ?_, by omega, h3⟩
      rcases List.mem_cons.1 hy with rfl | hy
      · omega
      · have := h1 y hy; omega
theorem weigh_ok {xs : List Int} {W : Int} (h : weigh xs = (W, 0)) : 1 ≤ xs.length ∧ xs.length ≤ 8 ∧ 1 ≤ W ∧ ∀ x ∈ xs, 0 ≤ x ∧ x ≤ 1024 ∧ x ≤ W := by
  unfold weigh at h
  split at h
  · simp at h
  · obtain ⟨h1, h2, h3⟩ := weighF_ok xs 0 W (by omega) h
    exact ⟨by omega, by omega, by omega, fun x hx => by have := h1 x hx; omega⟩

/-- a share, without the ones -/
def share (T W x : Int) : Int := T * x / W
theorem share_le {T W x : Int} (hT : 0 ≤ T) (hW : 1 ≤ W) (hx : 0 ≤ x) (hxW : x ≤ W) : 0 ≤ share T W x ∧ share T W x ≤ T := by
  unfold share
  refine ⟨Int.ediv_nonneg (Int.mul_nonneg hT hx) (by omega), ?_⟩
  refine Int.ediv_le_of_le_mul (by omega) ?_
  exact Int.mul_le_mul_of_nonneg_left hxW hT
theorem share_prod {T x : Int} (hT : Amt T) (hx : 0 ≤ x) (hx2 : x ≤ 1024) : 0 ≤ T * x ∧ T * x ≤ 1152921504606846976 := by
  obtain ⟨h1, h2⟩ := hT
  refine ⟨Int.mul_nonneg h1 hx, ?_⟩
  have : T * x ≤ T * 1024 := Int.mul_le_mul_of_nonneg_left hx2 h1
  omega
#print axioms share_prod
end Go.Proofs.Ythdnfnilckjldaa
