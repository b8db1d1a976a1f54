/-
  machine: what an instruction that may be has.
-/
import Derived.Test.YtbeileihbhooaaaDoorGRight
namespace Go.Proofs.YtbeileihbhooaaaDoor

theorem right_op {o a b c size words : Int} (h : rightV o a b c size words = true) : 0 ≤ o ∧ o < 22 := by
  by_cases ho : 0 ≤ o ∧ o < 22
  · exact ho
  · rw [right_un ho] at h; cases h
theorem right_0 {a b c size words : Int} (h : rightV 0 a b c size words = true) : (-2147483648 ≤ a ∧ a ≤ 2147483647) ∧ (b = 0) ∧ (c = 0) ∧ ((a = 0 ∨ a = 1)) := by
  unfold rightV at h
  simp [hasB, hasT, partOk, three] at h
  omega
theorem right_1 {a b c size words : Int} (h : rightV 1 a b c size words = true) : (0 ≤ a ∧ a < words) ∧ (-2147483648 ≤ b ∧ b ≤ 2147483647) ∧ (c = 0) := by
  unfold rightV at h
  simp [hasB, hasT, partOk, three] at h
  omega
theorem right_2 {a b c size words : Int} (h : rightV 2 a b c size words = true) : (0 ≤ a ∧ a < words) ∧ (0 ≤ b ∧ b < words) ∧ (c = 0) := by
  unfold rightV at h
  simp [hasB, hasT, partOk, three] at h
  omega
theorem right_3 {a b c size words : Int} (h : rightV 3 a b c size words = true) : (0 ≤ a ∧ a < words) ∧ (0 ≤ b ∧ b < words) ∧ (0 ≤ c ∧ c < words) := by
  unfold rightV at h
  simp [hasB, hasT, partOk, three] at h
  omega
theorem right_4 {a b c size words : Int} (h : rightV 4 a b c size words = true) : (0 ≤ a ∧ a < words) ∧ (0 ≤ b ∧ b < words) ∧ (0 ≤ c ∧ c < words) := by
  unfold rightV at h
  simp [hasB, hasT, partOk, three] at h
  omega
theorem right_5 {a b c size words : Int} (h : rightV 5 a b c size words = true) : (0 ≤ a ∧ a < words) ∧ (0 ≤ b ∧ b < words) ∧ (0 ≤ c ∧ c < words) := by
  unfold rightV at h
  simp [hasB, hasT, partOk, three] at h
  omega
theorem right_6 {a b c size words : Int} (h : rightV 6 a b c size words = true) : (0 ≤ a ∧ a < words) ∧ (0 ≤ b ∧ b < words) ∧ (0 ≤ c ∧ c < words) := by
  unfold rightV at h
  simp [hasB, hasT, partOk, three] at h
  omega
theorem right_7 {a b c size words : Int} (h : rightV 7 a b c size words = true) : (0 ≤ a ∧ a < words) ∧ (0 ≤ b ∧ b < words) ∧ (0 ≤ c ∧ c < words) := by
  unfold rightV at h
  simp [hasB, hasT, partOk, three] at h
  omega
theorem right_8 {a b c size words : Int} (h : rightV 8 a b c size words = true) : (0 ≤ a ∧ a < words) ∧ (0 ≤ b ∧ b < words) ∧ (0 ≤ c ∧ c < words) := by
  unfold rightV at h
  simp [hasB, hasT, partOk, three] at h
  omega
theorem right_9 {a b c size words : Int} (h : rightV 9 a b c size words = true) : (0 ≤ a ∧ a < words) ∧ (0 ≤ b ∧ b < words) ∧ (0 ≤ c ∧ c < words) := by
  unfold rightV at h
  simp [hasB, hasT, partOk, three] at h
  omega
theorem right_10 {a b c size words : Int} (h : rightV 10 a b c size words = true) : (0 ≤ a ∧ a < words) ∧ (0 ≤ b ∧ b < words) ∧ (0 ≤ c ∧ c < words) := by
  unfold rightV at h
  simp [hasB, hasT, partOk, three] at h
  omega
theorem right_11 {a b c size words : Int} (h : rightV 11 a b c size words = true) : (0 ≤ a ∧ a < words) ∧ (0 ≤ b ∧ b < words) ∧ (0 ≤ c ∧ c < words) := by
  unfold rightV at h
  simp [hasB, hasT, partOk, three] at h
  omega
theorem right_12 {a b c size words : Int} (h : rightV 12 a b c size words = true) : (0 ≤ a ∧ a < words) ∧ (0 ≤ b ∧ b < words) ∧ (0 ≤ c ∧ c < words) := by
  unfold rightV at h
  simp [hasB, hasT, partOk, three] at h
  omega
theorem right_13 {a b c size words : Int} (h : rightV 13 a b c size words = true) : (0 ≤ a ∧ a < words) ∧ (0 ≤ b ∧ b < words) ∧ (0 ≤ c ∧ c < words) := by
  unfold rightV at h
  simp [hasB, hasT, partOk, three] at h
  omega
theorem right_14 {a b c size words : Int} (h : rightV 14 a b c size words = true) : (0 ≤ a ∧ a < words) ∧ (0 ≤ b ∧ b < words) ∧ (c = 0) := by
  unfold rightV at h
  simp [hasB, hasT, partOk, three] at h
  omega
theorem right_15 {a b c size words : Int} (h : rightV 15 a b c size words = true) : (0 ≤ a ∧ a < words) ∧ (0 ≤ b ∧ b < words) ∧ (0 ≤ c ∧ c < words) := by
  unfold rightV at h
  simp [hasB, hasT, partOk, three] at h
  omega
theorem right_16 {a b c size words : Int} (h : rightV 16 a b c size words = true) : (0 ≤ a ∧ a < words) ∧ (0 ≤ b ∧ b < words) ∧ (0 ≤ c ∧ c < words) := by
  unfold rightV at h
  simp [hasB, hasT, partOk, three] at h
  omega
theorem right_17 {a b c size words : Int} (h : rightV 17 a b c size words = true) : (0 ≤ a ∧ a < words) ∧ (-2147483648 ≤ b ∧ b ≤ 2147483647) ∧ (-2147483648 ≤ c ∧ c ≤ 2147483647) ∧ (b ≤ c) := by
  unfold rightV at h
  simp [hasB, hasT, partOk, three] at h
  omega
theorem right_18 {a b c size words : Int} (h : rightV 18 a b c size words = true) : (0 ≤ a ∧ a < words) ∧ (0 ≤ b ∧ b < words) ∧ (-2147483648 ≤ c ∧ c ≤ 2147483647) ∧ 0 ≤ c := by
  unfold rightV at h
  simp [hasB, hasT, partOk, three] at h
  omega
theorem right_19 {a b c size words : Int} (h : rightV 19 a b c size words = true) : (0 ≤ a ∧ a < size) ∧ (b = 0) ∧ (c = 0) := by
  unfold rightV at h
  simp [hasB, hasT, partOk, three] at h
  omega
theorem right_20 {a b c size words : Int} (h : rightV 20 a b c size words = true) : (0 ≤ a ∧ a < size) ∧ (0 ≤ b ∧ b < words) ∧ (c = 0) := by
  unfold rightV at h
  simp [hasB, hasT, partOk, three] at h
  omega
theorem right_21 {a b c size words : Int} (h : rightV 21 a b c size words = true) : (0 ≤ a ∧ a < size) ∧ (0 ≤ b ∧ b < words) ∧ (c = 0) := by
  unfold rightV at h
  simp [hasB, hasT, partOk, three] at h
  omega
#print axioms right_21
end Go.Proofs.YtbeileihbhooaaaDoor
