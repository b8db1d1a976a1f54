/-
  The chapter's example is so.
-/
import Derived.Test.YtgplamfjemmfnaaRefs
namespace Go.Proofs.Ytgplamfjemmfnaa
open Go.RowKit
theorem num_300 : num 300 = [172, 2] := by rw [num_big (by omega), num_small (by omega)]; rfl
theorem num_m3 : num (fold (-3)) = [5] := by
  have h : fold (-3) = 5 := by rfl
  rw [h, num_small (by omega)]; rfl
theorem num_2 : num 2 = [2] := by rw [num_small (by omega)]; rfl

set_option maxRecDepth 100000 in
set_option maxHeartbeats 400000 in
theorem known_c (w : World) : Calls Try.prog 16 #[] w (fun e w' => e = .returned (.bool true) ∧ Below w.heap.size w w') := by
  go_enter Try.func16, Try.ntmps16
  go_wp2_with fail
  refine (putNum_i _ _ _ _ [] (Rd.nil _) (by omega) 300 (by omega) _ rfl).mono ?_
  rintro e w1 ⟨A1, n1, c1, rfl, ho1, hb1⟩
  go_wp2_with fail
  obtain rfl : n1 = 2 := by have := ho1.len; rw [num_300] at this; simpa using this.symm
  refine (same_yes _ _ _ _ [172, 2] ((num_300 ▸ ho1.rd).ext (ext_alloc _ _)) _ _ (Rd.lit (by rfl) (by rfl) (by omega))).mono ?_
  rintro e w2 ⟨rfl, hb2⟩
  have q2 : Below w.heap.size w w2 := ext_trans (ext_trans hb1 (ext_alloc _ _)) hb2
  clear hb1 hb2 ho1
  go_wp2_with fail
  refine (putInt_c _ _ _ _ [7] (Rd.lit (by rfl) (by rfl) (by omega)) (by omega) (-3) (by omega) (by omega)).mono ?_
  rintro e w3 ⟨A3, n3, c3, rfl, ho3, hb3⟩
  have q3 : Below w.heap.size w w3 := ext_trans (ext_trans q2 (ext_alloc _ _)) hb3
  clear hb3 q2
  go_wp2_with fail
  obtain rfl : n3 = 2 := by have := ho3.len; rw [num_m3] at this; simpa using this.symm
  refine (same_yes _ _ _ _ [7, 5] ((num_m3 ▸ ho3.rd).ext (ext_alloc _ _)) _ _ (Rd.lit (by rfl) (by rfl) (by omega))).mono ?_
  rintro e w4 ⟨rfl, hb4⟩
  have q4 : Below w.heap.size w w4 := ext_trans (ext_trans q3 (ext_alloc _ _)) hb4
  clear hb4 q3 ho3
  go_wp2_with fail
  refine (putText_c _ _ _ _ [] (Rd.nil _) (by omega) _ (by decide)).mono ?_
  rintro e w5 ⟨A5, n5, c5, rfl, ho5, hb5⟩
  have q5 : Below w.heap.size w w5 := ext_trans q4 hb5
  clear hb5 q4
  go_wp2_with fail
  have e5 : num (ByteArray.mk #[97, 98]).size = [2] := num_2
  rw [e5] at ho5
  obtain rfl : n5 = 3 := ho5.len.symm
  refine (same_yes _ _ _ _ [2, 97, 98] (ho5.rd.ext (ext_alloc _ _)) _ _ (Rd.lit (by rfl) (by rfl) (by omega))).mono ?_
  rintro e w6 ⟨rfl, hb6⟩
  have q6 : Below w.heap.size w w6 := ext_trans (ext_trans q5 (ext_alloc _ _)) hb6
  clear hb6 q5 ho5
  go_wp2_with fail
  go_ret
  exact ⟨rfl, q6⟩
#print axioms known_c
end Go.Proofs.Ytgplamfjemmfnaa
