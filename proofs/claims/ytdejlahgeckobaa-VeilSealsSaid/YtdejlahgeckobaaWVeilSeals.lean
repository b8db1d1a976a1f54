/-
  VeilSeals: the walk.
-/
import Derived.Test.YtdejlahgeckobaaVTold
import Derived.Test.YtdejlahgeckobaaHOpen
namespace Go.Proofs.Ytdejlahgeckobaa
open Go.RowKit

set_option maxRecDepth 100000 in
set_option maxHeartbeats 4000000 in
theorem walkVeilSeals (w : World) (k : Nat) (A : Option Addr) (n c : Nat) (bs : List UInt8) (hk : k < 18446744073709551616) (h0 : Rd w A n c bs) :
    Calls Try.prog 8 #[digV k, .slice A n c] w (Holds w) := by
  have h := Lib.hid h0
  clear h0
  have hle := h.out.le
  have hmax := h.out.max
  obtain ⟨m, hm⟩ : ∃ m, m = min n 300 := ⟨_, rfl⟩
  have m3 : m ≤ 300 := by omega
  have mn : m ≤ n := by omega
  have RM : Hid (Rd w A m c (bs.take m)) := h.out.front mn
  obtain ⟨ms, hms⟩ : ∃ l, l = bs.take m := ⟨_, rfl⟩
  rw [← hms] at RM
  have ML : Hid (ms.length = m) := RM.out.len
  have mI : (m : Int) ≤ (c : Int) := by omega
  have HM := Lib.hid hm
  clear hms hm
  have HB : Hid (sealR k ms = boxB k ms) := by show _ = _; unfold sealR; rw [if_pos (by rw [ML.out]; omega)]
  have HP : Hid (openR k (boxB k ms) = (ms, 0)) := openR_box hk (by rw [ML.out]; omega)
  obtain ⟨X, hX⟩ : ∃ X, X = boxB k ms := ⟨_, rfl⟩
  have XX : Hid (boxB k ms = X) := hX.symm
  rw [← hX] at HB HP
  clear hX
  unfold digV
  go_enter Try.func8, Try.ntmps8
  go_wp2_with fail
  generalize hW : World.alloc w (.cells #[.int .u8 (byt k 0), .int .u8 (byt k 1), .int .u8 (byt k 2), .int .u8 (byt k 3), .int .u8 (byt k 4), .int .u8 (byt k 5), .int .u8 (byt k 6), .int .u8 (byt k 7)] 31) = W
  have DK : Hid (W.heap[w.heap.size]? = some (.cells #[.int .u8 (byt k 0), .int .u8 (byt k 1), .int .u8 (byt k 2), .int .u8 (byt k 3), .int .u8 (byt k 4), .int .u8 (byt k 5), .int .u8 (byt k 6), .int .u8 (byt k 7)] 31 (0, 0))) := by rw [← hW]; exact Go.heap_alloc_new w _
  have B : Hid (Below w.heap.size w W) := by rw [← hW]; exact ext_alloc _ _
  clear hW
  refine (few_c W A n c bs (Lib.hid (h.out.ext B.out))).mono ?_
  rw [← HM.out]
  rintro e w1 ⟨rfl, rfl⟩
  obtain ⟨k0, k1, k2, k3, k4, k5, k6, k7, _, _, _, _, _, _, _, _⟩ := full8 DK.out; 
  go_wp2_with fail
  rw [← show digV k = .agg #[.int .u8 (byt k 0), .int .u8 (byt k 1), .int .u8 (byt k 2), .int .u8 (byt k 3), .int .u8 (byt k 4), .int .u8 (byt k 5), .int .u8 (byt k 6), .int .u8 (byt k 7)] from rfl]
  refine (seal_c W k hk A m c ms (Lib.hid (RM.out.ext B.out)) (by omega)).mono ?_
  rw [HB.out]
  rintro e w2 ⟨E, A2, n2, c2, rfl, ho, hb⟩
  have O2 := Lib.hid ho
  replace DK := Lib.hid (keepB hb DK.out)
  replace B := Lib.hid (ext_trans B.out hb)
  clear ho hb k0 k1 k2 k3 k4 k5 k6 k7
  obtain ⟨k0, k1, k2, k3, k4, k5, k6, k7, _, _, _, _, _, _, _, _⟩ := full8 DK.out; 
  have le2 := O2.out.rd.le
  have mx2 := O2.out.rd.max
  go_wp2_with fail
  rw [← show digV k = .agg #[.int .u8 (byt k 0), .int .u8 (byt k 1), .int .u8 (byt k 2), .int .u8 (byt k 3), .int .u8 (byt k 4), .int .u8 (byt k 5), .int .u8 (byt k 6), .int .u8 (byt k 7)] from rfl]
  refine (open_c w2 k hk A2 n2 c2 X (Lib.hid O2.out.rd)).mono ?_
  rintro e w3 ⟨A3, n3, c3, err, rfl, ho, herr, hb⟩
  rw [HP.out] at ho herr
  obtain rfl : err = 0 := herr
  have O3 := Lib.hid ho
  replace DK := Lib.hid (keepB hb DK.out)
  replace O2 := Lib.hid (O2.out.ext hb)
  replace B := Lib.hid (ext_trans B.out hb)
  clear ho hb k0 k1 k2 k3 k4 k5 k6 k7
  go_wp2_with fail
  have RMW := Lib.hid (RM.out.ext B.out)
  have TX : ∀ v, Below w3.heap.size w3 v → (convert 22 9 (.slice A2 n2 c2)).run Try.prog v = .ok (.string ⟨X.toArray⟩) v := fun v hC => (O2.out.ext hC).rd.text Try.underlying22 Try.underlying5 Try.underlying9
  have TO : ∀ v, Below w3.heap.size w3 v → (convert 22 9 (.slice A3 n3 c3)).run Try.prog v = .ok (.string ⟨ms.toArray⟩) v := fun v hC => (O3.out.ext hC).rd.text Try.underlying22 Try.underlying5 Try.underlying9
  have TM : ∀ v, Below w3.heap.size w3 v → (convert 22 9 (.slice A m c)).run Try.prog v = .ok (.string ⟨ms.toArray⟩) v := fun v hC => (RMW.out.ext hC).text Try.underlying22 Try.underlying5 Try.underlying9
  refine wp_region_schedC (fun v => Below w3.heap.size w3 v) [(false, 0), (true, 1), (true, 2), (true, 3), (true, 4), (true, 5), (false, 6), (false, 7), (true, 8), (true, 9), (true, 10), (true, 11), (true, 12), (true, 13), (true, 14), (true, 15), (true, 16), (true, 17), (true, 18), (true, 19), (true, 20), (true, 21)] (by kernel_rfl) rfl (by kernel_rfl) (by kernel_rfl) (fun _ _ d _ _ h => by cases d <;> exact h) (ext_drew w3) ?_
  intro J0 hJ0
  refine schedC_eff rfl ?_
  intro J hJ
  go_wp2_with fail
  refine (told_c _).mono ?_
  try unfold digV
  rintro e w4 ⟨rfl, hb⟩
  have CC : Hid (Below w3.heap.size w3 w4) := Lib.hid (ext_trans (ext_drew w3) hb)
  clear hb
  go_wp2_with fail
  refine ⟨CC.out, ?_⟩
  iterate 5 (refine schedC_pure (v := ?_) rfl (by rfl) ?_ ?_; rotate_left; (focus (intro v hC; obtain ⟨k0, k1, k2, k3, k4, k5, k6, k7, _, _, _, _, _, _, _, _⟩ := full8 (keepB hC DK.out); have t1 := TX v hC; have t2 := TO v hC; have t3 := TM v hC; go_simp; try with_reducible rfl)); try go_simp)
  refine schedC_eff rfl ?_
  intro J hJ
  go_wp2_with fail
  refine (rseal_c _ k hk A m c ms (Lib.hid (RMW.out.ext CC.out)) (by omega)).mono ?_
  rw [XX.out]
  rintro e w5 ⟨E5, A5, n5, c5, rfl, ho, hb⟩
  replace CC : Hid (Below w3.heap.size w3 w5) := Lib.hid (ext_trans CC.out hb)
  have TR : (convert 22 9 (.slice A5 n5 c5)).run Try.prog w5 = .ok (.string ⟨X.toArray⟩) w5 := ho.rd.text Try.underlying22 Try.underlying5 Try.underlying9
  clear ho
  clear hb
  go_wp2_with fail
  refine ⟨CC.out, ?_⟩
  refine schedC_eff rfl ?_
  intro J hJ
  go_wp2_with fail
  refine ⟨CC.out, ?_⟩
  clear TR
  iterate 14 (refine schedC_pure (v := ?_) rfl (by rfl) ?_ ?_; rotate_left; (focus (intro v hC; obtain ⟨k0, k1, k2, k3, k4, k5, k6, k7, _, _, _, _, _, _, _, _⟩ := full8 (keepB hC DK.out); have t1 := TX v hC; have t2 := TO v hC; have t3 := TM v hC; go_simp; try with_reducible rfl)); try go_simp)
  refine schedC_nil (hJ0 _ _ ?_)
  clear hJ0
  go_wp2_with fail
  go_ret
  exact ⟨rfl, ext_trans B.out CC.out⟩
#print axioms walkVeilSeals
end Go.Proofs.Ytdejlahgeckobaa
