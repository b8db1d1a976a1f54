/-
  VeilKeys: the walk.
-/
import Derived.Test.YtdejlahgeckobaaVTold
import Derived.Test.YtdejlahgeckobaaHOpen
namespace Go.Proofs.Ytdejlahgeckobaa
open Go.RowKit

set_option maxRecDepth 100000 in
set_option maxHeartbeats 4000000 in
theorem walkVeilKeys (w : World) (k o : Nat) (A : Option Addr) (n c : Nat) (bs : List UInt8) (hk : k < 18446744073709551616) (ho0 : o < 18446744073709551616) (h0 : Rd w A n c bs) :
    Calls Try.prog 10 #[digV k, digV o, .slice A n c] w (Holds w) := by
  have h := Lib.hid h0
  clear h0
  have hle := h.out.le
  have hmax := h.out.max
  obtain ⟨m, hm⟩ : ∃ m, m = min n 300 := ⟨_, rfl⟩
  have m3 : m ≤ 300 := by omega
  have mn : m ≤ n := by omega
  have RM : Hid (Rd w A m c (bs.take m)) := h.out.front mn
  obtain ⟨ms, hms⟩ : ∃ l, l = bs.take m := ⟨_, rfl⟩
  rw [← hms] at RM
  have ML : Hid (ms.length = m) := RM.out.len
  have mI : (m : Int) ≤ (c : Int) := by omega
  have HM := Lib.hid hm
  clear hms hm
  by_cases hok : o = k
  · have HB : Hid (sealR k ms = boxB k ms) := by show _ = _; unfold sealR; rw [if_pos (by rw [ML.out]; omega)]
    obtain ⟨X, hX⟩ : ∃ X, X = boxB k ms := ⟨_, rfl⟩
    rw [← hX] at HB
    have hp : openR o X = (ms, 0) := by rw [hX, hok]; exact openR_box hk (by rw [ML.out]; omega)
    have HP := Lib.hid hp
    have EQ := neq_d ho0 hk
    rw [decide_eq_true hok, Bool.not_true] at EQ
    have GD := guard_d .neq o k
    unfold digV at EQ GD
    clear hX hp hok
    unfold digV
    go_enter Try.func10, Try.ntmps10
    go_wp2_with fail
    generalize hW : World.alloc (World.alloc w (.cells #[.int .u8 (byt k 0), .int .u8 (byt k 1), .int .u8 (byt k 2), .int .u8 (byt k 3), .int .u8 (byt k 4), .int .u8 (byt k 5), .int .u8 (byt k 6), .int .u8 (byt k 7)] 31)) (.cells #[.int .u8 (byt o 0), .int .u8 (byt o 1), .int .u8 (byt o 2), .int .u8 (byt o 3), .int .u8 (byt o 4), .int .u8 (byt o 5), .int .u8 (byt o 6), .int .u8 (byt o 7)] 31) = W
    have DK : Hid (W.heap[w.heap.size]? = some (.cells #[.int .u8 (byt k 0), .int .u8 (byt k 1), .int .u8 (byt k 2), .int .u8 (byt k 3), .int .u8 (byt k 4), .int .u8 (byt k 5), .int .u8 (byt k 6), .int .u8 (byt k 7)] 31 (0, 0))) := by rw [← hW]; exact keepA (Go.heap_alloc_new w _)
    have DO : Hid (W.heap[w.heap.size + 1]? = some (.cells #[.int .u8 (byt o 0), .int .u8 (byt o 1), .int .u8 (byt o 2), .int .u8 (byt o 3), .int .u8 (byt o 4), .int .u8 (byt o 5), .int .u8 (byt o 6), .int .u8 (byt o 7)] 31 (0, 0))) := by rw [← hW]; exact heap_alloc_newest (w := World.alloc _ _) (by simp)
    have B : Hid (Below w.heap.size w W) := by rw [← hW]; exact ext_trans (ext_alloc _ _) (ext_alloc _ _)
    clear hW
    refine (few_c W A n c bs (Lib.hid (h.out.ext B.out))).mono ?_
    rw [← HM.out]
    rintro e w1 ⟨rfl, rfl⟩
    obtain ⟨k0, k1, k2, k3, k4, k5, k6, k7, _, _, _, _, _, _, _, _⟩ := full8 DK.out; obtain ⟨o0, o1, o2, o3, o4, o5, o6, o7, _, _, _, _, _, _, _, _⟩ := full8 DO.out; 
    go_wp2_with fail
    try rw [← show digV k = .agg #[.int .u8 (byt k 0), .int .u8 (byt k 1), .int .u8 (byt k 2), .int .u8 (byt k 3), .int .u8 (byt k 4), .int .u8 (byt k 5), .int .u8 (byt k 6), .int .u8 (byt k 7)] from rfl]
    refine (seal_c W k hk A m c ms (Lib.hid (RM.out.ext B.out)) (by omega)).mono ?_
    rw [HB.out]
    rintro e w2 ⟨E, A2, n2, c2, rfl, ho, hb⟩
    have O2 := Lib.hid ho
    replace DK := Lib.hid (keepB hb DK.out)
    replace DO := Lib.hid (keepB hb DO.out)
    replace B := Lib.hid (ext_trans B.out hb)
    clear ho hb k0 k1 k2 k3 k4 k5 k6 k7 o0 o1 o2 o3 o4 o5 o6 o7
    obtain ⟨k0, k1, k2, k3, k4, k5, k6, k7, _, _, _, _, _, _, _, _⟩ := full8 DK.out; obtain ⟨o0, o1, o2, o3, o4, o5, o6, o7, _, _, _, _, _, _, _, _⟩ := full8 DO.out; 
    have le2 := O2.out.rd.le
    have mx2 := O2.out.rd.max
    go_wp2_with fail
    try rw [← show digV o = .agg #[.int .u8 (byt o 0), .int .u8 (byt o 1), .int .u8 (byt o 2), .int .u8 (byt o 3), .int .u8 (byt o 4), .int .u8 (byt o 5), .int .u8 (byt o 6), .int .u8 (byt o 7)] from rfl]
    refine (open_c w2 o ho0 A2 n2 c2 X (Lib.hid O2.out.rd)).mono ?_
    rintro e w3 ⟨A3, n3, c3, err, rfl, ho, herr, hb⟩
    rw [HP.out] at ho herr
    obtain rfl : err = 0 := herr
    have O3 := Lib.hid ho
    replace DK := Lib.hid (keepB hb DK.out)
    replace DO := Lib.hid (keepB hb DO.out)
    replace O2 := Lib.hid (O2.out.ext hb)
    replace B := Lib.hid (ext_trans B.out hb)
    clear ho hb k0 k1 k2 k3 k4 k5 k6 k7 o0 o1 o2 o3 o4 o5 o6 o7
    obtain ⟨k0, k1, k2, k3, k4, k5, k6, k7, _, _, _, _, _, _, _, _⟩ := full8 DK.out; obtain ⟨o0, o1, o2, o3, o4, o5, o6, o7, _, _, _, _, _, _, _, _⟩ := full8 DO.out; 
    go_wp2_with fail
    try rw [← show digV o = .agg #[.int .u8 (byt o 0), .int .u8 (byt o 1), .int .u8 (byt o 2), .int .u8 (byt o 3), .int .u8 (byt o 4), .int .u8 (byt o 5), .int .u8 (byt o 6), .int .u8 (byt o 7)] from rfl]
    refine (ropen_c w3 o ho0 A2 n2 c2 X (Lib.hid O2.out.rd)).mono ?_
    rintro e w4 ⟨A4, n4, c4, err2, rfl, ho, herr, hb⟩
    rw [HP.out] at ho herr
    obtain rfl : err2 = 0 := herr
    have O4 := Lib.hid ho
    replace DK := Lib.hid (keepB hb DK.out)
    replace DO := Lib.hid (keepB hb DO.out)
    replace O3 := Lib.hid (O3.out.ext hb)
    replace B := Lib.hid (ext_trans B.out hb)
    clear ho hb O2 k0 k1 k2 k3 k4 k5 k6 k7 o0 o1 o2 o3 o4 o5 o6 o7
    go_wp2_with fail
    refine (told_c _).mono ?_
    rintro e w5 ⟨rfl, hb⟩
    replace DK := Lib.hid (keepB hb DK.out)
    replace DO := Lib.hid (keepB hb DO.out)
    replace O3 := Lib.hid (O3.out.ext hb)
    replace O4 := Lib.hid (O4.out.ext hb)
    replace B := Lib.hid (ext_trans B.out hb)
    clear hb
    have t1 := O3.out.rd.text (P := Try.prog) (t := 22) (t' := 9) Try.underlying22 Try.underlying5 Try.underlying9
    have t2 := O4.out.rd.text (P := Try.prog) (t := 22) (t' := 9) Try.underlying22 Try.underlying5 Try.underlying9
    have t3 := (RM.out.ext B.out).text (P := Try.prog) (t := 22) (t' := 9) Try.underlying22 Try.underlying5 Try.underlying9
    obtain ⟨k0, k1, k2, k3, k4, k5, k6, k7, _, _, _, _, _, _, _, _⟩ := full8 DK.out; obtain ⟨o0, o1, o2, o3, o4, o5, o6, o7, _, _, _, _, _, _, _, _⟩ := full8 DO.out; 
    go_wp2_with fail
    go_ret
    exact ⟨rfl, B.out⟩
  · have HB : Hid (sealR k ms = boxB k ms) := by show _ = _; unfold sealR; rw [if_pos (by rw [ML.out]; omega)]
    obtain ⟨X, hX⟩ : ∃ X, X = boxB k ms := ⟨_, rfl⟩
    rw [← hX] at HB
    obtain ⟨p1, p2, hp⟩ : ∃ p1 p2, openR o X = (p1, p2) := ⟨_, _, rfl⟩
    have HP := Lib.hid hp
    have EQ := neq_d ho0 hk
    rw [decide_eq_false hok, Bool.not_false] at EQ
    have GD := guard_d .neq o k
    unfold digV at EQ GD
    clear hX hp hok
    unfold digV
    go_enter Try.func10, Try.ntmps10
    go_wp2_with fail
    generalize hW : World.alloc (World.alloc w (.cells #[.int .u8 (byt k 0), .int .u8 (byt k 1), .int .u8 (byt k 2), .int .u8 (byt k 3), .int .u8 (byt k 4), .int .u8 (byt k 5), .int .u8 (byt k 6), .int .u8 (byt k 7)] 31)) (.cells #[.int .u8 (byt o 0), .int .u8 (byt o 1), .int .u8 (byt o 2), .int .u8 (byt o 3), .int .u8 (byt o 4), .int .u8 (byt o 5), .int .u8 (byt o 6), .int .u8 (byt o 7)] 31) = W
    have DK : Hid (W.heap[w.heap.size]? = some (.cells #[.int .u8 (byt k 0), .int .u8 (byt k 1), .int .u8 (byt k 2), .int .u8 (byt k 3), .int .u8 (byt k 4), .int .u8 (byt k 5), .int .u8 (byt k 6), .int .u8 (byt k 7)] 31 (0, 0))) := by rw [← hW]; exact keepA (Go.heap_alloc_new w _)
    have DO : Hid (W.heap[w.heap.size + 1]? = some (.cells #[.int .u8 (byt o 0), .int .u8 (byt o 1), .int .u8 (byt o 2), .int .u8 (byt o 3), .int .u8 (byt o 4), .int .u8 (byt o 5), .int .u8 (byt o 6), .int .u8 (byt o 7)] 31 (0, 0))) := by rw [← hW]; exact heap_alloc_newest (w := World.alloc _ _) (by simp)
    have B : Hid (Below w.heap.size w W) := by rw [← hW]; exact ext_trans (ext_alloc _ _) (ext_alloc _ _)
    clear hW
    refine (few_c W A n c bs (Lib.hid (h.out.ext B.out))).mono ?_
    rw [← HM.out]
    rintro e w1 ⟨rfl, rfl⟩
    obtain ⟨k0, k1, k2, k3, k4, k5, k6, k7, _, _, _, _, _, _, _, _⟩ := full8 DK.out; obtain ⟨o0, o1, o2, o3, o4, o5, o6, o7, _, _, _, _, _, _, _, _⟩ := full8 DO.out; 
    go_wp2_with fail
    try rw [← show digV k = .agg #[.int .u8 (byt k 0), .int .u8 (byt k 1), .int .u8 (byt k 2), .int .u8 (byt k 3), .int .u8 (byt k 4), .int .u8 (byt k 5), .int .u8 (byt k 6), .int .u8 (byt k 7)] from rfl]
    refine (seal_c W k hk A m c ms (Lib.hid (RM.out.ext B.out)) (by omega)).mono ?_
    rw [HB.out]
    rintro e w2 ⟨E, A2, n2, c2, rfl, ho, hb⟩
    have O2 := Lib.hid ho
    replace DK := Lib.hid (keepB hb DK.out)
    replace DO := Lib.hid (keepB hb DO.out)
    replace B := Lib.hid (ext_trans B.out hb)
    clear ho hb k0 k1 k2 k3 k4 k5 k6 k7 o0 o1 o2 o3 o4 o5 o6 o7
    obtain ⟨k0, k1, k2, k3, k4, k5, k6, k7, _, _, _, _, _, _, _, _⟩ := full8 DK.out; obtain ⟨o0, o1, o2, o3, o4, o5, o6, o7, _, _, _, _, _, _, _, _⟩ := full8 DO.out; 
    have le2 := O2.out.rd.le
    have mx2 := O2.out.rd.max
    go_wp2_with fail
    try rw [← show digV o = .agg #[.int .u8 (byt o 0), .int .u8 (byt o 1), .int .u8 (byt o 2), .int .u8 (byt o 3), .int .u8 (byt o 4), .int .u8 (byt o 5), .int .u8 (byt o 6), .int .u8 (byt o 7)] from rfl]
    refine (open_c w2 o ho0 A2 n2 c2 X (Lib.hid O2.out.rd)).mono ?_
    rintro e w3 ⟨A3, n3, c3, err, rfl, ho, herr, hb⟩
    rw [HP.out] at ho herr
    obtain rfl : err = p2 := herr
    have O3 := Lib.hid ho
    replace DK := Lib.hid (keepB hb DK.out)
    replace DO := Lib.hid (keepB hb DO.out)
    replace O2 := Lib.hid (O2.out.ext hb)
    replace B := Lib.hid (ext_trans B.out hb)
    clear ho hb k0 k1 k2 k3 k4 k5 k6 k7 o0 o1 o2 o3 o4 o5 o6 o7
    obtain ⟨k0, k1, k2, k3, k4, k5, k6, k7, _, _, _, _, _, _, _, _⟩ := full8 DK.out; obtain ⟨o0, o1, o2, o3, o4, o5, o6, o7, _, _, _, _, _, _, _, _⟩ := full8 DO.out; 
    go_wp2_with fail
    try rw [← show digV o = .agg #[.int .u8 (byt o 0), .int .u8 (byt o 1), .int .u8 (byt o 2), .int .u8 (byt o 3), .int .u8 (byt o 4), .int .u8 (byt o 5), .int .u8 (byt o 6), .int .u8 (byt o 7)] from rfl]
    refine (ropen_c w3 o ho0 A2 n2 c2 X (Lib.hid O2.out.rd)).mono ?_
    rintro e w4 ⟨A4, n4, c4, err2, rfl, ho, herr, hb⟩
    rw [HP.out] at ho herr
    obtain rfl : err2 = err := herr
    have O4 := Lib.hid ho
    replace DK := Lib.hid (keepB hb DK.out)
    replace DO := Lib.hid (keepB hb DO.out)
    replace O3 := Lib.hid (O3.out.ext hb)
    replace B := Lib.hid (ext_trans B.out hb)
    clear ho hb O2 k0 k1 k2 k3 k4 k5 k6 k7 o0 o1 o2 o3 o4 o5 o6 o7
    go_wp2_with fail
    refine (told_c _).mono ?_
    rintro e w5 ⟨rfl, hb⟩
    replace DK := Lib.hid (keepB hb DK.out)
    replace DO := Lib.hid (keepB hb DO.out)
    replace O3 := Lib.hid (O3.out.ext hb)
    replace O4 := Lib.hid (O4.out.ext hb)
    replace B := Lib.hid (ext_trans B.out hb)
    clear hb
    have t1 := O3.out.rd.text (P := Try.prog) (t := 22) (t' := 9) Try.underlying22 Try.underlying5 Try.underlying9
    have t2 := O4.out.rd.text (P := Try.prog) (t := 22) (t' := 9) Try.underlying22 Try.underlying5 Try.underlying9
    have t3 := (RM.out.ext B.out).text (P := Try.prog) (t := 22) (t' := 9) Try.underlying22 Try.underlying5 Try.underlying9
    obtain ⟨k0, k1, k2, k3, k4, k5, k6, k7, _, _, _, _, _, _, _, _⟩ := full8 DK.out; obtain ⟨o0, o1, o2, o3, o4, o5, o6, o7, _, _, _, _, _, _, _, _⟩ := full8 DO.out; 
    go_wp2_with fail
    go_ret
    exact ⟨rfl, B.out⟩
#print axioms walkVeilKeys
end Go.Proofs.Ytdejlahgeckobaa
