/-
  VeilOpens: the walk.
-/
import Derived.Test.YtdejlahgeckobaaVTold
import Derived.Test.YtdejlahgeckobaaHOpen
namespace Go.Proofs.Ytdejlahgeckobaa
open Go.RowKit

set_option maxRecDepth 100000 in
set_option maxHeartbeats 4000000 in
theorem walkVeilOpens (w : World) (k : Nat) (A : Option Addr) (n c : Nat) (bs : List UInt8) (hk : k < 18446744073709551616) (h0 : Rd w A n c bs) :
    Calls Try.prog 9 #[digV k, .slice A n c] w (Holds w) := by
  have h := Lib.hid h0
  clear h0
  have hle := h.out.le
  have hmax := h.out.max
  obtain ⟨m, hm⟩ : ∃ m, m = min n 300 := ⟨_, rfl⟩
  have m3 : m ≤ 300 := by omega
  have mn : m ≤ n := by omega
  have RM : Hid (Rd w A m c (bs.take m)) := h.out.front mn
  obtain ⟨ms, hms⟩ : ∃ l, l = bs.take m := ⟨_, rfl⟩
  rw [← hms] at RM
  have ML : Hid (ms.length = m) := RM.out.len
  have mI : (m : Int) ≤ (c : Int) := by omega
  have HM := Lib.hid hm
  clear hms hm
  obtain ⟨p1, p2, hp⟩ : ∃ p1 p2, openR k ms = (p1, p2) := ⟨_, _, rfl⟩
  have HP := Lib.hid hp
  clear hp
  unfold digV
  go_enter Try.func9, Try.ntmps9
  go_wp2_with fail
  generalize hW : World.alloc w (.cells #[.int .u8 (byt k 0), .int .u8 (byt k 1), .int .u8 (byt k 2), .int .u8 (byt k 3), .int .u8 (byt k 4), .int .u8 (byt k 5), .int .u8 (byt k 6), .int .u8 (byt k 7)] 31) = W
  have DK : Hid (W.heap[w.heap.size]? = some (.cells #[.int .u8 (byt k 0), .int .u8 (byt k 1), .int .u8 (byt k 2), .int .u8 (byt k 3), .int .u8 (byt k 4), .int .u8 (byt k 5), .int .u8 (byt k 6), .int .u8 (byt k 7)] 31 (0, 0))) := by rw [← hW]; exact Go.heap_alloc_new w _
  have B : Hid (Below w.heap.size w W) := by rw [← hW]; exact ext_alloc _ _
  clear hW
  refine (few_c W A n c bs (Lib.hid (h.out.ext B.out))).mono ?_
  rw [← HM.out]
  rintro e w1 ⟨rfl, rfl⟩
  obtain ⟨k0, k1, k2, k3, k4, k5, k6, k7, _, _, _, _, _, _, _, _⟩ := full8 DK.out; 
  go_wp2_with fail
  try rw [← show digV k = .agg #[.int .u8 (byt k 0), .int .u8 (byt k 1), .int .u8 (byt k 2), .int .u8 (byt k 3), .int .u8 (byt k 4), .int .u8 (byt k 5), .int .u8 (byt k 6), .int .u8 (byt k 7)] from rfl]
  refine (open_c W k hk A m c ms (Lib.hid (RM.out.ext B.out))).mono ?_
  rintro e w2 ⟨A2, n2, c2, err, rfl, ho, herr, hb⟩
  rw [HP.out] at ho herr
  obtain rfl : err = p2 := herr
  have O2 := Lib.hid ho
  replace DK := Lib.hid (keepB hb DK.out)
  replace B := Lib.hid (ext_trans B.out hb)
  clear ho hb k0 k1 k2 k3 k4 k5 k6 k7
  obtain ⟨k0, k1, k2, k3, k4, k5, k6, k7, _, _, _, _, _, _, _, _⟩ := full8 DK.out; 
  go_wp2_with fail
  try rw [← show digV k = .agg #[.int .u8 (byt k 0), .int .u8 (byt k 1), .int .u8 (byt k 2), .int .u8 (byt k 3), .int .u8 (byt k 4), .int .u8 (byt k 5), .int .u8 (byt k 6), .int .u8 (byt k 7)] from rfl]
  refine (ropen_c w2 k hk A m c ms (Lib.hid (RM.out.ext B.out))).mono ?_
  rintro e w3 ⟨A3, n3, c3, err2, rfl, ho, herr, hb⟩
  rw [HP.out] at ho herr
  obtain rfl : err2 = err := herr
  have O3 := Lib.hid ho
  replace DK := Lib.hid (keepB hb DK.out)
  replace O2 := Lib.hid (O2.out.ext hb)
  replace B := Lib.hid (ext_trans B.out hb)
  clear ho hb k0 k1 k2 k3 k4 k5 k6 k7
  go_wp2_with fail
  refine (told_c _).mono ?_
  rintro e w4 ⟨rfl, hb⟩
  replace B := Lib.hid (ext_trans B.out hb)
  have t1 := (O2.out.ext hb).rd.text (P := Try.prog) (t := 22) (t' := 9) Try.underlying22 Try.underlying5 Try.underlying9
  have t2 := (O3.out.ext hb).rd.text (P := Try.prog) (t := 22) (t' := 9) Try.underlying22 Try.underlying5 Try.underlying9
  clear hb
  go_wp2_with fail
  go_ret
  exact ⟨rfl, B.out⟩
#print axioms walkVeilOpens
end Go.Proofs.Ytdejlahgeckobaa
