/-
  once: Verify: contract.
-/
import Derived.Test.YtbhibfdlkahagaaOPub
import Derived.Test.YtbhibfdlkahagaaHEq
namespace Go.Proofs.Ytbhibfdlkahagaa
open Go.RowKit

theorem toldR_lt (m : Nat) (sg : List UInt8) : (toldR m sg).1 < 18446744073709551616 := by
  unfold toldR
  split
  · exact toldN_lt m sg
  · show 0 < 18446744073709551616; omega
def verR (key m : Nat) (sg : List UInt8) : Bool := (toldR m sg).2 && decide ((toldR m sg).1 = key)

set_option maxRecDepth 100000 in
set_option maxHeartbeats 2000000 in
theorem verify_c (w : World) (y m : Nat) (hy : y < 18446744073709551616) (A : Option Addr) (n c : Nat) (sg : List UInt8) (h : Hid (Rd w A n c sg)) :
    Calls Try.prog 35 #[digV y, digV m, .slice A n c] w (Hands (.bool (verR y m sg)) w) := by
  have hle := h.out.le
  have hmax := h.out.max
  obtain ⟨x, b, hx⟩ : ∃ x b, toldR m sg = (x, b) := ⟨_, _, rfl⟩
  have Lx : x < 18446744073709551616 := by have := toldR_lt m sg; rw [hx] at this; exact this
  have HX := Lib.hid hx
  have HV : verR y m sg = (b && decide (x = y)) := by unfold verR; rw [hx]
  rw [HV]
  have E := eql_d Lx hy
  have G := guard_d .eql x y
  obtain ⟨q, hq⟩ : ∃ q, q = decide (x = y) := ⟨_, rfl⟩
  rw [← hq] at E
  rw [← hq]
  clear hx HV hq
  unfold digV at E G
  cases b
  all_goals
    unfold digV
    go_enter Try.func35, Try.ntmps35
    go_upto_region 1 with fail
    generalize hW : World.alloc (World.alloc w (.cells #[.int .u8 (byt y 0), .int .u8 (byt y 1), .int .u8 (byt y 2), .int .u8 (byt y 3), .int .u8 (byt y 4), .int .u8 (byt y 5), .int .u8 (byt y 6), .int .u8 (byt y 7)] 31)) (.cells #[.int .u8 (byt m 0), .int .u8 (byt m 1), .int .u8 (byt m 2), .int .u8 (byt m 3), .int .u8 (byt m 4), .int .u8 (byt m 5), .int .u8 (byt m 6), .int .u8 (byt m 7)] 31) = W
    have DY : Hid (W.heap[w.heap.size]? = some (.cells #[.int .u8 (byt y 0), .int .u8 (byt y 1), .int .u8 (byt y 2), .int .u8 (byt y 3), .int .u8 (byt y 4), .int .u8 (byt y 5), .int .u8 (byt y 6), .int .u8 (byt y 7)] 31 (0, 0))) := by rw [← hW]; exact keepA (Go.heap_alloc_new w _)
    have D : Hid (W.heap[w.heap.size + 1]? = some (.cells #[.int .u8 (byt m 0), .int .u8 (byt m 1), .int .u8 (byt m 2), .int .u8 (byt m 3), .int .u8 (byt m 4), .int .u8 (byt m 5), .int .u8 (byt m 6), .int .u8 (byt m 7)] 31 (0, 0))) := by rw [← hW]; exact heap_alloc_newest (w := World.alloc _ _) (by simp)
    have B : Hid (Below w.heap.size w W) := by rw [← hW]; exact ext_trans (ext_alloc _ _) (ext_alloc _ _)
    clear hW
    obtain ⟨d0, d1, d2, d3, d4, d5, d6, d7, _, _, _, _, _, _, _, _⟩ := full8 D.out
    go_wp2_with fail
    rw [← show digV m = .agg #[.int .u8 (byt m 0), .int .u8 (byt m 1), .int .u8 (byt m 2), .int .u8 (byt m 3), .int .u8 (byt m 4), .int .u8 (byt m 5), .int .u8 (byt m 6), .int .u8 (byt m 7)] from rfl]
    refine (told_c _ m A n c sg (Lib.hid (h.out.ext B.out))).mono ?_
    unfold Tolds
    rw [HX.out]
    unfold digV
    rintro e w1 ⟨rfl, hb⟩
    replace DY := Lib.hid (keepB hb DY.out)
    replace B := Lib.hid (ext_trans B.out hb)
    clear hb d0 d1 d2 d3 d4 d5 d6 d7 D
    go_upto_region 2 with fail
    have DX : Hid ((World.alloc w1 (.cells #[.int .u8 (byt x 0), .int .u8 (byt x 1), .int .u8 (byt x 2), .int .u8 (byt x 3), .int .u8 (byt x 4), .int .u8 (byt x 5), .int .u8 (byt x 6), .int .u8 (byt x 7)] 31)).heap[w1.heap.size]? = some (.cells #[.int .u8 (byt x 0), .int .u8 (byt x 1), .int .u8 (byt x 2), .int .u8 (byt x 3), .int .u8 (byt x 4), .int .u8 (byt x 5), .int .u8 (byt x 6), .int .u8 (byt x 7)] 31 (0, 0))) := Go.heap_alloc_new w1 _
    replace DY := Lib.hid (keepA (x := .cells #[.int .u8 (byt x 0), .int .u8 (byt x 1), .int .u8 (byt x 2), .int .u8 (byt x 3), .int .u8 (byt x 4), .int .u8 (byt x 5), .int .u8 (byt x 6), .int .u8 (byt x 7)] 31) DY.out)
    replace B := Lib.hid (ext_trans B.out (ext_alloc w1 (.cells #[.int .u8 (byt x 0), .int .u8 (byt x 1), .int .u8 (byt x 2), .int .u8 (byt x 3), .int .u8 (byt x 4), .int .u8 (byt x 5), .int .u8 (byt x 6), .int .u8 (byt x 7)] 31)))
    generalize World.alloc w1 (.cells #[.int .u8 (byt x 0), .int .u8 (byt x 1), .int .u8 (byt x 2), .int .u8 (byt x 3), .int .u8 (byt x 4), .int .u8 (byt x 5), .int .u8 (byt x 6), .int .u8 (byt x 7)] 31) = V at *
    obtain ⟨x0, x1, x2, x3, x4, x5, x6, x7, _, _, _, _, _, _, _, _⟩ := full8 DX.out
    obtain ⟨y0, y1, y2, y3, y4, y5, y6, y7, _, _, _, _, _, _, _, _⟩ := full8 DY.out
    go_wp2_with fail
    go_ret
    exact ⟨by simp, B.out⟩
#print axioms verify_c
theorem ver_sign {s m : Nat} (hs : s < 18446744073709551616) : verR (pubN s) m (signB s m) = true := by
  unfold verR toldR
  rw [if_pos (signB_len s m), told_sign hs]
  simp
end Go.Proofs.Ytbhibfdlkahagaa
