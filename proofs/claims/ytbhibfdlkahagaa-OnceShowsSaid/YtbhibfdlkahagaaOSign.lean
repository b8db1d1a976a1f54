/-
  once: Sign: contract.
-/
import Derived.Test.YtbhibfdlkahagaaOClo
import Derived.Test.YtbhibfdlkahagaaODig8
import Derived.Deep.DeepCutAuto
namespace Go.Proofs.Ytbhibfdlkahagaa
open Go.RowKit

theorem Own.mono {w : World} {E : TypeId} {B B' : Nat} {A : Option Addr} {n c : Nat} {bs : List UInt8} (h : Own w E B A n c bs) (hb : B' ≤ B) : Own w E B' A n c bs :=
  ⟨h.len, h.max, h.row.1, h.row.2.imp id (fun ⟨g, cap, cur, h1, h2, h3⟩ => ⟨g, cap, cur, h1, Nat.le_trans hb h2, h3⟩)⟩

set_option maxRecDepth 100000 in
set_option maxHeartbeats 4000000 in
theorem sign_c (w : World) (s m : Nat) (hs : s < 18446744073709551616) : Calls Try.prog 27 #[digV s, digV m] w (Rows8 w (signB s m)) := by
  obtain ⟨SL, hSL⟩ : ∃ l, l = signL s m := ⟨_, rfl⟩
  have HSL : Hid (walkL (begN s) (dg m) = SL) := hSL.symm
  have LL : Hid (SL.length = 18) := by rw [hSL]; exact walkL_len _ _
  rw [show signB s m = bytesL SL by rw [hSL]; rfl]
  clear hSL
  unfold digV
  go_enter Try.func27, Try.ntmps27
  go_upto_region 1 with fail
  generalize hW : World.alloc (World.alloc w (.cells #[.int .u8 (byt s 0), .int .u8 (byt s 1), .int .u8 (byt s 2), .int .u8 (byt s 3), .int .u8 (byt s 4), .int .u8 (byt s 5), .int .u8 (byt s 6), .int .u8 (byt s 7)] 31)) (.cells #[.int .u8 (byt m 0), .int .u8 (byt m 1), .int .u8 (byt m 2), .int .u8 (byt m 3), .int .u8 (byt m 4), .int .u8 (byt m 5), .int .u8 (byt m 6), .int .u8 (byt m 7)] 31) = W
  have DS : Hid (W.heap[w.heap.size]? = some (.cells #[.int .u8 (byt s 0), .int .u8 (byt s 1), .int .u8 (byt s 2), .int .u8 (byt s 3), .int .u8 (byt s 4), .int .u8 (byt s 5), .int .u8 (byt s 6), .int .u8 (byt s 7)] 31 (0, 0))) := by rw [← hW]; exact keepA (Go.heap_alloc_new w _)
  have D : Hid (W.heap[w.heap.size + 1]? = some (.cells #[.int .u8 (byt m 0), .int .u8 (byt m 1), .int .u8 (byt m 2), .int .u8 (byt m 3), .int .u8 (byt m 4), .int .u8 (byt m 5), .int .u8 (byt m 6), .int .u8 (byt m 7)] 31 (0, 0))) := by rw [← hW]; exact heap_alloc_newest (w := World.alloc _ _) (by simp)
  have B : Hid (Below w.heap.size w W) := by rw [← hW]; exact ext_trans (ext_alloc _ _) (ext_alloc _ _)
  clear hW
  obtain ⟨d0, d1, d2, d3, d4, d5, d6, d7, _, _, _, _, _, _, _, _⟩ := full8 D.out
  go_wp2_with fail
  rw [← show digV m = .agg #[.int .u8 (byt m 0), .int .u8 (byt m 1), .int .u8 (byt m 2), .int .u8 (byt m 3), .int .u8 (byt m 4), .int .u8 (byt m 5), .int .u8 (byt m 6), .int .u8 (byt m 7)] from rfl]
  refine (reach_c _ m).mono ?_
  unfold digV18
  rintro e w1 ⟨rfl, hb⟩
  replace DS := Lib.hid (keepB hb DS.out)
  replace B := Lib.hid (ext_trans B.out hb)
  clear hb d0 d1 d2 d3 d4 d5 d6 d7 D
  go_upto_region 2 with fail
  have DM : Hid ((World.alloc w1 (.cells #[.int .i64 (dg m 0), .int .i64 (dg m 1), .int .i64 (dg m 2), .int .i64 (dg m 3), .int .i64 (dg m 4), .int .i64 (dg m 5), .int .i64 (dg m 6), .int .i64 (dg m 7), .int .i64 (dg m 8), .int .i64 (dg m 9), .int .i64 (dg m 10), .int .i64 (dg m 11), .int .i64 (dg m 12), .int .i64 (dg m 13), .int .i64 (dg m 14), .int .i64 (dg m 15), .int .i64 (dg m 16), .int .i64 (dg m 17)] 42)).heap[w1.heap.size]? = some (.cells (digA18 m) 42 (0, 0))) := Go.heap_alloc_new w1 _
  replace DS := Lib.hid (keepA (x := .cells #[.int .i64 (dg m 0), .int .i64 (dg m 1), .int .i64 (dg m 2), .int .i64 (dg m 3), .int .i64 (dg m 4), .int .i64 (dg m 5), .int .i64 (dg m 6), .int .i64 (dg m 7), .int .i64 (dg m 8), .int .i64 (dg m 9), .int .i64 (dg m 10), .int .i64 (dg m 11), .int .i64 (dg m 12), .int .i64 (dg m 13), .int .i64 (dg m 14), .int .i64 (dg m 15), .int .i64 (dg m 16), .int .i64 (dg m 17)] 42) DS.out)
  replace B := Lib.hid (ext_trans B.out (ext_alloc w1 (.cells #[.int .i64 (dg m 0), .int .i64 (dg m 1), .int .i64 (dg m 2), .int .i64 (dg m 3), .int .i64 (dg m 4), .int .i64 (dg m 5), .int .i64 (dg m 6), .int .i64 (dg m 7), .int .i64 (dg m 8), .int .i64 (dg m 9), .int .i64 (dg m 10), .int .i64 (dg m 11), .int .i64 (dg m 12), .int .i64 (dg m 13), .int .i64 (dg m 14), .int .i64 (dg m 15), .int .i64 (dg m 16), .int .i64 (dg m 17)] 42)))
  generalize World.alloc w1 (.cells #[.int .i64 (dg m 0), .int .i64 (dg m 1), .int .i64 (dg m 2), .int .i64 (dg m 3), .int .i64 (dg m 4), .int .i64 (dg m 5), .int .i64 (dg m 6), .int .i64 (dg m 7), .int .i64 (dg m 8), .int .i64 (dg m 9), .int .i64 (dg m 10), .int .i64 (dg m 11), .int .i64 (dg m 12), .int .i64 (dg m 13), .int .i64 (dg m 14), .int .i64 (dg m 15), .int .i64 (dg m 16), .int .i64 (dg m 17)] 42) = V at *
  go_wp2_with fail
  refine (walkSign_c V (begN s) (dg m) (Lib.hid (fun c hc => begN_lt hs (by omega))) ⟨w.heap.size, 0, none⟩ ⟨w1.heap.size, 0, none⟩ (Lib.hid (fun v hv k hk => sign1_c V s hs w.heap.size DS m w1.heap.size DM v hv k hk))).mono ?_
  unfold Walked
  rw [HSL.out]
  rintro e w2 ⟨b, rfl, hr, hb⟩
  have RD := Lib.hid hr
  replace B := Lib.hid (ext_trans B.out hb)
  clear hr hb DM DS
  have z2 : w.heap.size ≤ w2.heap.size := B.out.size
  obtain ⟨i0, hi, hz0, hz1, hz2⟩ := info_parts infoU8
  have HI := Lib.hid hi
  have HZ0 := Lib.hid hz0
  have HZ1 := Lib.hid hz1
  have HZ2 := Lib.hid hz2
  clear hi hz0 hz1 hz2
  go_wp2_with (refine wpList_make_any (o := ⟨some 14, _, _, _, _, _⟩) _ rfl (.const (.int .i64 0)) (.const (.int .i64 144)) 22 rfl w2.heap.size 5 i0 (.int .u8 0) Try.underlying22 HI.out HZ0.out HZ1.out rfl 1 HZ2.out .i64 .i64 _ _ 0 144 rfl rfl rfl rfl (by omega) (by omega) (by omega) (Nat.le_refl _) ?_; intro w3 hrow hgr; have O3 : Hid (Own w3 5 w2.heap.size (some ⟨w2.heap.size, 0, none⟩) 0 144 []) := ⟨rfl, by omega, hrow⟩; have C3 : Hid (Below w2.heap.size w2 w3) := below_grown (Below.refl _ _) (Nat.le_refl _) hgr (fun k hk => by cases hk); clear hrow hgr; go_simp)
  go_loopw [7, 17] (fun ov iv wr => ∃ (k : Nat) (A' : Option Addr) (c' : Nat), k ≤ 18 ∧ iv = .int .i64 k ∧ ov = .slice A' (8 * k) c' ∧ Hid (Own wr 5 w2.heap.size A' (8 * k) c' (bytesL (SL.take k))) ∧ Hid (Below w2.heap.size w2 wr)) (fun _ iv _ => 18 - (intOf iv).toNat)
  case atStart => exact ⟨0, _, _, by omega, rfl, rfl, O3.out, C3.out⟩
  case round =>
    clear O3 C3
    rename World => w4
    obtain ⟨k, A', c', hk, rfl, rfl, O, C⟩ := hrel
    by_cases hlt : k < 18
    · have hltI : (k : Int) < 18 := by omega
      have hkI : (0 : Int) ≤ (k : Int) := by omega
      obtain ⟨b0, o0, hA, hb0, hc0⟩ := RD.out.cells (by omega)
      injection hA with hA
      injection hA with e1 e2
      subst e1 e2
      obtain ⟨x, hx⟩ : ∃ x, x = SL.getD k 0 := ⟨_, rfl⟩
      have HC : Hid (∀ i, i < 8 → w4.cell? ⟨b, k * 8 + i, none⟩ = some (.int .u8 (byt x i))) := fun i hi => by
        have := (C.out.cell (p := ⟨b, 0 + (k * 8 + i), none⟩) hb0).trans (hc0 k hlt i hi)
        rw [Nat.zero_add, ← hx] at this
        exact this
      have HT : Hid (bytesL (SL.take (k + 1)) = bytesL (SL.take k) ++ dig8 x) := by rw [hx]; exact bytesL_take SL k (by rw [LL.out]; exact hlt)
      clear hc0 hx
      obtain ⟨x0, x1, x2, x3, x4, x5, x6, x7⟩ := (⟨HC.out 0 (by omega), HC.out 1 (by omega), HC.out 2 (by omega), HC.out 3 (by omega), HC.out 4 (by omega), HC.out 5 (by omega), HC.out 6 (by omega), HC.out 7 (by omega)⟩ : _ ∧ _ ∧ _ ∧ _ ∧ _ ∧ _ ∧ _ ∧ _)
      rw [Nat.add_zero] at x0
      go_upto_region 7 with fail
      have DX : Hid ((World.alloc w4 (.cells #[.int .u8 (byt x 0), .int .u8 (byt x 1), .int .u8 (byt x 2), .int .u8 (byt x 3), .int .u8 (byt x 4), .int .u8 (byt x 5), .int .u8 (byt x 6), .int .u8 (byt x 7)] 31)).heap[w4.heap.size]? = some (.cells #[.int .u8 (byt x 0), .int .u8 (byt x 1), .int .u8 (byt x 2), .int .u8 (byt x 3), .int .u8 (byt x 4), .int .u8 (byt x 5), .int .u8 (byt x 6), .int .u8 (byt x 7)] 31 (0, 0))) := Go.heap_alloc_new w4 _
      replace O := Lib.hid (O.out.ext (ext_alloc w4 (.cells #[.int .u8 (byt x 0), .int .u8 (byt x 1), .int .u8 (byt x 2), .int .u8 (byt x 3), .int .u8 (byt x 4), .int .u8 (byt x 5), .int .u8 (byt x 6), .int .u8 (byt x 7)] 31)))
      replace C := Lib.hid (C.out.trans ((ext_alloc w4 (.cells #[.int .u8 (byt x 0), .int .u8 (byt x 1), .int .u8 (byt x 2), .int .u8 (byt x 3), .int .u8 (byt x 4), .int .u8 (byt x 5), .int .u8 (byt x 6), .int .u8 (byt x 7)] 31)).mono C.out.size))
      generalize World.alloc w4 (.cells #[.int .u8 (byt x 0), .int .u8 (byt x 1), .int .u8 (byt x 2), .int .u8 (byt x 3), .int .u8 (byt x 4), .int .u8 (byt x 5), .int .u8 (byt x 6), .int .u8 (byt x 7)] 31) = w5 at *
      clear x0 x1 x2 x3 x4 x5 x6 x7 HC
      go_wp2_with (refine wpList_push_all (o := ⟨some 23, _, _, _, _, _⟩) rfl (.tmp 21) (.tmp 22) 22 22 rfl 5 Try.underlying22 infoU8 w2.heap.size A' (8 * k) c' _ (by rfl) O.out _ 8 (dig8 x) (by rfl) ((Rd.ofDig DX.out).src Try.underlying22) (by omega) C.out.size ?_; intro A6 c6 w6 ho hb; rw [show 8 * k + 8 = 8 * (k + 1) by omega]; have O6 : Hid (Own w6 5 w2.heap.size A6 (8 * (k + 1)) c6 (bytesL (SL.take (k + 1)))) := (by rw [HT.out, show 8 * (k + 1) = 8 * k + 8 by omega]; exact ho); have C6 := Lib.hid (C.out.trans hb); clear ho hb; go_simp)
      exact ⟨⟨k + 1, A6, c6, by omega, by go_num, rfl, O6.out, C6.out⟩, by simp [intOf]; omega⟩
    · obtain rfl : k = 18 := by omega
      go_wp2_with fail
      go_ret
      have ho := O.out
      rw [List.take_of_length_le (by rw [LL.out]; omega)] at ho
      exact ⟨_, _, _, rfl, ho.mono z2, B.out.trans (C.out.mono z2)⟩
#print axioms sign_c
end Go.Proofs.Ytbhibfdlkahagaa
