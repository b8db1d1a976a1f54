/-
  once: the document's Public: contract.
-/
import Derived.Test.YtbhibfdlkahagaaORBeg
import Derived.Test.YtbhibfdlkahagaaHManyR
namespace Go.Proofs.Ytbhibfdlkahagaa
open Go.RowKit

theorem walkL_take (g st : Nat → Nat) {k : Nat} (h : k < 18) : (walkL g st).take (k + 1) = (walkL g st).take k ++ [chainI (g k) (st k)] := by
  rw [List.take_add_one]
  congr 1
  simp [walkL, h]

set_option maxRecDepth 100000 in
set_option maxHeartbeats 4000000 in
theorem rpublic_c (w : World) (s : Nat) (hs : s < 18446744073709551616) : Calls Try.prog 25 #[digV s] w (Hands (digV (pubN s)) w) := by
  obtain ⟨SL, hSL⟩ : ∃ l, l = walkL (begN s) (fun _ => 15) := ⟨_, rfl⟩
  have LL : SL.length = 18 := by rw [hSL]; exact walkL_len _ _
  have TK : Hid (∀ k, k < 18 → SL.take (k + 1) = SL.take k ++ [chainI (begN s k) 15]) := by rw [hSL]; exact fun k hk => walkL_take _ _ hk
  obtain ⟨x, hx⟩ : ∃ x, x = pubN s := ⟨_, rfl⟩
  have HX : Hid (manyN SL = x) := by rw [hSL, hx]; exact rfl
  rw [← hx]
  clear hSL hx
  unfold digV
  go_enter Try.func25, Try.ntmps25
  go_upto_region 1 with fail
  generalize hW : World.alloc (World.alloc w (.cells #[.int .u8 (byt s 0), .int .u8 (byt s 1), .int .u8 (byt s 2), .int .u8 (byt s 3), .int .u8 (byt s 4), .int .u8 (byt s 5), .int .u8 (byt s 6), .int .u8 (byt s 7)] 30)) (.cells #[.int .u8 0, .int .u8 0, .int .u8 0, .int .u8 0, .int .u8 0, .int .u8 0, .int .u8 0, .int .u8 0] 30) = W
  have DS : Hid (W.heap[w.heap.size]? = some (.cells #[.int .u8 (byt s 0), .int .u8 (byt s 1), .int .u8 (byt s 2), .int .u8 (byt s 3), .int .u8 (byt s 4), .int .u8 (byt s 5), .int .u8 (byt s 6), .int .u8 (byt s 7)] 30 (0, 0))) := by rw [← hW]; exact keepA (Go.heap_alloc_new w _)
  have R : Hid (W.heap[w.heap.size + 1]? = some (.cells #[.int .u8 0, .int .u8 0, .int .u8 0, .int .u8 0, .int .u8 0, .int .u8 0, .int .u8 0, .int .u8 0] 30 (0, 0))) := by rw [← hW]; exact heap_alloc_newest (w := World.alloc _ _) (by simp)
  have B : Hid (Below w.heap.size w W) := by rw [← hW]; exact ext_trans (ext_alloc _ _) (ext_alloc _ _)
  clear hW
  have ZW : w.heap.size + 1 < W.heap.size := (Array.getElem?_eq_some_iff.1 R.out).1
  go_wp2_with fail
  go_loopw [3, 4] (fun ov iv wr => ∃ (k : Nat) (A : Option Addr) (c : Nat), k ≤ 18 ∧ iv = .int .i64 k ∧ ov = .slice A k c ∧ Hid (OwnD wr 30 W.heap.size A k c (SL.take k)) ∧ Hid (Below W.heap.size W wr)) (fun _ iv _ => 18 - (intOf iv).toNat)
  case atStart => exact ⟨0, none, 0, by omega, rfl, rfl, OwnD.void _ _ _, Below.refl _ _⟩
  case round =>
    rename World => w2
    obtain ⟨k, A, c, hk, rfl, rfl, O, BW⟩ := hrel
    have DS2 := Lib.hid (keepB BW.out DS.out)
    by_cases hlt : k < 18
    · have hltI : (k : Int) < 18 := by omega
      have Lb : begN s k < 18446744073709551616 := begN_lt hs (by omega)
      obtain ⟨y, hy⟩ : ∃ y, y = chainI (begN s k) 15 := ⟨_, rfl⟩
      have HY : Hid (chainI (begN s k) 15 = y) := hy.symm
      have Ly : y < 18446744073709551616 := by rw [hy]; exact chainI_lt Lb _
      have TKk : Hid (SL.take (k + 1) = SL.take k ++ [y]) := by show _ = _; rw [TK.out k hlt, hy]
      obtain ⟨g, hg⟩ : ∃ g, g = begN s k := ⟨_, rfl⟩
      have HG : Hid (begN s k = g) := hg.symm
      rw [← hg] at HY Lb
      clear hy hg
      obtain ⟨s0, s1, s2, s3, s4, s5, s6, s7, _, _, _, _, _, _, _, _⟩ := full8 DS2.out; 
      go_wp2_with fail
      rw [← show digV s = .agg #[.int .u8 (byt s 0), .int .u8 (byt s 1), .int .u8 (byt s 2), .int .u8 (byt s 3), .int .u8 (byt s 4), .int .u8 (byt s 5), .int .u8 (byt s 6), .int .u8 (byt s 7)] from rfl]
      refine (rbegin_c _ s k hs hlt).mono ?_
      rw [HG.out]
      rintro e w3 ⟨rfl, hb⟩
      replace O := Lib.hid (O.out.ext hb)
      replace BW := Lib.hid (ext_trans BW.out hb)
      clear hb s0 s1 s2 s3 s4 s5 s6 s7 DS2
      go_wp2_with fail
      refine (rchain_c _ g Lb 15).mono ?_
      rw [HY.out]
      unfold digV
      rintro e w4 ⟨rfl, hb⟩
      replace O := Lib.hid (O.out.ext hb)
      replace BW := Lib.hid (ext_trans BW.out hb)
      have zz : W.heap.size ≤ w4.heap.size := BW.out.size
      clear hb
      go_wp2_with (refine wpList_pushR (o := ⟨some 15, _, _, _, _, _⟩) rfl (.tmp 9) (.tmp 14) rfl W.heap.size A k c (SL.take k) (by rfl) O.out y Ly (by rfl) (by omega) zz ?_; intro A2 c2 w5 ho hb2; go_simp)
      exact ⟨⟨k + 1, A2, c2, by omega, by go_num, rfl, by rw [TKk.out]; exact ho, BW.out.trans hb2⟩, by simp [intOf]; omega⟩
    · obtain rfl : k = 18 := by omega
      have RD : Hid (RdD w2 A 18 c SL) := by have := O.out.rd; rw [List.take_of_length_le (by omega)] at this; exact this
      go_wp2_with fail
      refine (rmany_c _ A 18 c SL RD).mono ?_
      rw [HX.out]
      unfold digV
      rintro e w3 ⟨rfl, hb⟩
      replace BW := Lib.hid (ext_trans BW.out hb)
      replace R := Lib.hid (keepB BW.out R.out)
      replace B := Lib.hid (ext_trans B.out BW.out)
      clear hb
      obtain ⟨q0, q1, q2, q3, q4, q5, q6, q7, f0, f1, f2, f3, f4, f5, f6, f7⟩ := full8 R.out
      go_wp2_with fail
      obtain ⟨g0, g1, g2, g3, g4, g5, g6, g7⟩ := put8 R.out (.int .u8 (byt x 0)) (.int .u8 (byt x 1)) (.int .u8 (byt x 2)) (.int .u8 (byt x 3)) (.int .u8 (byt x 4)) (.int .u8 (byt x 5)) (.int .u8 (byt x 6)) (.int .u8 (byt x 7))
      refine bodyPost_ret (v := digV x) (by unfold digV; simp only [results, Try.results25]; simp [go_sem, g0, g1, g2, g3, g4, g5, g6, g7]) rfl ⟨by unfold digV; rfl, bel8 B.out (Nat.le_refl _) (by omega) _ _ _ _ _ _ _ _⟩
#print axioms rpublic_c
end Go.Proofs.Ytbhibfdlkahagaa
