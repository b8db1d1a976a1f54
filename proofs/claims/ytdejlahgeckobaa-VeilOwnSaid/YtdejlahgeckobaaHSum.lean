/-
  hash: Sum: contract.
-/
import Derived.Test.YtdejlahgeckobaaHWrite
namespace Go.Proofs.Ytdejlahgeckobaa
open Go.RowKit

set_option maxRecDepth 100000 in
set_option maxHeartbeats 2000000 in
theorem sum_c (w : World) (T : TypeId) (B0 b : Nat) (A : Option Addr) (n c : Nat) (bs : List UInt8) (h : Hid (WrAt w T b (.slice A n c) (eightsS (begin 1) bs))) (ho : Hid (Own w 5 B0 A n c bs)) (hn : n ≤ 1000000000) :
    Calls Try.prog 21 #[.pointer (some ⟨b, 0, none⟩)] w (Hands (digV (ofN bs)) w) := by
  have HL := Lib.hid ho.out.len
  have hle := ho.out.rd.le
  have hmax := ho.out.max
  obtain ⟨t, ht⟩ : ∃ t, t = n - n % 8 := ⟨_, rfl⟩
  have tI : (n : Int) - (n : Int) % 8 = (t : Int) := by omega
  have tn : t ≤ n := by omega
  have t8 : n - t < 8 := by omega
  have tnI : (t : Int) ≤ (n : Int) := by omega
  have t0 : (0 : Int) ≤ (t : Int) := by omega
  have tW : IntKind.i64.wrap ((n : Int) - (n : Int).tmod 8) = (t : Int) := by rw [Int.tmod_eq_emod_of_nonneg (by omega), tI]; exact IntWalk.i64_in _ (by omega)
  have tW0 : IntKind.i64.wrap 0 = 0 := by decide
  have HR : Hid (bs.drop t = rest8 bs) := by
    show _ = _
    unfold rest8
    rw [HL.out]
    congr 1
    omega
  have zb : b < w.heap.size := (Array.getElem?_eq_some_iff.1 h.out.blk).1
  obtain ⟨x, hx⟩ : ∃ x, x = ofN bs := ⟨_, rfl⟩
  rw [← hx]
  obtain ⟨s, hs⟩ : ∃ s, s = eightsS (begin 1) bs := ⟨_, rfl⟩
  have HX : Hid (outN (endS s (bs.drop t) n) = x) := by show _ = _; rw [hx, HR.out, hs, ← HL.out]; rfl
  rw [← hs] at h
  have OK := Lib.hid h.out.ok
  clear hx hs ht HR
  have hblk := h.out.blk
  have c0 : w.cell? ⟨b, 0, none⟩ = some (.slice A n c) := by rw [cell_of_row w b 0 _ _ _ hblk]; rfl
  have c1 : w.cell? ⟨b, 1, none⟩ = some (.int .u64 s.a) := by rw [cell_of_row w b 1 _ _ _ hblk]; rfl
  have c2 : w.cell? ⟨b, 2, none⟩ = some (.int .u64 s.b) := by rw [cell_of_row w b 2 _ _ _ hblk]; rfl
  have c3 : w.cell? ⟨b, 3, none⟩ = some (.int .u64 s.c) := by rw [cell_of_row w b 3 _ _ _ hblk]; rfl
  have c4 : w.cell? ⟨b, 4, none⟩ = some (.int .u64 s.d) := by rw [cell_of_row w b 4 _ _ _ hblk]; rfl
  clear hblk
  go_enter Try.func21, Try.ntmps21
  go_upto_region 4 with fail
  have S : Hid (StAt (World.alloc (World.alloc w (.cells #[.int .u8 0, .int .u8 0, .int .u8 0, .int .u8 0, .int .u8 0, .int .u8 0, .int .u8 0, .int .u8 0] 31)) (.cells #[.int .u64 s.a, .int .u64 s.b, .int .u64 s.c, .int .u64 s.d] 71)) 71 (w.heap.size + 1) s) := ⟨heap_alloc_newest (w := World.alloc _ _) (by simp), OK.out⟩
  have R : Hid ((World.alloc (World.alloc w (.cells #[.int .u8 0, .int .u8 0, .int .u8 0, .int .u8 0, .int .u8 0, .int .u8 0, .int .u8 0, .int .u8 0] 31)) (.cells #[.int .u64 s.a, .int .u64 s.b, .int .u64 s.c, .int .u64 s.d] 71)).heap[w.heap.size]? = some (.cells #[.int .u8 0, .int .u8 0, .int .u8 0, .int .u8 0, .int .u8 0, .int .u8 0, .int .u8 0, .int .u8 0] 31 (0, 0))) := keepA (Go.heap_alloc_new w _)
  have B : Hid (Below w.heap.size w (World.alloc (World.alloc w (.cells #[.int .u8 0, .int .u8 0, .int .u8 0, .int .u8 0, .int .u8 0, .int .u8 0, .int .u8 0, .int .u8 0] 31)) (.cells #[.int .u64 s.a, .int .u64 s.b, .int .u64 s.c, .int .u64 s.d] 71))) := ext_trans (ext_alloc _ _) (ext_alloc _ _)
  generalize World.alloc (World.alloc w (.cells #[.int .u8 0, .int .u8 0, .int .u8 0, .int .u8 0, .int .u8 0, .int .u8 0, .int .u8 0, .int .u8 0] 31)) (.cells #[.int .u64 s.a, .int .u64 s.b, .int .u64 s.c, .int .u64 s.d] 71) = w2 at *
  have c20 : w2.cell? ⟨b, 0, none⟩ = some (.slice A n c) := (B.out.cell (p := ⟨b, 0, none⟩) zb).trans c0
  have RF : Hid (RdF w2 (w.heap.size + 1) A n c bs) := RdF.old ho.out.rd B.out (by omega)
  have hsh := ho.out.shape
  have S2 : Hid (StAt w2.drew 71 (w.heap.size + 1) s) := ⟨S.out.blk, S.out.ok⟩
  clear c0 c1 c2 c3 c4 S h ho
  rcases hsh with ⟨rfl, hn0, rfl⟩ | ⟨g, rfl, hg1, hg2, hg3⟩
  · obtain rfl : n = 0 := by omega
    obtain rfl : t = 0 := by omega
    have RF2 : Hid (RdF w2.drew (w.heap.size + 1) none 0 0 (bs.drop 0)) := fun v hv => RF.out v (grown_then (draws_grown w2 1) hv)
    go_still_tail 22, (by kernel_rfl)
    change wpList _ _ _ _ _ w2.drew
    go_wp2_with fail
    refine (end_c _ _ _ _ _ _ RF2 (by omega) _ S2 _ (by first | omega | decide)).mono ?_
    rintro e w3 ⟨rfl, hs, hg⟩
    have S3 := Lib.hid hs
    replace R := Lib.hid (keepG hg (by omega) (show w2.drew.heap[w.heap.size]? = _ from R.out))
    replace B := Lib.hid (below_grown B.out (Nat.le_trans B.out.size (Nat.le_refl _)) (grown_then (draws_grown w2 1) hg) (fun k hk => by injection hk with hk; omega))
    clear hs hg
    go_wp2_with fail
    refine (digest_c _ _ _ S3).mono ?_
    rw [HX.out]
    unfold digV
    rintro e w4 ⟨rfl, hb4⟩
    replace R := Lib.hid (keepB hb4 R.out)
    replace B := Lib.hid (ext_trans B.out hb4)
    obtain ⟨q0, q1, q2, q3, q4, q5, q6, q7, f0, f1, f2, f3, f4, f5, f6, f7⟩ := full8 R.out
    clear hb4
    go_wp2_with fail
    obtain ⟨g0, g1, g2, g3, g4, g5, g6, g7⟩ := put8 R.out (.int .u8 (byt x 0)) (.int .u8 (byt x 1)) (.int .u8 (byt x 2)) (.int .u8 (byt x 3)) (.int .u8 (byt x 4)) (.int .u8 (byt x 5)) (.int .u8 (byt x 6)) (.int .u8 (byt x 7))
    refine bodyPost_ret (v := digV x) (by unfold digV; simp only [results, Try.results21]; simp [go_sem, g0, g1, g2, g3, g4, g5, g6, g7]) rfl ⟨by unfold digV; rfl, bel8 B.out (Nat.le_refl _) (by omega) _ _ _ _ _ _ _ _⟩
  · by_cases htc : t < c
    · have tI2 : (t : Int) < (c : Int) := by omega
      have RF2 : Hid (RdF w2.drew (w.heap.size + 1) (some ⟨g, 0 + t, none⟩) (n - t) (c - t) (bs.drop t)) := fun v hv => (RF.out v (grown_then (draws_grown w2 1) hv)).from1 (by omega)
      rw [Nat.zero_add] at RF2
      go_still_tail 22, (by kernel_rfl)
      change wpList _ _ _ _ _ w2.drew
      go_wp2_with fail
      refine (end_c _ _ _ _ _ _ RF2 (by omega) _ S2 _ (by first | omega | decide)).mono ?_
      rintro e w3 ⟨rfl, hs, hg⟩
      have S3 := Lib.hid hs
      replace R := Lib.hid (keepG hg (by omega) (show w2.drew.heap[w.heap.size]? = _ from R.out))
      replace B := Lib.hid (below_grown B.out (Nat.le_trans B.out.size (Nat.le_refl _)) (grown_then (draws_grown w2 1) hg) (fun k hk => by injection hk with hk; omega))
      clear hs hg
      go_wp2_with fail
      refine (digest_c _ _ _ S3).mono ?_
      rw [HX.out]
      unfold digV
      rintro e w4 ⟨rfl, hb4⟩
      replace R := Lib.hid (keepB hb4 R.out)
      replace B := Lib.hid (ext_trans B.out hb4)
      obtain ⟨q0, q1, q2, q3, q4, q5, q6, q7, f0, f1, f2, f3, f4, f5, f6, f7⟩ := full8 R.out
      clear hb4
      go_wp2_with fail
      obtain ⟨g0, g1, g2, g3, g4, g5, g6, g7⟩ := put8 R.out (.int .u8 (byt x 0)) (.int .u8 (byt x 1)) (.int .u8 (byt x 2)) (.int .u8 (byt x 3)) (.int .u8 (byt x 4)) (.int .u8 (byt x 5)) (.int .u8 (byt x 6)) (.int .u8 (byt x 7))
      refine bodyPost_ret (v := digV x) (by unfold digV; simp only [results, Try.results21]; simp [go_sem, g0, g1, g2, g3, g4, g5, g6, g7]) rfl ⟨by unfold digV; rfl, bel8 B.out (Nat.le_refl _) (by omega) _ _ _ _ _ _ _ _⟩
    · obtain rfl : t = c := by omega
      obtain rfl : n = t := by omega
      have RF2 : Hid (RdF w2.drew (w.heap.size + 1) (some ⟨g, 0, none⟩) 0 0 (bs.drop n)) := fun v hv => Rd.from0 (RF.out v (grown_then (draws_grown w2 1) hv))
      go_still_tail 22, (by kernel_rfl)
      change wpList _ _ _ _ _ w2.drew
      go_wp2_with fail
      refine (end_c _ _ _ _ _ _ RF2 (by omega) _ S2 _ (by first | omega | decide)).mono ?_
      rintro e w3 ⟨rfl, hs, hg⟩
      have S3 := Lib.hid hs
      replace R := Lib.hid (keepG hg (by omega) (show w2.drew.heap[w.heap.size]? = _ from R.out))
      replace B := Lib.hid (below_grown B.out (Nat.le_trans B.out.size (Nat.le_refl _)) (grown_then (draws_grown w2 1) hg) (fun k hk => by injection hk with hk; omega))
      clear hs hg
      go_wp2_with fail
      refine (digest_c _ _ _ S3).mono ?_
      rw [HX.out]
      unfold digV
      rintro e w4 ⟨rfl, hb4⟩
      replace R := Lib.hid (keepB hb4 R.out)
      replace B := Lib.hid (ext_trans B.out hb4)
      obtain ⟨q0, q1, q2, q3, q4, q5, q6, q7, f0, f1, f2, f3, f4, f5, f6, f7⟩ := full8 R.out
      clear hb4
      go_wp2_with fail
      obtain ⟨g0, g1, g2, g3, g4, g5, g6, g7⟩ := put8 R.out (.int .u8 (byt x 0)) (.int .u8 (byt x 1)) (.int .u8 (byt x 2)) (.int .u8 (byt x 3)) (.int .u8 (byt x 4)) (.int .u8 (byt x 5)) (.int .u8 (byt x 6)) (.int .u8 (byt x 7))
      refine bodyPost_ret (v := digV x) (by unfold digV; simp only [results, Try.results21]; simp [go_sem, g0, g1, g2, g3, g4, g5, g6, g7]) rfl ⟨by unfold digV; rfl, bel8 B.out (Nat.le_refl _) (by omega) _ _ _ _ _ _ _ _⟩
#print axioms sum_c

/-- the call hands back a new Writer without bytes -/
def NewW (T : TypeId) (w : World) (e : Ending) (w' : World) : Prop := ∃ b, w.heap.size ≤ b ∧ e = .returned (.pointer (some ⟨b, 0, none⟩)) ∧ WrAt w' T b (.slice none 0 0) (eightsS (begin 1) []) ∧ Below w.heap.size w w'
set_option maxRecDepth 100000 in
theorem newWriter_c (w : World) : Calls Try.prog 16 #[] w (NewW 74 w) := by
  have OK := Lib.hid (begin_ok (k := 1) (by omega))
  go_enter Try.func16, Try.ntmps16
  go_wp2_with fail
  refine (start_c _ 1 1 rfl).mono ?_
  unfold stV
  rintro e w1 ⟨rfl, hb⟩
  have B := Lib.hid hb
  clear hb
  go_wp2_with fail
  go_ret
  exact ⟨_, B.out.size, rfl, ⟨Go.heap_alloc_new w1 _, OK.out⟩, ext_trans B.out (ext_alloc _ _)⟩
#print axioms newWriter_c

set_option maxRecDepth 100000 in
theorem writeNil_c (w : World) (A : Option Addr) (n c : Nat) : Calls Try.prog 17 #[.pointer none, .slice A n c] w (fun e w' => e = .returned (.tuple #[]) ∧ Below w.heap.size w w') := by
  go_enter Try.func17, Try.ntmps17
  go_wp2_with fail
  refine bodyPost_ret (results_none rfl _ _ _) rfl ⟨rfl, Below.refl _ _⟩
#print axioms writeNil_c
end Go.Proofs.Ytdejlahgeckobaa
