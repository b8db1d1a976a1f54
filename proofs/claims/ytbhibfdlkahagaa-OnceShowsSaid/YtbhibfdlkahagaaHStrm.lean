/-
  hash: Stream: the contract.
-/
import Derived.Test.YtbhibfdlkahagaaHStrm0
namespace Go.Proofs.Ytbhibfdlkahagaa
open Go.RowKit

/-- the call hands back a row of its own of these bytes -/
def Rows8 (w : World) (bs : List UInt8) (e : Ending) (w' : World) : Prop :=
  ∃ A n c, e = .returned (.slice A n c) ∧ Own w' 5 w.heap.size A n c bs ∧ Below w.heap.size w w'
theorem Own.void (w : World) (E : TypeId) (B : Nat) : Own w E B none 0 0 [] := ⟨rfl, by omega, World.ownsRow_nil w B E 1⟩
theorem StAt.keepG {w w' : World} {T : TypeId} {b : Nat} {s : St} (h : StAt w T b s) {g : Nat} (hg : w.grownBy w' (some g)) (hne : b ≠ g) : StAt w' T b s := ⟨Go.Proofs.Ytbhibfdlkahagaa.keepG hg hne h.blk, h.ok⟩
theorem Own.keptG {w w' : World} {E : TypeId} {B g n c : Nat} {bs : List UInt8} (h : Own w E B (some ⟨g, 0, none⟩) n c bs) {k : Nat} (hk : w.grownBy w' (some k)) (hne : g ≠ k) : Own w' E B (some ⟨g, 0, none⟩) n c bs :=
  ⟨h.len, h.max, h.row.kept hk (.inr (by simpa [Value.ownBlock] using hne))⟩
theorem Rd.lit8 {w : World} {b : Nat} {T : TypeId} {x : Nat} (h : w.heap[b]? = some (.cells #[.int .u8 (byt x 0), .int .u8 (byt x 1), .int .u8 (byt x 2), .int .u8 (byt x 3), .int .u8 (byt x 4), .int .u8 (byt x 5), .int .u8 (byt x 6), .int .u8 (byt x 7)] T (0, 0))) :
    Rd w (some ⟨b, 0, none⟩) 8 8 (bytesOf x) :=
  ⟨rfl, Nat.le_refl _, by omega, fun _ => ⟨b, 0, rfl, (Array.getElem?_eq_some_iff.1 h).1, fun j hj => by
    rw [cell_of_row w b (0 + j) _ _ _ h, ← Array.getElem?_toList, Nat.zero_add, ← U8_bytesOf x]
    exact U8_getD (by simpa [bytesOf] using hj)⟩, fun h => by cases h⟩

set_option maxRecDepth 100000 in
set_option maxHeartbeats 1000000 in
theorem stream_c (w : World) (d : Nat) (hd : d < 18446744073709551616) (K : Int) : Calls Try.prog 21 #[digV d, .int .i64 K] w (Rows8 w (streamI d K)) := by
  by_cases hk : 1 ≤ K ∧ K ≤ 1048576
  · obtain ⟨N, rfl⟩ : ∃ N : Nat, K = N := ⟨K.toNat, by omega⟩
    have hN1 : 1 ≤ N := by omega
    have hN2 : N ≤ 1048576 := by omega
    have HX : Hid (streamI d N = stream d N) := by
      show streamI d N = stream d N
      unfold streamI
      rw [if_pos hk, Int.toNat_natCast]
    rw [HX.out]
    have k1 : ¬ (N : Int) < 1 := by omega
    have k2 : ¬ (1048576 : Int) < (N : Int) := by omega
    have OK6 := Lib.hid (begin_ok (k := 6) (by omega))
    have OKT := Lib.hid (takeN_ok (begin_ok (k := 6) (by omega)) hd)
    obtain ⟨i0, hi, hz0, hz1, hz2⟩ := info_parts infoU8
    have HI := Lib.hid hi
    have HZ0 := Lib.hid hz0
    have HZ1 := Lib.hid hz1
    have HZ2 := Lib.hid hz2
    clear hi hz0 hz1 hz2 hk HX
    unfold digV
    go_enter Try.func21, Try.ntmps21
    go_wp2_with (refine wpList_make_any (o := ⟨some 16, _, _, _, _, _⟩) _ rfl (.const (.int .i64 0)) (.tmp 15) 22 rfl w.heap.size 5 i0 (.int .u8 0) Try.underlying22 HI.out HZ0.out HZ1.out rfl 1 HZ2.out .i64 .i64 0 (N + 8) 0 (N + 8) (by rfl) (by rfl) rfl (by simp) (by omega) (by omega) (by omega) (by simp) ?_; intro w1 hrow hgr; go_simp)
    have O : Hid (Own w1 5 w.heap.size (some ⟨w.heap.size + 1, 0, none⟩) 0 (N + 8) []) := ⟨rfl, by omega, by simpa [U8] using hrow⟩
    have D := Lib.hid ((hgr.block w.heap.size (by simp) (by simp)).trans (heap_alloc_newest (w := w) rfl))
    have B := Lib.hid (below_grown (ext_alloc w _) (by simp) hgr (fun k hk => by cases hk))
    have z1 : w.heap.size + 1 < w1.heap.size := (O.out.row.lt (w.heap.size + 1) rfl).2
    have z0 : w.heap.size < w1.heap.size := by omega
    clear hrow hgr
    refine (start_c _ 6 6 rfl).mono ?_
    unfold stV
    rintro e w2 ⟨rfl, hb⟩
    replace O := Lib.hid (O.out.ext hb)
    replace D := Lib.hid (keepB hb D.out)
    replace B := Lib.hid (ext_trans B.out hb)
    have z2 : w.heap.size + 1 < w2.heap.size := Nat.lt_of_lt_of_le z1 hb.size
    have y2 : w.heap.size < w2.heap.size := by omega
    clear hb z1 z0
    obtain ⟨d0, d1, d2, d3, d4, d5, d6, d7, _, _, _, _, _, _, _, _⟩ := full8 D.out
    go_wp2_with fail
    have S : Hid (StAt (w2.alloc (.cells #[.int .u64 (begin 6).a, .int .u64 (begin 6).b, .int .u64 (begin 6).c, .int .u64 (begin 6).d] 67)) 67 w2.heap.size (begin 6)) := StAt.made OK6.out
    refine (num_c _ d hd).mono ?_
    rintro e w3 ⟨rfl, hb⟩
    replace O := Lib.hid ((O.out.ext (ext_alloc _ _)).ext hb)
    replace S := Lib.hid (S.out.keep hb)
    replace B := Lib.hid (ext_trans (ext_trans B.out (ext_alloc _ _)) hb)
    clear hb d0 d1 d2 d3 d4 d5 d6 d7 D
    go_wp2_with fail
    refine (take_c _ _ _ d hd S).mono ?_
    rintro e w4 ⟨rfl, hs, hg⟩
    replace O := Lib.hid (O.out.keptG hg (by omega))
    replace B := Lib.hid (below_grown B.out B.out.size hg (fun k hk => by injection hk with hk; omega))
    have S' := Lib.hid hs
    clear S
    have S := S'
    have y4 : w2.heap.size < w4.heap.size := S.out.lt
    clear hs hg S'
    obtain ⟨s0, hs0⟩ : ∃ s, s = takeN (begin 6) d := ⟨_, rfl⟩
    have HS := Lib.hid hs0
    rw [← hs0] at S OKT
    clear hs0
    go_wp2_with fail
    go_loopw [5] (fun ov wr => ∃ (k : Nat), ov = .slice (some ⟨w.heap.size + 1, 0, none⟩) (8 * k) (N + 8) ∧ 8 * k < N + 8 ∧ Hid (Own wr 5 w.heap.size (some ⟨w.heap.size + 1, 0, none⟩) (8 * k) (N + 8) (strm s0 k)) ∧ Hid (StAt wr 67 w2.heap.size (iterS k s0)) ∧ Hid (Below w.heap.size w wr)) (fun ov _ => N + 8 - (match ov with | .slice _ n _ => n | _ => 0))
    case atStart => exact ⟨0, rfl, by omega, O.out, S.out, B.out⟩
    case round =>
      obtain ⟨k, rfl, hk, O, S, B⟩ := hrel
      by_cases hlt : 8 * k < N
      · have hI : 8 * (k : Int) < (N : Int) := by omega
        have zr := S.out.lt
        obtain ⟨x, hx⟩ : ∃ x, x = outN (iterS k s0) := ⟨_, rfl⟩
        have HX := Lib.hid hx
        clear hx
        go_wp2_with fail
        refine (digest_c _ _ _ S).mono ?_
        rw [show outN (iterS k s0) = x from HX.out.symm]
        unfold digV
        rintro e w5 ⟨rfl, hb⟩
        replace O := Lib.hid ((O.out.ext hb).ext (ext_alloc w5 (.cells #[.int .u8 (byt x 0), .int .u8 (byt x 1), .int .u8 (byt x 2), .int .u8 (byt x 3), .int .u8 (byt x 4), .int .u8 (byt x 5), .int .u8 (byt x 6), .int .u8 (byt x 7)] 31)))
        replace S := Lib.hid ((S.out.keep hb).keep (ext_alloc w5 (.cells #[.int .u8 (byt x 0), .int .u8 (byt x 1), .int .u8 (byt x 2), .int .u8 (byt x 3), .int .u8 (byt x 4), .int .u8 (byt x 5), .int .u8 (byt x 6), .int .u8 (byt x 7)] 31)))
        replace B := Lib.hid (ext_trans (ext_trans B.out hb) (ext_alloc w5 (.cells #[.int .u8 (byt x 0), .int .u8 (byt x 1), .int .u8 (byt x 2), .int .u8 (byt x 3), .int .u8 (byt x 4), .int .u8 (byt x 5), .int .u8 (byt x 6), .int .u8 (byt x 7)] 31)))
        have RD : Hid (Rd (w5.alloc (.cells #[.int .u8 (byt x 0), .int .u8 (byt x 1), .int .u8 (byt x 2), .int .u8 (byt x 3), .int .u8 (byt x 4), .int .u8 (byt x 5), .int .u8 (byt x 6), .int .u8 (byt x 7)] 31)) (some ⟨w5.heap.size, 0, none⟩) 8 8 (bytesOf x)) := Rd.lit8 (Go.heap_alloc_new w5 _)
        clear hb
        go_wp2_with (refine wpList_push_room (o := ⟨some 28, _, _, _, _, _⟩) rfl (.tmp 26) (.tmp 27) 22 22 rfl 5 Try.underlying22 infoU8 w.heap.size (w.heap.size + 1) (8 * k) (N + 8) _ (by rfl) O.out _ 8 _ (by rfl) (RD.out.src Try.underlying22) (by omega) ?_; intro w6 ho hg; have O6 := Lib.hid ho; have S6 := Lib.hid (S.out.keepG hg (by omega)); have B6 := Lib.hid (below_grown B.out B.out.size hg (fun j hj => by injection hj with hj; omega)); clear ho hg; go_simp)
        refine (stir_c _ _ _ S6).mono ?_
        rintro e w7 ⟨rfl, hs, hg⟩
        have O7 := Lib.hid (O6.out.keptG hg (by omega))
        have B7 := Lib.hid (below_grown B6.out B6.out.size hg (fun j hj => by injection hj with hj; omega))
        have S7 := Lib.hid hs
        clear hs hg
        go_wp2_with fail
        refine ⟨⟨k + 1, rfl, by omega, ?_, S7.out, B7.out⟩, ?_⟩
        · have := O7.out
          rw [HX.out] at this
          exact this
        · show N + 8 - 8 * (k + 1) < N + 8 - 8 * k
          omega
      · have hI : ¬ 8 * (k : Int) < (N : Int) := by omega
        have F := Lib.hid (O.out.front (m := N) (by omega) (by omega))
        have e := stream_of (d := d) (n := N) (k := k) (by omega)
        rw [← HS.out] at e
        have E := Lib.hid e
        clear e
        go_wp2_with fail
        go_ret
        exact ⟨_, _, _, rfl, by rw [← E.out]; exact F.out, B.out⟩
  · have HX : streamI d K = [] := by unfold streamI; exact if_neg hk
    rw [HX]
    clear HX
    by_cases hk1 : K < 1
    · clear hk
      unfold digV
      go_enter Try.func21, Try.ntmps21
      go_wp2_with fail
      go_ret
      exact ⟨_, _, _, rfl, Own.void _ _ _, ext_alloc _ _⟩
    · have hk2 : (1048576 : Int) < K := by omega
      clear hk
      unfold digV
      go_enter Try.func21, Try.ntmps21
      go_wp2_with fail
      go_ret
      exact ⟨_, _, _, rfl, Own.void _ _ _, ext_alloc _ _⟩
#print axioms stream_c
end Go.Proofs.Ytbhibfdlkahagaa
