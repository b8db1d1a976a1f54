/-
  OctetApart: the walk.
-/
import Derived.Test.YtcikknhjhokmdaaSchedC
import Derived.Test.YtcikknhjhokmdaaCut
import Derived.Test.YtcikknhjhokmdaaApart0
namespace Go.Proofs.Ytcikknhjhokmdaa
open Go.RowKit

set_option maxRecDepth 100000 in
set_option maxHeartbeats 2000000 in
theorem apart_walk (w : World) (A0 : Option Addr) (n0 c0 : Nat) (b0 : List UInt8) (n m : Nat) (A3 : Option Addr) (n3 c3 : Nat) (b3 : List UInt8) (m0 m3 : Nat)
    (H0 : Hid (Rd w A0 m0 c0 b0)) (hm0 : m0 ≤ 100) (hle0 : n0 ≤ c0) (hc0 : (n0 ≤ 100 ∧ m0 = n0) ∨ (100 < n0 ∧ m0 = 100)) (HN : Hid (n < 18446744073709551616)) (HM : Hid (m < 18446744073709551616))
    (H3 : Hid (Rd w A3 m3 c3 b3)) (hm3 : m3 ≤ 100) (hle3 : n3 ≤ c3) (hc3 : (n3 ≤ 100 ∧ m3 = n3) ∨ (100 < n3 ∧ m3 = 100)) :
    Calls Try.prog 4 #[.slice A0 n0 c0, .int .u64 n, .int .u64 m, .slice A3 n3 c3] w (Holds w) := by
  have x0 : (if (100 : Int) < (n0 : Int) then (100 : Int) else (n0 : Int)) = (m0 : Int) := by split <;> omega
  have x3 : (if (100 : Int) < (n3 : Int) then (100 : Int) else (n3 : Int)) = (m3 : Int) := by split <;> omega
  have hmc0 : m0 ≤ c0 := by omega
  have hmc3 : m3 ≤ c3 := by omega
  obtain ⟨i0, hi, hz0, hz1, hz2⟩ := info_parts infoU8
  have HI := Lib.hid hi
  have HZ0 := Lib.hid hz0
  have HZ1 := Lib.hid hz1
  have HZ2 := Lib.hid hz2
  clear hi hz0 hz1 hz2
  go_enter Try.func4, Try.ntmps4
  go_wp2_with (refine wpList_push_all (o := ⟨some 22, _, _, _, _, _⟩) rfl (.tmp 16) (.tmp 21) 22 22 rfl 5 Try.underlying22 infoU8 w.heap.size _ _ _ [] (by rfl) (Own.empty w _) _ m3 b3 (by rfl) ((H3.out.ext (ext_alloc _ _)).src Try.underlying22) (by omega) (ext_alloc _ _).size ?_; intro AX cX w1 hoX hb; go_simp)
  have OX : Hid (Own w1 5 w.heap.size AX m3 cX b3) := by have := hoX; rw [Nat.zero_add] at this; exact this
  have Q1 := Lib.hid ((ext_alloc w _).trans hb)
  have HR := Lib.hid OX.out.row_ge
  clear hoX hb
  have H01 := Lib.hid (H0.out.ext Q1.out)
  refine wp_region_sched [(true, 1), (true, 2), (true, 3), (true, 4), (true, 5), (false, 0), (false, 6), (true, 7)] (by kernel_rfl) rfl (by kernel_rfl) (by kernel_rfl) (fun _ _ d _ _ h => by cases d <;> exact h) ?_
  intro J0 hJ0
  iterate 3 (refine sched_pure (v := ?_) rfl (by rfl) ?_ ?_; rotate_left; (focus (intro w; go_simp; try with_reducible rfl)); try go_simp)
  refine sched_pure (v := .int .i64 (m0 : Int)) rfl (by rfl) ?_ ?_
  · intro w; go_simp
  try go_simp
  refine sched_pure (v := .slice A0 m0 c0) rfl (by rfl) ?_ ?_
  · intro w; go_simp
  try go_simp
  refine sched_eff rfl ?_
  intro J hJ
  refine wpList_make_any _ rfl (.const (.int .i64 0)) (.const (.int .i64 400)) 22 rfl w1.heap.size 5 i0 (.int .u8 0) Try.underlying22 HI.out HZ0.out HZ1.out rfl 1 HZ2.out .i64 .i64 _ _ 0 400 rfl rfl rfl rfl (by omega) (by omega) (by omega) (Nat.le_refl _) ?_
  intro w2 ho2 hg2
  have hb2 : Below w1.heap.size w1 w2 := below_grown (ext_drew _) (Nat.le_refl _) hg2 (fun k hk => by cases hk)
  have O2 : Hid (Own w2 5 w1.heap.size (some ⟨w1.drew.heap.size, 0, none⟩) 0 400 []) := ⟨rfl, by omega, ho2⟩
  have B2 := Lib.hid hb2
  clear ho2 hg2 hb2
  go_wp2_with fail
  refine sched_eff rfl ?_
  intro J1 hJ1
  refine wpList_push_all (o := ⟨some 29, _, _, _, _, _⟩) rfl (.tmp 23) (.tmp 28) 22 22 rfl 5 Try.underlying22 infoU8 w1.heap.size _ _ _ [] (by rfl) O2.out _ m0 b0 (by rfl) ((H01.out.ext B2.out).src Try.underlying22) (by omega) B2.out.size ?_
  intro A9 c9 w2b hob hb
  have OB : Hid (Own w2b 5 w1.heap.size A9 m0 c9 b0) := by have := hob; rw [Nat.zero_add] at this; exact this
  have Q2 : Hid (Below w1.heap.size w1 w2b) := B2.out.trans hb
  clear hob hb B2 O2
  simp only [Nat.zero_add]
  go_wp2_with fail
  refine sched_pure (v := ?_) rfl (by rfl) ?_ ?_; rotate_left; (focus (intro w; go_simp; try with_reducible rfl)); try go_simp
  refine sched_nil (hJ0 _ _ ?_)
  clear hJ0
  go_wp2_with fail
  refine (putNum_c _ _ _ _ _ OB.out.rd (by omega) n HN).mono ?_
  rintro e w3 ⟨AP, kp, cp, rfl, hop, hb⟩
  have OP3 := Lib.hid hop
  have OB3 := Lib.hid (OB.out.ext hb)
  have Q3 := Lib.hid (ext_trans Q2.out hb)
  have OX3 := Lib.hid (OX.out.ext Q3.out)
  clear hop hb OB OX
  go_wp2_with fail
  refine (putBytes_c _ _ _ _ _ OB3.out.rd (by omega) _ _ _ _ OX3.out.rd (by omega)).mono ?_
  rintro e w4 ⟨AQ, kq, cq, rfl, hoq, hb⟩
  have OQ4 := Lib.hid hoq
  have OP4 := Lib.hid (OP3.out.ext hb)
  have OB4 := Lib.hid (OB3.out.ext hb)
  have OX4 := Lib.hid (OX3.out.ext hb)
  have Q4 := Lib.hid (ext_trans Q3.out hb)
  have hs4 := Lib.hid (And.intro Q3.out.size (show w3.heap.size ≤ w4.heap.size from hb.size))
  clear hoq hb OP3 OB3 OX3 Q3
  go_wp2_with fail
  refine (putNum_c _ _ _ _ _ OB4.out.rd (by omega) m HM).mono ?_
  rintro e w5 ⟨AR, kr, cr, rfl, hor, hb⟩
  have OR5 := Lib.hid hor
  have H45 := Lib.hid hb
  clear hor hb
  have hkr : 0 < kr := by have := OR5.out.len; have := num_pos m; simp only [List.length_append] at *; omega
  have hkr2 : kr ≤ 1000 := by have := OR5.out.len; have := OB4.out.len; have := num_ten HM.out; simp only [List.length_append] at *; omega
  have hkq : m0 ≤ kq := by have := OQ4.out.len; have := OB4.out.len; simp only [List.length_append] at *; omega
  have z1 : ((kr : Int) == 0) = false := by rw [beq_eq_false_iff_ne]; omega
  have z2 : decide ((kq : Int) < (m0 : Int)) = false := by simp; omega
  obtain ⟨gr, rfl, _, _⟩ := OR5.out.blockless hkr
  go_wp2_with fail
  clear z1 z2
  go_loopw [13] (fun iv w6 => ∃ (k : Nat) (bs : List UInt8), k ≤ kr ∧ iv = .int .i64 k ∧ Own w6 5 w4.heap.size (some ⟨gr, 0, none⟩) kr cr bs ∧ Below w4.heap.size w5 w6) (fun iv _ => kr - (intOf iv).toNat)
  case atStart => exact ⟨0, _, Nat.zero_le _, rfl, OR5.out, Below.refl _ _⟩
  case round =>
    obtain ⟨k, bs, hk, rfl, ho, hb6⟩ := hrel
    by_cases hlt : k < kr
    · obtain ⟨x, hx⟩ := ho.get hlt
      have fr := ho.row.frozenAt k
      obtain ⟨y, hy⟩ := u8_more x
      have hltI : (k : Int) < (kr : Int) := by omega
      have hkI : (0 : Int) ≤ (k : Int) := by omega
      have HO := Lib.hid ho
      have HB6 := Lib.hid hb6
      clear ho hb6
      go_wp2
      go_roundw
      case rel => exact ⟨k + 1, _, by omega, by go_num, (HO.out.set k y).1, HB6.out.grown (HO.out.set k y).2 (Nat.le_trans H45.out.size HB6.out.size) (fun j hj => by injection hj with hj; rw [← hj]; exact (HO.out.row_ge gr rfl).1)⟩
      case measure => simp [intOf]; omega
    · obtain rfl : k = kr := by omega
      have P6 := Lib.hid (H45.out.trans hb6)
      have OP6 := Lib.hid (OP4.out.ext P6.out)
      have OQ6 := Lib.hid (OQ4.out.ext P6.out)
      have OB6 := Lib.hid (OB4.out.ext P6.out)
      have OX6 := Lib.hid (OX4.out.ext P6.out)
      have Q6 := Lib.hid (ext_trans Q4.out P6.out)
      clear ho hb6 P6 H45 OP4 OQ4 OB4 OX4 OR5
      go_wp2_with (refine wpList_push_all (o := ⟨some 63, _, _, _, _, _⟩) rfl (.tmp 61) (.tmp 62) 22 22 rfl 5 Try.underlying22 infoU8 wr.heap.size _ _ _ [] (by rfl) (Own.empty wr _) _ m0 b0 (by rfl) ((OB6.out.rd.ext (ext_alloc _ _)).src Try.underlying22) (by omega) (ext_alloc _ _).size ?_; intro Aa ca u1 hoa hba; go_simp)
      have O1 : Hid (Own u1 5 wr.heap.size Aa m0 ca b0) := by have := hoa; rw [Nat.zero_add] at this; exact this
      have G1 := Lib.hid ((ext_alloc wr _).trans hba)
      clear hoa hba
      refine (refBytes_c _ _ _ _ _ (OX6.out.rd.ext G1.out) (by omega)).mono ?_
      rintro e u2 ⟨Ab, q, cb, rfl, hob, hbb⟩
      have hq : q ≤ 1000 := by have := hob.len; have := OX6.out.len; have := num_ten (m := b3.length) (by omega); simp only [List.length_append] at *; omega
      have O2 := Lib.hid (O1.out.ext hbb)
      have G2 := Lib.hid (ext_trans G1.out hbb)
      have R := Lib.hid hob.rd
      clear hob hbb O1 G1
      go_wp2_with (refine wpList_push_all (o := ⟨some 66, _, _, _, _, _⟩) rfl (.tmp 63) (.tmp 65) 22 22 rfl 5 Try.underlying22 infoU8 wr.heap.size _ _ _ _ (by rfl) O2.out _ q _ (by rfl) (R.out.src Try.underlying22) (by omega) G2.out.size ?_; intro Ac cc w7 hoc hbc; go_simp)
      have G7 : Hid (Below wr.heap.size wr w7) := G2.out.trans hbc
      have OW7 := Lib.hid hoc
      have OP7 := Lib.hid (OP6.out.ext G7.out)
      have OQ7 := Lib.hid (OQ6.out.ext G7.out)
      have OB7 := Lib.hid (OB6.out.ext G7.out)
      have OX7 := Lib.hid (OX6.out.ext G7.out)
      have Q7 := Lib.hid (ext_trans Q6.out G7.out)
      have hs7 : Hid (w1.heap.size ≤ w2b.heap.size ∧ w1.heap.size ≤ w3.heap.size ∧ w1.heap.size ≤ wr.heap.size ∧ w.heap.size ≤ w1.heap.size ∧ w1.heap.size ≤ w7.heap.size) := ⟨Q2.out.size, hs4.out.1, Q6.out.size, Q1.out.size, Q7.out.size⟩
      clear hoc hbc O2 G2 R OP6 OQ6 OB6 OX6 Q6 G7
      go_wp2_with fail
      go_loopw [15] (fun iv wy => ∃ (k : Nat) (bs : List UInt8), k ≤ m3 ∧ iv = .int .i64 k ∧ Own wy 5 w.heap.size AX m3 cX bs ∧ w7.grownBy wy (Value.slice AX m3 cX).ownBlock) (fun iv _ => m3 - (intOf iv).toNat)
      case atStart => exact ⟨0, _, Nat.zero_le _, rfl, OX7.out, World.grownBy.refl _ _⟩
      case round =>
        obtain ⟨j, bs2, hj, rfl, ho, hg⟩ := hrel
        by_cases hlt2 : j < m3
        · obtain ⟨g, rfl, _, _⟩ := ho.blockless (by omega)
          obtain ⟨x, hx⟩ := ho.get hlt2
          have fr := ho.row.frozenAt j
          obtain ⟨y, hy⟩ := u8_more x
          have hltI : (j : Int) < (m3 : Int) := by omega
          have hjI : (0 : Int) ≤ (j : Int) := by omega
          have HO := Lib.hid ho
          have HG := Lib.hid hg
          clear ho hg
          go_wp2
          go_roundw
          case rel => exact ⟨j + 1, _, by omega, by go_num, (HO.out.set j y).1, grown_step HG.out (HO.out.set j y).2⟩
          case measure => simp [intOf]; omega
        · obtain rfl : j = m3 := by omega
          have OP8 := Lib.hid (OP7.out.kept hg (fun g h => Nat.lt_of_lt_of_le (HR.out g h).2 hs7.out.1)).rd
          have OQ8 := Lib.hid (OQ7.out.kept hg (fun g h => Nat.lt_of_lt_of_le (HR.out g h).2 hs7.out.2.1)).rd
          have OW8 := Lib.hid (OW7.out.kept hg (fun g h => Nat.lt_of_lt_of_le (HR.out g h).2 hs7.out.2.2.1)).rd
          have OB8 := Lib.hid (OB7.out.kept hg (fun g h => (HR.out g h).2)).rd
          have Q8 := Lib.hid (below_grown (ext_trans Q1.out Q7.out) (ext_trans Q1.out Q7.out).size hg (fun k hk => (HR.out k hk).1))
          clear ho hg OP7 OQ7 OW7 OB7 OX7 Q7
          go_wp2_with fail
          refine (known_c _).mono ?_
          rintro e w9 ⟨rfl, hb⟩
          have P9 := Lib.hid hb
          clear hb
          go_wp2_with (refine wpList_push_g (o := ⟨some 84, _, _, _, _, _⟩) (by rfl) (.tmp 82) (.tmp 83) 22 22 rfl 5 Try.underlying22 infoU8 w9.heap.size _ _ _ [] (by rfl) (Own.empty w9 _) _ m0 b0 (by rfl) ((OB8.out.ext (ext_trans P9.out (ext_alloc _ _))).src Try.underlying22) (by omega) (ext_alloc _ _).size ?_; intro Ad cd u3 hoa hba; go_simp)
          have O1 : Hid (Own u3 5 w9.heap.size Ad m0 cd b0) := by have := hoa; rw [Nat.zero_add] at this; exact this
          have G1 := Lib.hid ((ext_alloc w9 _).trans hba)
          clear hoa hba
          refine (refNum_c _ n HN).mono ?_
          rintro e u4 ⟨Ae, q2, ce, rfl, hob, hbb⟩
          have hq2 : q2 ≤ 1000 := by have := hob.len; have := num_ten HN.out; omega
          have O2 := Lib.hid (O1.out.ext hbb)
          have G2 := Lib.hid (ext_trans G1.out hbb)
          have R := Lib.hid hob.rd
          clear hob hbb O1 G1
          go_wp2_with (refine wpList_push_g (o := ⟨some 87, _, _, _, _, _⟩) (by rfl) (.tmp 84) (.tmp 86) 22 22 rfl 5 Try.underlying22 infoU8 w9.heap.size _ _ _ _ (by rfl) O2.out _ q2 _ (by rfl) (R.out.src Try.underlying22) (by omega) G2.out.size ?_; intro Af cf u5 hoc hbc; go_simp)
          have G3 := Lib.hid (ext_trans P9.out (G2.out.trans hbc))
          have R3 := Lib.hid hoc.rd
          clear hoc hbc O2 G2 R
          obtain rfl : kp = m0 + q2 := by have := OP8.out.len; have := R3.out.len; simp only [List.length_append] at *; omega
          refine (same_yes _ _ _ _ _ (OP8.out.ext G3.out) _ _ R3.out).mono ?_
          rintro e w10 ⟨rfl, hb⟩
          have P10 := Lib.hid (ext_trans G3.out hb)
          clear hb G3 R3 P9
          go_wp2_with fail
          obtain rfl : kq = m0 + q := by have := OQ8.out.len; have := OW8.out.len; simp only [List.length_append] at *; omega
          have OW9 : Hid (Rd wr Ac (m0 + q) cc (b0 ++ num b3.length ++ b3)) := by have := OW8.out; rw [← List.append_assoc] at this; exact this
          refine (same_yes _ _ _ _ _ (OQ8.out.ext P10.out) _ _ (OW9.out.ext P10.out)).mono ?_
          rintro e w11 ⟨rfl, hb⟩
          go_wp2_with fail
          go_ret
          exact ⟨rfl, ext_trans Q8.out (ext_trans P10.out hb)⟩

theorem walkOctetApart (w : World) (A0 : Option Addr) (n0 c0 : Nat) (b0 : List UInt8) (n m : Nat) (A3 : Option Addr) (n3 c3 : Nat) (b3 : List UInt8) (h0 : Rd w A0 n0 c0 b0) (hn : n < 18446744073709551616) (hm : m < 18446744073709551616) (h3 : Rd w A3 n3 c3 b3) :
    Calls Try.prog 4 #[.slice A0 n0 c0, .int .u64 n, .int .u64 m, .slice A3 n3 c3] w (Holds w) := by
  obtain ⟨m0, hm0, hmn0, hc0⟩ := min_case n0 100
  obtain ⟨m3, hm3, hmn3, hc3⟩ := min_case n3 100
  exact apart_walk w A0 n0 c0 _ n m A3 n3 c3 _ m0 m3 (h0.front hmn0) hm0 h0.le hc0 hn hm (h3.front hmn3) hm3 h3.le hc3
#print axioms walkOctetApart
end Go.Proofs.Ytcikknhjhokmdaa
