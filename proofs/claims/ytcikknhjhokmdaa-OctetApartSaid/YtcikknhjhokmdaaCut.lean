/-
  OctetCut: the walk.
-/
import Derived.Test.YtcikknhjhokmdaaReader3
import Derived.Test.YtcikknhjhokmdaaInts0
import Derived.Test.YtcikknhjhokmdaaFrame
namespace Go.Proofs.Ytcikknhjhokmdaa
open Go.RowKit

/-- cut off anywhere, a number's bytes are short -/
theorem decF_cut : ∀ (k m i acc j : Nat), m < 128 ^ k → 0 < k → i + k ≤ 10 → (i + k = 10 → m < 2 * 128 ^ (k - 1)) → (0 < i → 0 < m) → j < (num m).length → decF i acc ((num m).take j) = (0, 0, 4)
  | 0, _, _, _, _, _, h, _, _, _, _ => absurd h (by omega)
  | k + 1, m, i, acc, j, hm, _, hi, ht, hp, hj => by
    cases j with
    | zero => rw [List.take_zero, decF]
    | succ j =>
      by_cases h : m < 128
      · rw [num_small h] at hj; simp at hj
      · have hk : 0 < k := by
          rcases Nat.eq_zero_or_pos k with h0 | h0
          · subst h0; omega
          · exact h0
        have e : (UInt8.ofNat (128 + m % 128)).toNat = 128 + m % 128 := by simp [UInt8.toNat_ofNat']; omega
        rw [num_big h, List.length_cons] at hj
        rw [num_big h, List.take_succ_cons, decF, e, if_neg (by omega), if_neg (by omega)]
        have hk1 : 128 ^ k = 128 ^ (k - 1) * 128 := by rw [← Nat.pow_succ]; congr 1; omega
        exact decF_cut k (m / 128) (i + 1) _ j (by rw [Nat.pow_succ] at hm; omega) hk (by omega) (fun h10 => by
          have := ht (by omega)
          rw [Nat.add_sub_cancel] at this
          omega) (fun _ => by omega) (by omega)
theorem dec_cut {m j : Nat} (hm : m < 18446744073709551616) (hj : j < (num m).length) : dec ((num m).take j) = (0, 0, 4) :=
  decF_cut 10 m 0 0 j (by omega) (by omega) (by omega) (fun _ => by omega) (fun h => absurd h (by omega)) hj
theorem rnum_short {m j most : Nat} (hm : m < 18446744073709551616) (hj : j < (num m).length) : rnum ((num m).take j) 0 most = (0, (num m).take j, 4) := by
  unfold rnum
  rw [dec_cut hm hj, if_neg (by simp), if_pos (by simp)]

theorem rbytes_short {xs : List UInt8} (hx : xs.length ≤ 50) {j : Nat} (hj : j < (num xs.length ++ xs).length) : rbytes ((num xs.length ++ xs).take j) 0 50 = ([], (num xs.length ++ xs).take j, 4) := by
  unfold rbytes
  rw [List.length_append] at hj
  by_cases h : j < (num xs.length).length
  · rw [List.take_append_of_le_length (by omega), dec_cut (by omega) h, if_neg (by simp), if_pos (by simp)]
  · have e : (num xs.length ++ xs).take j = num xs.length ++ xs.take (j - (num xs.length).length) := by
      rw [List.take_append, List.take_of_length_le (by omega)]
    rw [e, dec_num (by omega), if_neg (by simp), if_neg (by simp), if_neg (by simp; omega), if_pos]
    simp only [List.length_append, List.length_take]
    omega
theorem rbytes_err (bs : List UInt8) {err : Int} (h : err ≠ 0) (most : Int) : rbytes bs err most = ([], bs, err) := by
  unfold rbytes
  rw [if_pos h]
theorem rnum_err (bs : List UInt8) {err : Int} (h : err ≠ 0) (most : Nat) : rnum bs err most = (0, bs, err) := by
  unfold rnum
  rw [if_pos h]

theorem min_case (nx : Nat) (k : Nat) : ∃ m, m ≤ k ∧ m ≤ nx ∧ ((nx ≤ k ∧ m = nx) ∨ (k < nx ∧ m = k)) := by
  by_cases h : nx ≤ k
  · exact ⟨nx, h, Nat.le_refl _, .inl ⟨h, rfl⟩⟩
  · exact ⟨k, Nat.le_refl _, by omega, .inr ⟨by omega, rfl⟩⟩
theorem mod_case (U n : Nat) (h : 0 < n) : ∃ j : Nat, j < n ∧ (U : Int) % (n : Int) = (j : Int) := ⟨U % n, Nat.mod_lt _ h, by omega⟩

set_option maxRecDepth 100000 in
set_option maxHeartbeats 4000000 in
theorem cut_walk (w : World) (n : Nat) (A : Option Addr) (nx m cx : Nat) (xs : List UInt8) (at_ : Int) (HN : Hid (n < 18446744073709551616)) (HX : Hid (Rd w A m cx xs)) (hcase : (nx ≤ 50 ∧ m = nx) ∨ (50 < nx ∧ m = 50)) (hm5 : m ≤ 50) (hle : nx ≤ cx)
    (hmx : cx ≤ 9223372036854775807) (U : Nat) (hU : IntKind.u64.wrap at_ = (U : Int)) :
    Calls Try.prog 10 #[.int .u64 n, .slice A nx cx, .int .i64 at_] w (Holds w) := by
  rcases hcase with ⟨hc, rfl⟩ | ⟨hc, rfl⟩
  all_goals
    go_enter Try.func10, Try.ntmps10
    go_wp2_with fail
    refine (putNum_i _ _ _ _ [] (Rd.nil _) (by omega) n HN.out _ rfl).mono ?_
    rintro e w1 ⟨A1, n1, c1, rfl, ho1, hb1⟩
    have HO1 := Lib.hid ho1
    have hn1 : n1 ≤ 10 := by have := ho1.len; have := num_ten HN.out; simp only [List.nil_append] at *; omega
    have hn0 : 0 < n1 := by have := ho1.len; have := num_pos n; simp only [List.nil_append] at *; omega
    clear ho1
    go_wp2_with fail
    refine (putBytes_c _ _ _ _ [] (Rd.nil _) (by omega) _ _ _ _ (HX.out.ext hb1) (by omega)).mono ?_
    rintro e w2 ⟨A2, n2, c2, rfl, ho2, hb2⟩
    have HO2 := Lib.hid ho2
    have hn3 : n2 ≤ 100 := by have := ho2.len; have := num_ten (m := xs.length) (by have := HX.out.len; omega); have := HX.out.len; simp only [List.nil_append, List.length_append] at *; omega
    have hn4 : 0 < n2 := by have := ho2.len; have := num_pos xs.length; simp only [List.nil_append, List.length_append] at *; omega
    have z1 : ((n1 : Int) == 0) = false := by rw [beq_eq_false_iff_ne]; omega
    have z2 : ((n2 : Int) == 0) = false := by rw [beq_eq_false_iff_ne]; omega
    have q2 := Lib.hid (ext_trans hb1 hb2)
    have R1 := Lib.hid (HO1.out.rd.ext hb2)
    have R2 := Lib.hid ho2.rd
    clear ho2 hb1 hb2
    obtain ⟨j1, hj1, ej1⟩ := mod_case U n1 hn0
    obtain ⟨j2, hj2, ej2⟩ := mod_case U n2 hn4
    have l1 := HO1.out.rd.le
    have l2 := R2.out.le
    have x1 := R1.out.max
    have x2 := R2.out.max
    have L1 : Hid (j1 < (num n).length) := by have := HO1.out.len; simp only [List.nil_append] at this; show _ < _; omega
    have L2 : Hid (j2 < (num xs.length ++ xs).length) := by have := R2.out.len; simp only [List.nil_append] at this; show _ < _; omega
    have F1 : Hid (Rd w2 A1 j1 c1 ((num n).take j1)) := by have := R1.out.front (show j1 ≤ n1 by omega); simp only [List.nil_append] at this; exact this
    have F2 : Hid (Rd w2 A2 j2 c2 ((num xs.length ++ xs).take j2)) := by have := R2.out.front (show j2 ≤ n2 by omega); simp only [List.nil_append] at this; exact this
    have HX5 : Hid (xs.length ≤ 50) := by have := HX.out.len; show _ ≤ _; omega
    clear HO1
    go_wp2_with fail
    refine (newReader_c _ _ _ _ _ F1.out (by omega)).mono ?_
    rintro e w3 ⟨p1, B1, k1, g1, rfl, hr1, hp1, hb3⟩
    have T1 := Lib.hid hr1
    have P1 := Lib.hid hp1
    have Q3 := Lib.hid hb3
    clear hr1 hp1 hb3
    go_wp2_with fail
    refine (newReader_c _ _ _ _ _ (F2.out.ext Q3.out) (by omega)).mono ?_
    rintro e w4 ⟨p2, B2, k2, g2, rfl, hr2, hp2, hb4⟩
    have hne : Hid (p1 ≠ p2) := by have := T1.out.lt; show _ ≠ _; omega
    have T2 := Lib.hid hr2
    have T1b := Lib.hid (T1.out.ext hb4)
    have P2 := Lib.hid (Nat.le_trans Q3.out.size hp2)
    have Q4 := Lib.hid (ext_trans Q3.out hb4)
    clear hr2 hp2 hb4 T1 Q3
    go_wp2_with fail
    refine (known_c _).mono ?_
    rintro e w5 ⟨rfl, hb5⟩
    have Q5 := Lib.hid (ext_trans Q4.out hb5)
    have T1c := Lib.hid (T1b.out.ext hb5)
    have T2c := Lib.hid (T2.out.ext hb5)
    clear hb5 T1b T2 Q4
    go_wp2_with fail
    refine (num_r _ _ _ _ _ _ _ T1c.out n).mono ?_
    rw [rnum_short HN.out L1.out]
    rintro e w6 ⟨rfl, A6, n6, c6, h6, g6⟩
    have Q6 := Lib.hid (below_grown Q5.out Q5.out.size g6 (fun k hk => by injection hk with hk; rw [← hk]; exact P1.out))
    have T2d := Lib.hid (T2c.out.other T1c.out hne.out.symm g6)
    have H6 := Lib.hid h6
    clear h6 g6 Q5 T1c T2c
    go_wp2_with fail
    refine (err_r _ _ _ _ _ _ _ H6.out).mono ?_
    rintro e w7 ⟨rfl, rfl⟩
    go_wp2_with fail
    refine (bytes_r _ _ _ _ _ _ _ T2d.out (by have := T2d.out.rd.len; have := F2.out.len; omega) 50 (by omega) (by omega)).mono ?_
    rw [rbytes_short HX5.out L2.out]
    rintro e w8 ⟨⟨A8, n8, c8, rfl, h8⟩, B8, m8, d8, r8, g8⟩
    obtain rfl : n8 = 0 := h8.len.symm
    have Q8 := Lib.hid (below_grown Q6.out Q6.out.size g8 (fun k hk => by injection hk with hk; rw [← hk]; exact P2.out))
    have T8 := Lib.hid r8
    clear h8 r8 g8 Q6 T2d H6
    go_wp2_with fail
    refine (err_r _ _ _ _ _ _ _ T8.out).mono ?_
    rintro e w9 ⟨rfl, rfl⟩
    go_wp2_with fail
    refine (num_r _ _ _ _ _ _ _ T8.out 5).mono ?_
    rw [rnum_err _ (by omega)]
    rintro e w10 ⟨rfl, A10, n10, c10, h10, g10⟩
    have Q10 := Lib.hid (below_grown Q8.out Q8.out.size g10 (fun k hk => by injection hk with hk; rw [← hk]; exact P2.out))
    have T10 := Lib.hid h10
    clear h10 g10 Q8 T8
    go_wp2_with fail
    refine (end_r _ _ _ _ _ _ _ T10.out).mono ?_
    rw [show rend n10 4 = 4 from rfl]
    rintro e w11 ⟨rfl, rfl⟩
    go_wp2_with fail
    go_ret
    exact ⟨rfl, ext_trans q2.out Q10.out⟩
theorem walkOctetCut (w : World) (n : Nat) (A : Option Addr) (nx cx : Nat) (xs : List UInt8) (at_ : Int) (hn : n < 18446744073709551616) (hx : Rd w A nx cx xs) (_h1 : -9223372036854775808 ≤ at_) (_h2 : at_ < 9223372036854775808) :
    Calls Try.prog 10 #[.int .u64 n, .slice A nx cx, .int .i64 at_] w (Holds w) := by
  obtain ⟨m, hm5, hmn, hcase⟩ := min_case nx 50
  obtain ⟨U, hU⟩ : ∃ U : Nat, IntKind.u64.wrap at_ = (U : Int) := ⟨(IntKind.u64.wrap at_).toNat, by rw [IntKind.wrap_u64]; omega⟩
  exact cut_walk w n A nx m cx _ at_ hn (hx.front hmn) hcase hm5 hx.le hx.max U hU
#print axioms walkOctetCut
end Go.Proofs.Ytcikknhjhokmdaa
