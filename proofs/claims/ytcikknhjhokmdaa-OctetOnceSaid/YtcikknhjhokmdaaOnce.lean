/-
  OctetOnce: the walk.
-/
import Derived.Test.YtcikknhjhokmdaaInts0
import Derived.Test.YtcikknhjhokmdaaFrame
import Derived.Test.YtcikknhjhokmdaaSched
namespace Go.Proofs.Ytcikknhjhokmdaa
open Go.RowKit

theorem decF_inv : ∀ (bs : List UInt8) (i acc : Nat), i ≤ 9 → (decF i acc bs).2.2 = 0 →
    ∃ m, (decF i acc bs).1 = acc + m * 128 ^ i ∧ i < (decF i acc bs).2.1 ∧ (decF i acc bs).2.1 ≤ 10 ∧ bs.take ((decF i acc bs).2.1 - i) = num m ∧ (0 < i → 0 < m)
  | [], i, acc, _, h => by simp [decF] at h
  | x :: r, i, acc, hi, h => by
    have hx := x.toNat_lt
    rw [decF] at h ⊢
    split at h
    · simp at h
    · rename_i hc
      rw [if_neg hc]
      split at h
      · rename_i h1
        rw [if_pos h1]
        refine ⟨x.toNat, rfl, by simp, by simp; omega, ?_, by omega⟩
        rw [num_small h1]
        simp
      · rename_i h1
        rw [if_neg h1]
        obtain ⟨m, e1, e2, e3, e4, e5⟩ := decF_inv r (i + 1) _ (by omega) h
        have hm := e5 (by omega)
        refine ⟨x.toNat % 128 + 128 * m, ?_, by omega, e3, ?_, by omega⟩
        · rw [e1, Nat.pow_succ, Nat.add_mul, Nat.add_assoc]
          congr 2
          rw [Nat.mul_comm (128 ^ i) 128, ← Nat.mul_assoc, Nat.mul_comm m 128]
        · rw [num_big (by omega)]
          have e6 : (x.toNat % 128 + 128 * m) / 128 = m := by omega
          have e7 : UInt8.ofNat (128 + (x.toNat % 128 + 128 * m) % 128) = x := by
            apply UInt8.toNat_inj.1
            simp [UInt8.toNat_ofNat']
            omega
          rw [e6, e7, ← e4]
          rw [show (decF (i + 1) (acc + x.toNat % 128 * 128 ^ i) r).2.1 - i = ((decF (i + 1) (acc + x.toNat % 128 * 128 ^ i) r).2.1 - (i + 1)) + 1 by omega, List.take_succ_cons]
theorem decF_bad : ∀ (bs : List UInt8) (i acc : Nat), (decF i acc bs).2.2 ≠ 0 → (decF i acc bs).1 = 0
  | [], _, _, _ => rfl
  | x :: r, i, acc, h => by
    rw [decF] at h ⊢
    split
    · rfl
    · rename_i hc
      rw [if_neg hc] at h
      split
      · rename_i h1
        rw [if_pos h1] at h
        simp at h
      · rename_i h1
        rw [if_neg h1] at h
        exact decF_bad r (i + 1) _ h
/-- what is read as a number, put again, is what was read -/
theorem dec_inv {bs : List UInt8} (h : (dec bs).2.2 = 0) : 0 < (dec bs).2.1 ∧ (dec bs).2.1 ≤ 10 ∧ num (dec bs).1 = bs.take (dec bs).2.1 := by
  obtain ⟨m, e1, e2, e3, e4, _⟩ := decF_inv bs 0 0 (by omega) h
  refine ⟨e2, e3, ?_⟩
  unfold dec
  rw [Nat.sub_zero] at e4
  rw [e4, e1]
  simp

theorem rnum_good {bs : List UInt8} (h : (dec bs).2.2 = 0) : rnum bs 0 18446744073709551615 = ((dec bs).1, bs.drop (dec bs).2.1, 0) := by
  have := dec_lt bs
  unfold rnum
  rw [if_neg (by simp), if_neg (by simpa using h), if_neg (by omega)]
theorem rnum_bad {bs : List UInt8} (h : (dec bs).2.2 ≠ 0) : rnum bs 0 18446744073709551615 = (0, bs, (dec bs).2.2) := by
  unfold rnum
  rw [if_neg (by simp), if_pos h]

theorem min_case40 (nx : Nat) (k : Nat) : ∃ m, m ≤ k ∧ m ≤ nx ∧ ((nx ≤ k ∧ m = nx) ∨ (k < nx ∧ m = k)) := by
  by_cases h : nx ≤ k
  · exact ⟨nx, h, Nat.le_refl _, .inl ⟨h, rfl⟩⟩
  · exact ⟨k, Nat.le_refl _, by omega, .inr ⟨by omega, rfl⟩⟩

set_option maxRecDepth 100000 in
set_option maxHeartbeats 2000000 in
theorem once_bad (w : World) (A : Option Addr) (nx m cx : Nat) (bs : List UInt8) (HX : Hid (Rd w A m cx bs)) (hcase : (nx ≤ 40 ∧ m = nx) ∨ (40 < nx ∧ m = 40)) (hm5 : m ≤ 40) (hle : nx ≤ cx) (hmx : cx ≤ 9223372036854775807) (hE : Hid ((dec bs).2.2 ≠ 0)) :
    Calls Try.prog 7 #[.slice A nx cx] w (Holds w) := by
  obtain ⟨er, her⟩ : ∃ er, er = (dec bs).2.2 := ⟨_, rfl⟩
  have HE := Lib.hid her
  have b1 : (er != 0) = true := by have := hE.out; rw [← her] at this; simpa using this
  clear her
  rcases hcase with ⟨hc, rfl⟩ | ⟨hc, rfl⟩
  all_goals
    go_enter Try.func7, Try.ntmps7
    go_wp2_with fail
    refine (newReader_c _ _ _ _ _ HX.out (by omega)).mono ?_
    rintro e w3 ⟨p1, B1, k1, g1, rfl, hr1, hp1, hb3⟩
    have T1 := Lib.hid hr1
    have P1 := Lib.hid hp1
    have Q3 := Lib.hid hb3
    clear hr1 hp1 hb3
    go_wp2_with fail
    refine (num_r _ _ _ _ _ _ _ T1.out 18446744073709551615).mono ?_
    rw [rnum_bad hE.out, ← HE.out]
    rintro e w6 ⟨rfl, A6, n6, c6, h6, g6⟩
    have Q6 := Lib.hid (below_grown Q3.out Q3.out.size g6 (fun k hk => by injection hk with hk; rw [← hk]; exact P1.out))
    have H6 := Lib.hid h6
    have L6 := Lib.hid (h6.rd.len.symm.trans HX.out.len)
    clear h6 g6
    go_wp2_with fail
    refine (err_r _ _ _ _ _ _ _ H6.out).mono ?_
    rintro e w7 ⟨rfl, rfl⟩
    go_wp2_with fail
    refine (known_c _).mono ?_
    rintro e w8 ⟨rfl, hb8⟩
    have Q8 := Lib.hid (ext_trans Q6.out hb8)
    have H8 := Lib.hid (H6.out.ext hb8)
    clear hb8
    go_wp2_with fail
    refine (left_r _ _ _ _ _ _ _ H8.out).mono ?_
    rw [L6.out]
    rintro e w9 ⟨rfl, rfl⟩
    go_wp2_with fail
    go_ret
    exact ⟨by simp, Q8.out⟩

set_option maxRecDepth 100000 in
set_option maxHeartbeats 12000000 in
theorem once_good (w : World) (A : Option Addr) (nx m cx : Nat) (bs : List UInt8) (HX : Hid (Rd w A m cx bs)) (hcase : (nx ≤ 40 ∧ m = nx) ∨ (40 < nx ∧ m = 40)) (hm5 : m ≤ 40) (hle : nx ≤ cx) (hmx : cx ≤ 9223372036854775807) (N K : Nat) (hN : Hid (N < 18446744073709551616))
    (hR : Hid (rnum bs 0 18446744073709551615 = (N, bs.drop K, 0))) (hT : Hid (num N = bs.take K)) (hK0 : 0 < K) (hK1 : K ≤ 10) (hKm : K ≤ m) :
    Calls Try.prog 7 #[.slice A nx cx] w (Holds w) := by
  have KI0 : (0 : Int) < (K : Int) := by omega
  have KI1 : (K : Int) ≤ 10 := by omega
  have KI2 : (K : Int) ≤ (cx : Int) := by omega
  have KI3 : (0 : Int) ≤ (K : Int) := by omega
  rcases hcase with ⟨hc, rfl⟩ | ⟨hc, rfl⟩
  all_goals
    go_enter Try.func7, Try.ntmps7
    go_wp2_with fail
    refine (newReader_c _ _ _ _ _ HX.out (by omega)).mono ?_
    rintro e w3 ⟨p1, B1, k1, g1, rfl, hr1, hp1, hb3⟩
    have T1 := Lib.hid hr1
    have P1 := Lib.hid hp1
    have Q3 := Lib.hid hb3
    clear hr1 hp1 hb3
    go_wp2_with fail
    refine (num_r _ _ _ _ _ _ _ T1.out 18446744073709551615).mono ?_
    rw [hR.out]
    rintro e w6 ⟨rfl, A6, n6, c6, h6, g6⟩
    have Q6 := Lib.hid (below_grown Q3.out Q3.out.size g6 (fun k hk => by injection hk with hk; rw [← hk]; exact P1.out))
    have H6 := Lib.hid h6
    have L6 := h6.rd.len
    rw [List.length_drop, HX.out.len] at L6
    have X6 := Lib.hid (HX.out.ext Q6.out)
    clear h6 g6
    go_wp2_with fail
    refine (err_r _ _ _ _ _ _ _ H6.out).mono ?_
    rintro e w7 ⟨rfl, rfl⟩
    have LL := Lib.hid L6
    clear L6
    go_wp2_with fail
    refine (left_r _ _ _ _ _ _ _ H6.out).mono ?_
    rintro e w9 ⟨rfl, rfl⟩
  · have hk5 : (m : Int) - (n6 : Int) = (K : Int) := by have := LL.out; omega
    go_wp2_with fail
    refine wp_region_sched [(false, 0), (true, 1), (true, 2), (true, 3), (true, 4), (true, 5), (true, 6), (true, 7), (true, 8), (true, 9), (true, 10), (true, 12), (true, 13), (true, 14), (false, 11), (false, 15), (true, 16), (true, 17)] (by kernel_rfl) rfl (by kernel_rfl) (by kernel_rfl) (fun _ _ d _ _ h => by cases d <;> exact h) ?_
    intro J0 hJ0
    refine sched_eff rfl ?_
    intro J hJ
    go_wp2_with fail
    refine (known_c _).mono ?_
    rintro e w10 ⟨rfl, hb10⟩
    have Q10 : Below w6.heap.size w6 w10 := ext_trans (ext_drew _) hb10
    go_wp2_with fail
    repeat (refine sched_pure (v := ?_) rfl (by rfl) ?_ ?_; rotate_left; (focus (intro w; go_simp; try with_reducible rfl)); try go_simp)
    refine sched_eff rfl ?_
    intro J2 hJ2
    go_wp2_with fail
    refine (putNum_i _ _ _ _ [] (Rd.nil _) (by omega) N hN.out _ rfl).mono ?_
    rintro e w11 ⟨A11, n11, c11, rfl, ho11, hb11⟩
    have Q11 : Below w6.heap.size w6 w11 := ext_trans Q10 hb11
    obtain rfl : n11 = K := by
      have a := ho11.len
      have b := hT.out
      have c := HX.out.len
      simp only [List.nil_append] at a
      rw [b, List.length_take] at a
      omega
    have R11 : Hid (Rd w11 A11 n11 c11 (bs.take n11)) := by
      have a := ho11.rd
      simp only [List.nil_append] at a
      rw [hT.out] at a
      exact a
    have F11 := Lib.hid ((HX.out.front hKm).ext (ext_trans Q6.out Q11))
    clear ho11 hb11
    go_wp2_with fail
    repeat (refine sched_pure (v := ?_) rfl (by rfl) ?_ ?_; rotate_left; (focus (intro w; go_simp; try with_reducible rfl)); try go_simp)
    refine sched_eff rfl ?_
    intro J3 hJ3
    go_wp2_with fail
    refine (same_yes _ _ _ _ _ R11.out _ _ F11.out).mono ?_
    rintro e w12 ⟨rfl, hb12⟩
    go_wp2_with fail
    repeat (refine sched_pure (v := ?_) rfl (by rfl) ?_ ?_; rotate_left; (focus (intro w; go_simp; try with_reducible rfl)); try go_simp)
    refine sched_nil (hJ0 _ _ ?_)
    go_wp2_with fail
    go_ret
    exact ⟨rfl, ext_trans (ext_trans Q6.out Q11) hb12⟩
  · have hk5 : (40 : Int) - (n6 : Int) = (K : Int) := by have := LL.out; omega
    go_wp2_with fail
    refine wp_region_sched [(false, 0), (true, 1), (true, 2), (true, 3), (true, 4), (true, 5), (true, 6), (true, 7), (true, 8), (true, 9), (true, 10), (true, 12), (true, 13), (true, 14), (false, 11), (false, 15), (true, 16), (true, 17)] (by kernel_rfl) rfl (by kernel_rfl) (by kernel_rfl) (fun _ _ d _ _ h => by cases d <;> exact h) ?_
    intro J0 hJ0
    refine sched_eff rfl ?_
    intro J hJ
    go_wp2_with fail
    refine (known_c _).mono ?_
    rintro e w10 ⟨rfl, hb10⟩
    have Q10 : Below w6.heap.size w6 w10 := ext_trans (ext_drew _) hb10
    go_wp2_with fail
    repeat (refine sched_pure (v := ?_) rfl (by rfl) ?_ ?_; rotate_left; (focus (intro w; go_simp; try with_reducible rfl)); try go_simp)
    refine sched_eff rfl ?_
    intro J2 hJ2
    go_wp2_with fail
    refine (putNum_i _ _ _ _ [] (Rd.nil _) (by omega) N hN.out _ rfl).mono ?_
    rintro e w11 ⟨A11, n11, c11, rfl, ho11, hb11⟩
    have Q11 : Below w6.heap.size w6 w11 := ext_trans Q10 hb11
    obtain rfl : n11 = K := by
      have a := ho11.len
      have b := hT.out
      have c := HX.out.len
      simp only [List.nil_append] at a
      rw [b, List.length_take] at a
      omega
    have R11 : Hid (Rd w11 A11 n11 c11 (bs.take n11)) := by
      have a := ho11.rd
      simp only [List.nil_append] at a
      rw [hT.out] at a
      exact a
    have F11 := Lib.hid ((HX.out.front hKm).ext (ext_trans Q6.out Q11))
    clear ho11 hb11
    go_wp2_with fail
    repeat (refine sched_pure (v := ?_) rfl (by rfl) ?_ ?_; rotate_left; (focus (intro w; go_simp; try with_reducible rfl)); try go_simp)
    refine sched_eff rfl ?_
    intro J3 hJ3
    go_wp2_with fail
    refine (same_yes _ _ _ _ _ R11.out _ _ F11.out).mono ?_
    rintro e w12 ⟨rfl, hb12⟩
    go_wp2_with fail
    repeat (refine sched_pure (v := ?_) rfl (by rfl) ?_ ?_; rotate_left; (focus (intro w; go_simp; try with_reducible rfl)); try go_simp)
    refine sched_nil (hJ0 _ _ ?_)
    go_wp2_with fail
    go_ret
    exact ⟨rfl, ext_trans (ext_trans Q6.out Q11) hb12⟩

theorem walkOctetOnce (w : World) (A : Option Addr) (nx cx : Nat) (bs : List UInt8) (hx : Rd w A nx cx bs) :
    Calls Try.prog 7 #[.slice A nx cx] w (Holds w) := by
  obtain ⟨m, hm5, hmn, hcase⟩ := min_case40 nx 40
  have hf := hx.front hmn
  by_cases h : (dec (bs.take m)).2.2 = 0
  · obtain ⟨h1, h2, h3⟩ := dec_inv h
    have hle := dec_le (bs.take m)
    rw [hf.len] at hle
    exact once_good w A nx m cx _ hf hcase hm5 hx.le hx.max _ _ (dec_lt _) (rnum_good h) h3 h1 h2 hle
  · exact once_bad w A nx m cx _ hf hcase hm5 hx.le hx.max h
#print axioms walkOctetOnce
end Go.Proofs.Ytcikknhjhokmdaa
