/-
  tree: how high; the words of roots: contracts.
-/
import Derived.Test.YtbejjmmopdcjoaaDoorTShelf
import Derived.Test.YtbejjmmopdcjoaaDoorTPure
import Derived.Test.YtbejjmmopdcjoaaDoorHWord
import Derived.Lib.ItoaNum
namespace Go.Proofs.YtbejjmmopdcjoaaDoor
open Go.RowKit

def heightI (n : Nat) : Int := if 1 ≤ n ∧ n ≤ 4096 then (hgt n : Int) else -1
theorem heightI_ok {n : Nat} (h1 : 1 ≤ n) (h2 : n ≤ 4096) : heightI n = (hgt n : Int) := by unfold heightI; rw [if_pos ⟨h1, h2⟩]
theorem heightI_no {n : Nat} (h : ¬ (1 ≤ n ∧ n ≤ 4096)) : heightI n = -1 := by unfold heightI; rw [if_neg h]
theorem bitLen_hgt {n : Nat} (h1 : 1 ≤ n) (h2 : n ≤ 4096) : Lib.bitLen (n - 1) = hgt n := by
  by_cases h : n = 1
  · subst h; rfl
  · obtain ⟨k1, k2, k3⟩ := Lib.bitLenAux_bounds 64 (n - 1) (by omega) (by omega)
    have e1 : hgt n ≤ Lib.bitLen (n - 1) := hgt_least (by unfold Lib.bitLen; omega)
    have e2 : Lib.bitLen (n - 1) ≤ hgt n := by
      rcases Nat.lt_or_ge (hgt n) (Lib.bitLen (n - 1)) with q | q
      · have e3 := Nat.pow_le_pow_right (show 0 < 2 by omega) (show hgt n ≤ Lib.bitLenAux 64 (n - 1) - 1 by unfold Lib.bitLen at q; omega)
        have e4 := hgt_ge n
        omega
      · exact q
    omega

set_option maxRecDepth 100000 in
theorem height_c (w : World) (n : Nat) (hn : n < 9223372036854775808) : Calls Tryd.prog 16 #[.int .i64 n] w (fun e w' => e = .returned (.int .i64 (heightI n)) ∧ w' = w) := by
  by_cases h1 : 1 ≤ n
  · by_cases h2 : n ≤ 4096
    · rw [heightI_ok h1 h2]
      have g1 : ¬ (n : Int) < 1 := by omega
      have g2 : ¬ (4096 : Int) < (n : Int) := by omega
      have HB := Lib.hid (bitLen_hgt h1 h2)
      go_enter Tryd.func16, Tryd.ntmps16
      go_wp2_with fail
      refine (bits_Len ((n : Int) - 1) _ (by omega) (by omega)).mono ?_
      rw [show ((n : Int) - 1).toNat = n - 1 by omega, HB.out]
      rintro e w1 ⟨rfl, rfl⟩
      go_wp2_with fail
      go_ret
      exact ⟨rfl, rfl⟩
    · rw [heightI_no (by omega)]
      have g1 : ¬ (n : Int) < 1 := by omega
      have g2 : (4096 : Int) < (n : Int) := by omega
      go_enter Tryd.func16, Tryd.ntmps16
      go_wp2_with fail
      go_ret
      exact ⟨rfl, rfl⟩
  · obtain rfl : n = 0 := by omega
    rw [heightI_no (by omega)]
    go_enter Tryd.func16, Tryd.ntmps16
    go_wp2_with fail
    go_ret
    exact ⟨rfl, rfl⟩

set_option maxRecDepth 100000 in
theorem format_c (w : World) (n : Nat) (hn : n < 100) : Calls Tryd.prog 73 #[.int .i64 n, .int .i64 10] w (fun e w' => e = .returned (.string ⟨(Lib.decDigits n).toArray⟩) ∧ w' = w) := by
  have g1 : (0 : Int) ≤ (n : Int) := by omega
  have g2 : (n : Int) < 100 := by omega
  go_enter Tryd.func73, Tryd.ntmps73
  go_wp2_with fail
  refine (internal_strconv_small n hn _).mono ?_
  rintro e w1 ⟨rfl, rfl⟩
  go_wp2_with fail
  go_ret
  exact ⟨rfl, rfl⟩
set_option maxRecDepth 100000 in
theorem itoa1_c (w : World) (n : Nat) (hn : n < 100) : Calls Tryd.prog 70 #[.int .i64 n] w (fun e w' => e = .returned (.string ⟨(Lib.decDigits n).toArray⟩) ∧ w' = w) := by
  go_enter Tryd.func70, Tryd.ntmps70
  go_wp2_with fail
  refine (format_c _ n hn).mono ?_
  rintro e w1 ⟨rfl, rfl⟩
  go_wp2_with fail
  go_ret
  exact ⟨rfl, rfl⟩
set_option maxRecDepth 100000 in
theorem itoa_c (w : World) (n : Nat) (hn : n < 100) : Calls Tryd.prog 63 #[.int .i64 n] w (fun e w' => e = .returned (.string ⟨(Lib.decDigits n).toArray⟩) ∧ w' = w) := by
  go_enter Tryd.func63, Tryd.ntmps63
  go_wp2_with fail
  refine (itoa1_c _ n hn).mono ?_
  rintro e w1 ⟨rfl, rfl⟩
  go_wp2_with fail
  go_ret
  exact ⟨rfl, rfl⟩

theorem decDigits_small : ∀ n, n ≤ 12 → ([114, 111, 111, 116] : List UInt8) ++ Lib.decDigits n = rootB n := by decide +kernel

set_option maxRecDepth 100000 in
theorem rheight_c (w : World) (n : Nat) (hn : n < 9223372036854775808) : Calls Tryd.prog 17 #[.int .i64 n] w (fun e w' => e = .returned (.int .i64 (heightI n)) ∧ w' = w) := by
  by_cases h1 : 1 ≤ n
  · by_cases h2 : n ≤ 4096
    · rw [heightI_ok h1 h2]
      have g1 : ¬ (n : Int) < 1 := by omega
      have g2 : ¬ (4096 : Int) < (n : Int) := by omega
      have HG := Lib.hid (hgt_ge n)
      have h12 := hgt_le h2
      have HL := Lib.hid (fun h (e : n ≤ 2 ^ h) => hgt_least e)
      go_enter Tryd.func17, Tryd.ntmps17
      go_wp2_with fail
      go_loopw [3, 4] (fun hv kv wr => ∃ (h p : Nat), hv = .int .i64 h ∧ kv = .int .i64 p ∧ Hid (p = 2 ^ h) ∧ h ≤ hgt n ∧ wr = w) (fun hv _ _ => hgt n - (intOf hv).toNat)
      case atStart => exact ⟨0, 1, rfl, rfl, rfl, Nat.zero_le _, rfl⟩
      case round =>
        obtain ⟨h, p, rfl, rfl, hp, hle, rfl⟩ := hrel
        by_cases hlt : p < n
        · have hne : h < hgt n := by
            rcases Nat.lt_or_ge h (hgt n) with q | q
            · exact q
            · obtain rfl : h = hgt n := by omega
              have := HG.out
              rw [← hp.out] at this
              omega
          have hp2 : Hid (2 * p = 2 ^ (h + 1)) := Lib.hid (by rw [pow_more, hp.out])
          have gI : (p : Int) < (n : Int) := by omega
          go_wp2_with fail
          exact ⟨⟨h + 1, 2 * p, by go_num, by go_num, hp2, by omega, by first | exact trivial | rfl⟩, by simp [intOf]; omega⟩
        · have hge : hgt n ≤ h := HL.out h (by rw [← hp.out]; omega)
          obtain rfl : h = hgt n := by omega
          have gI : ¬ (p : Int) < (n : Int) := by omega
          go_wp2_with fail
          go_ret
          exact ⟨rfl, rfl⟩
    · rw [heightI_no (by omega)]
      have g1 : ¬ (n : Int) < 1 := by omega
      have g2 : (4096 : Int) < (n : Int) := by omega
      go_enter Tryd.func17, Tryd.ntmps17
      go_wp2_with fail
      go_ret
      exact ⟨rfl, rfl⟩
  · obtain rfl : n = 0 := by omega
    rw [heightI_no (by omega)]
    go_enter Tryd.func17, Tryd.ntmps17
    go_wp2_with fail
    go_ret
    exact ⟨rfl, rfl⟩

set_option maxRecDepth 100000 in
theorem power_c (w : World) (n : Nat) (hn : n ≤ 12) : Calls Tryd.prog 37 #[.int .i64 n] w (fun e w' => e = .returned (.int .i64 ((2 ^ n : Nat) : Int)) ∧ w' = w) := by
  obtain ⟨q, hq⟩ : ∃ q, q = 2 ^ n := ⟨_, rfl⟩
  rw [← hq]
  have HQ := Lib.hid hq
  clear hq
  go_enter Tryd.func37, Tryd.ntmps37
  go_wp2_with fail
  have HP : ∀ p k, Hid (p = 2 ^ k) → k ≤ n → p ≤ 4096 := fun p k h hk => by rw [h.out]; exact Nat.le_trans (Nat.pow_le_pow_right (by omega) (show k ≤ 12 by omega)) (by omega)
  go_loopw [3, 4] (fun pv kv wr => ∃ (k p : Nat), kv = .int .i64 k ∧ pv = .int .i64 p ∧ Hid (p = 2 ^ k) ∧ k ≤ n ∧ wr = w) (fun _ kv _ => n - (intOf kv).toNat)
  case atStart => exact ⟨0, 1, rfl, rfl, rfl, Nat.zero_le _, rfl⟩
  case round =>
    obtain ⟨k, p, rfl, rfl, hp, hle, rfl⟩ := hrel
    have hp4 := HP p k hp hle
    by_cases hlt : k < n
    · have hp2 : Hid (2 * p = 2 ^ (k + 1)) := Lib.hid (by rw [pow_more, hp.out])
      have gI : (k : Int) < (n : Int) := by omega
      go_wp2_with fail
      exact ⟨⟨k + 1, 2 * p, by go_num, by go_num, hp2, by omega, by first | exact trivial | rfl⟩, by simp [intOf]; omega⟩
    · obtain rfl : k = n := by omega
      obtain rfl : p = q := hp.out.trans HQ.out.symm
      have gI : ¬ (k : Int) < (k : Int) := by omega
      go_wp2_with fail
      go_ret
      exact ⟨rfl, rfl⟩
#print axioms rheight_c
#print axioms power_c
end Go.Proofs.YtbejjmmopdcjoaaDoor
