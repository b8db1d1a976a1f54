/-
  CoinWhole: the walk.
-/
import Derived.Test.YtijlelkohegcmaaWCoinSplits
import Derived.Test.YtijlelkohegcmaaCPure2
namespace Go.Proofs.Ytijlelkohegcmaa
open Go.RowKit

set_option maxRecDepth 100000 in
set_option maxHeartbeats 1000000 in
theorem whole_ok (w : World) (T : Int) (A : Option Addr) (n c : Nat) (ws : List Int) (h : Hid (RdI w A n c ws)) (hI : ¬ (12 : Int) < (n : Int)) (HT : Hid (Amt T)) (W : Int) (HW : Hid (weigh ws = (W, 0))) :
    Calls Try.prog 6 #[.int .i64 T, .slice A n c] w (Holds w) := by
  have HK := Lib.hid (weigh_ok HW.out)
  have HL := Lib.hid h.out.len
  have hle := h.out.le
  have hmax := h.out.max
  have hn8 : n ≤ 8 := by have := HK.out.2.1; have := HL.out; omega
  have hn1 : 1 ≤ n := by have := HK.out.1; have := HL.out; omega
  have hT0 : 0 ≤ T := HT.out.1
  have hT1 : T ≤ 1125899906842624 := HT.out.2
  have hW1 : 1 ≤ W := HK.out.2.2.1
  have HS := Lib.hid (weigh_sum HW.out)
  have HPT := Lib.hid (parts_take hT0 hT1 hW1 HK.out.2.2.2 HK.out.2.1)
  have HPS := Lib.hid (parts_sum (T := T) hW1 (fun x hx => (HK.out.2.2.2 x hx).1) HS.out)
  have HPL := Lib.hid ((parts_length T W ws).trans HL.out)
  go_enter Try.func6, Try.ntmps6
  go_wp2_with fail
  refine (split_ok _ _ _ _ _ _ h HT _ HW).mono ?_
  rintro e w1 ⟨A1, c1, rfl, ho, hb⟩
  have O1 := Lib.hid ho.rd
  have B1 := Lib.hid hb
  have h1 := Lib.hid (h.out.ext hb)
  have hle1 := ho.rd.le
  have hmax1 := ho.max
  clear ho hb
  go_wp2_with fail
  go_loopw [8, 9] (fun tv iv wr => ∃ (acc k : Nat), tv = .int .i64 acc ∧ iv = .int .i64 k ∧ k ≤ n ∧ Hid ((acc : Int) = (ws.take k).sum) ∧ acc ≤ 1024 * k ∧ w1 = wr) (fun _ iv _ => n - (intOf iv).toNat)
  case atStart => exact ⟨0, 0, rfl, rfl, Nat.zero_le _, by show ((0 : Nat) : Int) = _; simp, by omega, rfl⟩
  case round =>
    obtain ⟨acc, k, rfl, rfl, hk, HD, hacc, rfl⟩ := hrel
    by_cases hlt : k < n
    · obtain ⟨b, o, rfl, _, hc⟩ := h1.out.cells (by omega)
      have c1 := hc k hlt
      clear hc
      obtain ⟨x, hx⟩ : ∃ x : Int, x = ws.getD k 0 := ⟨_, rfl⟩
      rw [← hx] at c1
      have hltI : (k : Int) < (n : Int) := by omega
      have hkI : (0 : Int) ≤ (k : Int) := by omega
      have hlen : k < ws.length := by rw [HL.out]; exact hlt
      have hxr := HK.out.2.2.2 x (by rw [hx]; exact getD_mem hlen)
      obtain ⟨X, rfl⟩ : ∃ X : Nat, x = X := ⟨x.toNat, by omega⟩
      have D := Lib.hid (nat_sum_take hlen HD.out hx)
      have hw : IntKind.i64.wrap ((acc : Int) + (X : Int)) = (acc : Int) + (X : Int) := IntWalk.i64_in _ (by omega)
      have hX : X ≤ 1024 := by omega
      clear hx hxr
      go_wp2_with fail
      go_roundw
      case rel => exact ⟨acc + X, k + 1, by simp, by go_num, by omega, D, by omega, by first | trivial | rfl⟩
      case measure => simp [intOf]; omega
    · obtain rfl : k = n := by omega
      have hacW : (acc : Int) = W := by rw [HD.out, List.take_of_length_le (by rw [HL.out]; exact Nat.le_refl _), HS.out]
      obtain rfl := hacW
      have hz : ¬ (acc : Int) ≤ 0 := by omega
      clear HD hlt hacc hk
      go_wp2_with fail
      go_loopw [7, 10] (fun sv iv wr => ∃ (i : Nat) (s : Int), sv = .int .i64 s ∧ iv = .int .i64 i ∧ i ≤ k ∧ Hid (s = ((parts T acc ws).take i).sum) ∧ w1 = wr) (fun _ iv _ => k - (intOf iv).toNat)
      case atStart => exact ⟨0, 0, rfl, rfl, Nat.zero_le _, by show (0 : Int) = _; simp, rfl⟩
      case round =>
        obtain ⟨i, s, rfl, rfl, hi, HD, rfl⟩ := hrel
        by_cases hlt : i < k
        · obtain ⟨b, o, rfl, _, hc⟩ := h1.out.cells (by omega)
          have c1 := hc i hlt
          clear hc
          obtain ⟨b2, o2, rfl, _, hc2⟩ := O1.out.cells (by omega)
          have c2 := hc2 i hlt
          clear hc2
          obtain ⟨x, hx⟩ : ∃ x : Int, x = ws.getD i 0 := ⟨_, rfl⟩
          obtain ⟨y, hy⟩ : ∃ y : Int, y = (parts T acc ws).getD i 0 := ⟨_, rfl⟩
          rw [← hx] at c1
          rw [← hy] at c2
          have hlen : i < ws.length := by rw [HL.out]; exact hlt
          have hlen2 : i < (parts T acc ws).length := by rw [HPL.out]; exact hlt
          have hxr := HK.out.2.2.2 x (by rw [hx]; exact getD_mem hlen)
          have hp := share_prod HT.out hxr.1 hxr.2.1
          have hq := parts_at hT0 hW1 hlen hx hy hxr.1 hxr.2.2
          have hp0 := hp.1
          have hp1 := hp.2
          have hsm := HPT.out i
          rw [← HD.out] at hsm
          have hs0 := hsm.1
          have hs1 := hsm.2
          have hy0 := hq.1
          have hy1 := hq.2.1
          have ha1 : (acc : Int) ≤ 8192 := by
            have := (sum_range (M := 1024) ws (fun x hx => ⟨(HK.out.2.2.2 x hx).1, (HK.out.2.2.2 x hx).2.1⟩)).2
            rw [HS.out, HL.out] at this
            omega
          have t1 : ¬ (T * x + (acc : Int)) < y * (acc : Int) := by have := hq.2.2.1; omega
          have t2 : ¬ y * (acc : Int) < T * x - (acc : Int) := by have := hq.2.2.2.1; omega
          have w1' : IntKind.i64.wrap (T * x) = T * x := IntWalk.i64_in _ (by omega)
          have w2' : IntKind.i64.wrap (y * (acc : Int)) = y * (acc : Int) := IntWalk.i64_in _ (by have := hq.2.2.1; have := hq.2.2.2.1; omega)
          have w3' : IntKind.i64.wrap (T * x + (acc : Int)) = T * x + (acc : Int) := IntWalk.i64_in _ (by omega)
          have w4' : IntKind.i64.wrap (T * x - (acc : Int)) = T * x - (acc : Int) := IntWalk.i64_in _ (by omega)
          have w5' : IntKind.i64.wrap (s + y) = s + y := IntWalk.i64_in _ (by omega)
          have D : Hid (s + y = ((parts T acc ws).take (i + 1)).sum) := by
            show s + y = _
            rw [sum_take_succ hlen2, ← hy, ← HD.out]
          have hltI : (i : Int) < (k : Int) := by omega
          have hiI : (0 : Int) ≤ (i : Int) := by omega
          by_cases hx0 : x = 0
          · have hy00 := hq.2.2.2.2 hx0
            clear hq hp hx hy hxr hsm
            subst hx0 hy00
            have D0 : Hid (s = ((parts T acc ws).take (i + 1)).sum) := by have := D.out; rw [Int.add_zero] at this; exact this
            go_wp2_with fail
            go_roundw
            case rel => exact ⟨i + 1, _, rfl, by go_num, by omega, D0, by first | trivial | rfl⟩
            case measure => simp [intOf]; omega
          · have hxz : (x == 0) = false := by rw [beq_eq_false_iff_ne]; exact hx0
            clear hq hp hx hy hxr hsm hx0
            go_wp2_with fail
            go_roundw
            case rel => exact ⟨i + 1, _, rfl, by go_num, by omega, D, by first | trivial | rfl⟩
            case measure => simp [intOf]; omega
        · obtain rfl : i = k := by omega
          have hsT : s = T := by rw [HD.out, List.take_of_length_le (by rw [HPL.out]; exact Nat.le_refl _), HPS.out]
          clear HD
          obtain rfl := hsT
          go_wp2_with fail
          refine (told_c _).mono ?_
          rintro e w4 ⟨rfl, hb⟩
          go_wp2_with fail
          go_ret
          exact ⟨rfl, ext_trans B1.out hb⟩

set_option maxRecDepth 100000 in
set_option maxHeartbeats 1000000 in
theorem walkCoinWhole (w : World) (T : Int) (A : Option Addr) (n c : Nat) (ws : List Int) (_ : -9223372036854775808 ≤ T) (_ : T < 9223372036854775808) (h' : RdI w A n c ws) :
    Calls Try.prog 6 #[.int .i64 T, .slice A n c] w (Holds w) := by
  have h := Lib.hid h'
  have hle := h'.le
  have hmax := h'.max
  clear h'
  by_cases h12 : n > 12
  · have hI : (12 : Int) < (n : Int) := by omega
    clear h12
    go_enter Try.func6, Try.ntmps6
    go_wp2_with fail
    refine (told_c _).mono ?_
    rintro e w2 ⟨rfl, hb⟩
    go_wp2_with fail
    go_ret
    exact ⟨rfl, hb⟩
  have hI : ¬ (12 : Int) < (n : Int) := by omega
  clear h12
  by_cases hT : Amt T
  case neg =>
    have HT := Lib.hid hT
    clear hT
    go_enter Try.func6, Try.ntmps6
    go_wp2_with fail
    refine (split_range _ _ _ _ _ HT).mono ?_
    rintro e v ⟨rfl, rfl⟩
    go_wp2_with fail
    refine (told_c _).mono ?_
    rintro e w2 ⟨rfl, hb⟩
    go_wp2_with fail
    go_ret
    exact ⟨rfl, hb⟩
  have HT := Lib.hid hT
  clear hT
  rcases weigh_cases ws with ⟨W, hw⟩ | ⟨x, q, hw, hq⟩
  · exact whole_ok w T A n c ws h hI HT W (Lib.hid hw)
  · have HW := Lib.hid hw
    have hqz : (q == 0) = false := by rw [beq_eq_false_iff_ne]; exact hq
    clear hw hq
    go_enter Try.func6, Try.ntmps6
    go_wp2_with fail
    refine (split_bad _ _ _ _ _ _ h HT _ _ HW hqz).mono ?_
    rintro e v ⟨rfl, rfl⟩
    go_wp2_with fail
    refine (told_c _).mono ?_
    rintro e w2 ⟨rfl, hb⟩
    go_wp2_with fail
    go_ret
    exact ⟨rfl, hb⟩
#print axioms walkCoinWhole
end Go.Proofs.Ytijlelkohegcmaa
