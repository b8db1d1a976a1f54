/-
  octet: the document's number of bytes: contract.
-/
import Derived.Test.YtgplamfjemmfnaaNumber
namespace Go.Proofs.Ytgplamfjemmfnaa
open Go.RowKit

def accN (bs : List UInt8) : Nat → Nat
  | 0 => 0
  | k + 1 => accN bs k + ((bs.getD k 0).toNat % 128) * 128 ^ k
def valN (bs : List UInt8) : Nat → Nat → Nat
  | 0, _ => 0
  | c + 1, i => (bs.getD i 0).toNat % 128 + 128 * valN bs c (i + 1)
theorem acc_val (bs : List UInt8) : ∀ c i, accN bs i + 128 ^ i * valN bs c i = accN bs (i + c)
  | 0, i => by simp [valN]
  | c + 1, i => by
    have h := acc_val bs c (i + 1)
    rw [show i + (c + 1) = i + 1 + c by omega, ← h]
    show accN bs i + 128 ^ i * ((bs.getD i 0).toNat % 128 + 128 * valN bs c (i + 1)) = accN bs i + ((bs.getD i 0).toNat % 128) * 128 ^ i + 128 ^ (i + 1) * valN bs c (i + 1)
    rw [Nat.mul_add, Nat.pow_succ, Nat.mul_comm (128 ^ i) ((bs.getD i 0).toNat % 128), Nat.mul_assoc (128 ^ i) 128, Nat.add_assoc]
theorem val_le (bs : List UInt8) (c i : Nat) : valN bs c i ≤ accN bs (i + c) := by
  have h := acc_val bs c i
  have h1 : 1 * valN bs c i ≤ 128 ^ i * valN bs c i := Nat.mul_le_mul_right _ (by first | exact Nat.pow_pos (by omega) | exact Nat.pos_pow_of_pos _ (by omega))
  omega
theorem val_all (bs : List UInt8) (k : Nat) : valN bs (k + 1 - 0) 0 = accN bs (k + 1) := by
  have h := acc_val bs (k + 1) 0
  rw [show accN bs 0 = 0 from rfl, Nat.pow_zero, Nat.one_mul, Nat.zero_add, Nat.zero_add] at h
  exact h
theorem pre_dec {bs : List UInt8} : ∀ k, k ≤ 9 → k ≤ bs.length → (∀ j, j < k → 128 ≤ (bs.getD j 0).toNat) → decF k (accN bs k) (bs.drop k) = dec bs
  | 0, _, _, _ => by simp [accN, dec]
  | k + 1, h9, hl, hb => by
    have ih := pre_dec k (by omega) (by omega) (fun j hj => hb j (by omega))
    have hk := hb k (by omega)
    exact dec_step ih (by omega) rfl (by omega) (by omega)

set_option maxRecDepth 100000 in
set_option maxHeartbeats 4000000 in
theorem rnumber_c (w : World) (A : Option Addr) (n c : Nat) (bs : List UInt8) (h : Rd w A n c bs) :
    Calls Try.prog 34 #[.slice A n c] w (Tells (dec bs) w) := by
  have H := Lib.hid h
  have hle := h.le
  have hmax := h.max
  have HL := Lib.hid h.len
  clear h
  go_enter Try.func34, Try.ntmps34
  go_wp2_with fail
  go_loopw [5] (fun iv wr => ∃ k : Nat, k ≤ n ∧ k ≤ 10 ∧ iv = .int .i64 k ∧ Hid (∀ j, j < k → 128 ≤ (bs.getD j 0).toNat) ∧ wr = w) (fun iv _ => 10 - (intOf iv).toNat)
  case atStart => exact ⟨0, Nat.zero_le _, by omega, rfl, fun j hj => absurd hj (by omega), rfl⟩
  case round =>
    obtain ⟨k, hkn, hk10, rfl, HB, rfl⟩ := hrel
    rename World => w
    have i0 : (0 : Int) ≤ (k : Int) := by omega
    by_cases h10 : k = 10
    · subst h10
      have hn10 : (10 : Int) ≤ (n : Int) := by omega
      have h9 := HB.out 9 (by omega)
      have D : Hid (dec bs = (0, 0, 3)) := dec_form (pre_dec 9 (by omega) (by rw [HL.out]; omega) (fun j hj => HB.out j (by omega))) (by rw [HL.out]; omega) rfl (.inr ⟨rfl, by omega⟩)
      clear h9
      by_cases hl : 10 < n
      · have q1 : (10 : Int) < (n : Int) := by omega
        have q2 : ((10 : Int) == (n : Int)) = false := by rw [beq_eq_false_iff_ne]; omega
        go_wp2_with fail
        go_ret3
        exact Tells.mk (by rw [D.out]; try rfl) (by rw [D.out]; try rfl) (by rw [D.out]; try rfl)
      · obtain rfl : n = 10 := by omega
        go_wp2_with fail
        go_ret3
        exact Tells.mk (by rw [D.out]; try rfl) (by rw [D.out]; try rfl) (by rw [D.out]; try rfl)
    by_cases hlt : k < n
    · obtain ⟨b, o, rfl, _, hc⟩ := H.out.cells (by omega)
      have c1 := hc k hlt
      have HC := Lib.hid hc
      clear hc
      have hlen : k < bs.length := by rw [HL.out]; exact hlt
      obtain ⟨x, hx⟩ : ∃ x : UInt8, x = bs.getD k 0 := ⟨_, rfl⟩
      rw [← hx] at c1
      have hxb : x.toNat < 256 := x.toNat_lt
      have HX := Lib.hid hx
      clear hx
      have t1 : (k : Int) < (n : Int) := by omega
      have t2 : (k : Int) < 10 := by omega
      have t3 : ((k : Int) == (n : Int)) = false := by rw [beq_eq_false_iff_ne]; omega
      have t4 : ((k : Int) == 10) = false := by rw [beq_eq_false_iff_ne]; omega
      by_cases hb : 128 ≤ x.toNat
      · have bI : (128 : Int) ≤ (x.toNat : Int) := by omega
        have HB2 : Hid (∀ j, j < k + 1 → 128 ≤ (bs.getD j 0).toNat) := fun j hj => by
          by_cases hj2 : j = k
          · subst hj2; rw [← HX.out]; exact hb
          · exact HB.out j (by omega)
        go_wp2_with fail
        exact ⟨⟨k + 1, by omega, by omega, by go_num, HB2.out, by simp⟩, by simp [intOf]; try omega⟩
      · have bI : ¬ (128 : Int) ≤ (x.toNat : Int) := by omega
        have PD := Lib.hid (pre_dec k (by omega) (by omega) HB.out)
        rcases (show (0 < k ∧ x.toNat = 0) ∨ (0 < k ∧ ¬ x.toNat = 0 ∧ k = 9 ∧ 1 < x.toNat) ∨ (k = 0 ∨ (0 < k ∧ ¬ x.toNat = 0)) ∧ ¬ (k = 9 ∧ 1 < x.toNat) by omega) with hcase | hcase | hcase
        · have D : Hid (dec bs = (0, 0, 3)) := dec_form PD.out hlen HX.out (.inl ⟨hcase.1, hcase.2⟩)
          have z1 : ((x.toNat : Int) == 0) = true := by rw [beq_iff_eq]; omega
          have z2 : (0 : Int) < (k : Int) := by omega
          clear hcase PD
          go_wp2_with fail
          go_ret3
          exact Tells.mk (by rw [D.out]; try rfl) (by rw [D.out]; try rfl) (by rw [D.out]; try rfl)
        · have D : Hid (dec bs = (0, 0, 3)) := dec_form PD.out hlen HX.out (.inr ⟨hcase.2.2.1, hcase.2.2.2⟩)
          have z1 : ((x.toNat : Int) == 0) = false := by rw [beq_eq_false_iff_ne]; omega
          obtain rfl : k = 9 := hcase.2.2.1
          have z3 : (1 : Int) < (x.toNat : Int) := by omega
          clear hcase PD
          go_wp2_with fail
          go_ret3
          exact Tells.mk (by rw [D.out]; try rfl) (by rw [D.out]; try rfl) (by rw [D.out]; try rfl)
        · have D : Hid (dec bs = (accN bs (k + 1), k + 1, 0)) := by
            show _ = _
            rw [dec_last PD.out hlen HX.out (by omega) (by omega)]
            show _ = (accN bs k + ((bs.getD k 0).toNat % 128) * 128 ^ k, k + 1, 0)
            rw [← HX.out, Nat.mod_eq_of_lt (by omega)]
          have DL : Hid (accN bs (k + 1) < 18446744073709551616) := by have := dec_lt bs; rw [D.out] at this; exact this
          clear PD
          rcases hcase.1 with h1 | h1
          · have z3 : ((k : Int) == 9) = false := by rw [beq_eq_false_iff_ne]; omega
            subst h1
            rw [Nat.add_zero] at c1
            clear hcase
            go_wp2_with fail
            go_loopw [6, 7] (fun nv jv wr => ∃ (i : Nat) (z : Int), i ≤ 0 + 1 ∧ z = (i : Int) - 1 ∧ jv = .int .i64 z ∧ nv = .int .u64 ((valN bs (0 + 1 - i) i : Nat) : Int) ∧ wr = w) (fun _ jv _ => (intOf jv + 1).toNat)
            case atStart => exact ⟨0 + 1, 0, by omega, by omega, rfl, by rw [Nat.sub_self]; rfl, by simp⟩
            case round =>
              obtain ⟨i, z, hi, hz, rfl, rfl, rfl⟩ := hrel
              rename World => w
              by_cases hi0 : 0 < i
              · obtain ⟨j, rfl⟩ : ∃ j, i = j + 1 := ⟨i - 1, by omega⟩
                obtain rfl : z = (j : Int) := by omega
                clear hz
                have j0 : (0 : Int) ≤ (j : Int) := by omega
                have jn : (j : Int) < (n : Int) := by omega
                have cj := HC.out j (by omega)
                obtain ⟨y, hy⟩ : ∃ y : UInt8, y = bs.getD j 0 := ⟨_, rfl⟩
                rw [← hy] at cj
                have hyb : y.toNat < 256 := y.toNat_lt
                obtain ⟨V, hV⟩ : ∃ V, V = valN bs (0 + 1 - (j + 1)) (j + 1) := ⟨_, rfl⟩
                have e : valN bs (0 + 1 - j) j = y.toNat % 128 + 128 * V := by
                  rw [show 0 + 1 - j = (0 + 1 - (j + 1)) + 1 by omega, hV, hy]
                  rfl
                have le := val_le bs (0 + 1 - j) j
                rw [show j + (0 + 1 - j) = 0 + 1 by omega, e] at le
                have lt : y.toNat % 128 + 128 * V < 18446744073709551616 := Nat.lt_of_le_of_lt le DL.out
                rw [← hV]
                have HE := Lib.hid e
                have tm : (y.toNat : Int).tmod 128 = ((y.toNat % 128 : Nat) : Int) := by rw [Int.tmod_eq_emod_of_nonneg (by omega)]; omega
                have em : (y.toNat : Int) % 128 = ((y.toNat % 128 : Nat) : Int) := by omega
                obtain ⟨r, hr⟩ : ∃ r, r = y.toNat % 128 := ⟨_, rfl⟩
                rw [← hr] at tm em HE lt
                have hr1 : r < 128 := by omega
                have w0 : IntKind.u8.wrap (r : Int) = (r : Int) := IntWalk.u8_in _ (by omega)
                have w1 : IntKind.u64.wrap (r : Int) = (r : Int) := IntWalk.u64_in _ (by omega)
                have w2 : IntKind.u64.wrap (128 * (V : Int)) = 128 * (V : Int) := IntWalk.u64_in _ (by omega)
                have w3 : IntKind.u64.wrap (128 * (V : Int) + (r : Int)) = 128 * (V : Int) + (r : Int) := IntWalk.u64_in _ (by omega)
                clear e le hy hr hV
                go_wp2_with fail
                exact ⟨⟨j, (j : Int) - 1, by omega, rfl, by go_num, by rw [HE.out]; try (congr 1); try omega, by simp⟩, by simp [intOf]; try omega⟩
              · obtain rfl : i = 0 := by omega
                obtain rfl : z = -1 := by omega
                clear hz
                rw [val_all bs 0]
                go_wp2_with fail
                go_ret3
                exact Tells.mk (by rw [D.out]) (by rw [D.out]; show _ = ((0 + 1 : Nat) : Int); omega) (by rw [D.out])
          · have z1 : ((x.toNat : Int) == 0) = false := by rw [beq_eq_false_iff_ne]; omega
            have z2 : (0 : Int) < (k : Int) := by omega
            by_cases h9 : k = 9
            · have z3 : ¬ (1 : Int) < (x.toNat : Int) := by omega
              have z4 : ((k : Int) == 9) = true := by rw [beq_iff_eq]; omega
              have n9 : (9 : Int) < (n : Int) := by omega
              have c9 := HC.out 9 (by omega)
              rw [show bs.getD 9 0 = x by rw [HX.out, h9]] at c9
              clear hcase h1 h9
              go_wp2_with fail
              go_loopw [6, 7] (fun nv jv wr => ∃ (i : Nat) (z : Int), i ≤ k + 1 ∧ z = (i : Int) - 1 ∧ jv = .int .i64 z ∧ nv = .int .u64 ((valN bs (k + 1 - i) i : Nat) : Int) ∧ wr = w) (fun _ jv _ => (intOf jv + 1).toNat)
              case atStart => exact ⟨k + 1, k, by omega, by omega, rfl, by rw [Nat.sub_self]; rfl, by simp⟩
              case round =>
                obtain ⟨i, z, hi, hz, rfl, rfl, rfl⟩ := hrel
                rename World => w
                by_cases hi0 : 0 < i
                · obtain ⟨j, rfl⟩ : ∃ j, i = j + 1 := ⟨i - 1, by omega⟩
                  obtain rfl : z = (j : Int) := by omega
                  clear hz
                  have j0 : (0 : Int) ≤ (j : Int) := by omega
                  have jn : (j : Int) < (n : Int) := by omega
                  have cj := HC.out j (by omega)
                  obtain ⟨y, hy⟩ : ∃ y : UInt8, y = bs.getD j 0 := ⟨_, rfl⟩
                  rw [← hy] at cj
                  have hyb : y.toNat < 256 := y.toNat_lt
                  obtain ⟨V, hV⟩ : ∃ V, V = valN bs (k + 1 - (j + 1)) (j + 1) := ⟨_, rfl⟩
                  have e : valN bs (k + 1 - j) j = y.toNat % 128 + 128 * V := by
                    rw [show k + 1 - j = (k + 1 - (j + 1)) + 1 by omega, hV, hy]
                    rfl
                  have le := val_le bs (k + 1 - j) j
                  rw [show j + (k + 1 - j) = k + 1 by omega, e] at le
                  have lt : y.toNat % 128 + 128 * V < 18446744073709551616 := Nat.lt_of_le_of_lt le DL.out
                  rw [← hV]
                  have HE := Lib.hid e
                  have tm : (y.toNat : Int).tmod 128 = ((y.toNat % 128 : Nat) : Int) := by rw [Int.tmod_eq_emod_of_nonneg (by omega)]; omega
                  have em : (y.toNat : Int) % 128 = ((y.toNat % 128 : Nat) : Int) := by omega
                  obtain ⟨r, hr⟩ : ∃ r, r = y.toNat % 128 := ⟨_, rfl⟩
                  rw [← hr] at tm em HE lt
                  have hr1 : r < 128 := by omega
                  have w0 : IntKind.u8.wrap (r : Int) = (r : Int) := IntWalk.u8_in _ (by omega)
                  have w1 : IntKind.u64.wrap (r : Int) = (r : Int) := IntWalk.u64_in _ (by omega)
                  have w2 : IntKind.u64.wrap (128 * (V : Int)) = 128 * (V : Int) := IntWalk.u64_in _ (by omega)
                  have w3 : IntKind.u64.wrap (128 * (V : Int) + (r : Int)) = 128 * (V : Int) + (r : Int) := IntWalk.u64_in _ (by omega)
                  clear e le hy hr hV
                  go_wp2_with fail
                  exact ⟨⟨j, (j : Int) - 1, by omega, rfl, by go_num, by rw [HE.out]; try (congr 1); try omega, by simp⟩, by simp [intOf]; try omega⟩
                · obtain rfl : i = 0 := by omega
                  obtain rfl : z = -1 := by omega
                  clear hz
                  rw [val_all bs k]
                  go_wp2_with fail
                  go_ret3
                  exact Tells.mk (by rw [D.out]) (by rw [D.out]; show _ = ((k + 1 : Nat) : Int); omega) (by rw [D.out])
            · have z3 : ((k : Int) == 9) = false := by rw [beq_eq_false_iff_ne]; omega
              clear hcase h1
              go_wp2_with fail
              go_loopw [6, 7] (fun nv jv wr => ∃ (i : Nat) (z : Int), i ≤ k + 1 ∧ z = (i : Int) - 1 ∧ jv = .int .i64 z ∧ nv = .int .u64 ((valN bs (k + 1 - i) i : Nat) : Int) ∧ wr = w) (fun _ jv _ => (intOf jv + 1).toNat)
              case atStart => exact ⟨k + 1, k, by omega, by omega, rfl, by rw [Nat.sub_self]; rfl, by simp⟩
              case round =>
                obtain ⟨i, z, hi, hz, rfl, rfl, rfl⟩ := hrel
                rename World => w
                by_cases hi0 : 0 < i
                · obtain ⟨j, rfl⟩ : ∃ j, i = j + 1 := ⟨i - 1, by omega⟩
                  obtain rfl : z = (j : Int) := by omega
                  clear hz
                  have j0 : (0 : Int) ≤ (j : Int) := by omega
                  have jn : (j : Int) < (n : Int) := by omega
                  have cj := HC.out j (by omega)
                  obtain ⟨y, hy⟩ : ∃ y : UInt8, y = bs.getD j 0 := ⟨_, rfl⟩
                  rw [← hy] at cj
                  have hyb : y.toNat < 256 := y.toNat_lt
                  obtain ⟨V, hV⟩ : ∃ V, V = valN bs (k + 1 - (j + 1)) (j + 1) := ⟨_, rfl⟩
                  have e : valN bs (k + 1 - j) j = y.toNat % 128 + 128 * V := by
                    rw [show k + 1 - j = (k + 1 - (j + 1)) + 1 by omega, hV, hy]
                    rfl
                  have le := val_le bs (k + 1 - j) j
                  rw [show j + (k + 1 - j) = k + 1 by omega, e] at le
                  have lt : y.toNat % 128 + 128 * V < 18446744073709551616 := Nat.lt_of_le_of_lt le DL.out
                  rw [← hV]
                  have HE := Lib.hid e
                  have tm : (y.toNat : Int).tmod 128 = ((y.toNat % 128 : Nat) : Int) := by rw [Int.tmod_eq_emod_of_nonneg (by omega)]; omega
                  have em : (y.toNat : Int) % 128 = ((y.toNat % 128 : Nat) : Int) := by omega
                  obtain ⟨r, hr⟩ : ∃ r, r = y.toNat % 128 := ⟨_, rfl⟩
                  rw [← hr] at tm em HE lt
                  have hr1 : r < 128 := by omega
                  have w0 : IntKind.u8.wrap (r : Int) = (r : Int) := IntWalk.u8_in _ (by omega)
                  have w1 : IntKind.u64.wrap (r : Int) = (r : Int) := IntWalk.u64_in _ (by omega)
                  have w2 : IntKind.u64.wrap (128 * (V : Int)) = 128 * (V : Int) := IntWalk.u64_in _ (by omega)
                  have w3 : IntKind.u64.wrap (128 * (V : Int) + (r : Int)) = 128 * (V : Int) + (r : Int) := IntWalk.u64_in _ (by omega)
                  clear e le hy hr hV
                  go_wp2_with fail
                  exact ⟨⟨j, (j : Int) - 1, by omega, rfl, by go_num, by rw [HE.out]; try (congr 1); try omega, by simp⟩, by simp [intOf]; try omega⟩
                · obtain rfl : i = 0 := by omega
                  obtain rfl : z = -1 := by omega
                  clear hz
                  rw [val_all bs k]
                  go_wp2_with fail
                  go_ret3
                  exact Tells.mk (by rw [D.out]) (by rw [D.out]; show _ = ((k + 1 : Nat) : Int); omega) (by rw [D.out])
    · obtain rfl : k = n := by omega
      have t1 : ¬ (k : Int) < (k : Int) := by omega
      have t2 : (k : Int) < 10 := by omega
      have D : Hid (dec bs = (0, 0, 4)) := dec_short (pre_dec k (by omega) (by rw [HL.out]; exact Nat.le_refl _) HB.out) (by rw [HL.out]; omega)
      go_wp2_with fail
      go_ret3
      exact Tells.mk (by rw [D.out]; try rfl) (by rw [D.out]; try rfl) (by rw [D.out]; try rfl)
#print axioms rnumber_c
end Go.Proofs.Ytgplamfjemmfnaa
