/-
  octet's own number: what is read at the front of bytes.
-/
import Derived.Test.YtgplamfjemmfnaaKnown
import Derived.Test.YtgplamfjemmfnaaDec
namespace Go.Proofs.Ytgplamfjemmfnaa
open Go.RowKit

/-- a number, how many bytes it has, the error -/
def Tells (d : Nat × Nat × Int) (w : World) (e : Ending) (w' : World) : Prop := e = .returned (.tuple #[.int .u64 (d.1 : Nat), .int .i64 (d.2.1 : Nat), .int .i64 d.2.2]) ∧ w = w'

theorem Tells.mk {d : Nat × Nat × Int} {w : World} {x y z : Int} (hx : x = (d.1 : Nat)) (hy : y = (d.2.1 : Nat)) (hz : z = d.2.2) : Tells d w (.returned (.tuple #[.int .u64 x, .int .i64 y, .int .i64 z])) w := by
  subst hx hy hz
  exact ⟨rfl, rfl⟩

set_option maxRecDepth 100000 in
set_option maxHeartbeats 1000000 in
theorem number_c (w : World) (A : Option Addr) (n c : Nat) (bs : List UInt8) (h : Rd w A n c bs) :
    Calls Try.prog 38 #[.slice A n c] w (Tells (dec bs) w) := by
  have H := Lib.hid h
  have hle := h.le
  have hmax := h.max
  have HL := Lib.hid h.len
  clear h
  go_enter Try.func38, Try.ntmps38
  go_wp2
  go_step3
  go_wp2
  go_step3
  go_wp2
  go_loop [5, 6, 11] (fun nv ev iv => ∃ (acc i : Nat), nv = .int .u64 acc ∧ ev = .int .i64 4 ∧ iv = .int .i64 i ∧ i ≤ 9 ∧ i ≤ n ∧ Hid (acc < 128 ^ i) ∧ Hid (decF i acc (bs.drop i) = dec bs)) (fun _ _ iv => n - (intOf iv).toNat)
  case atStart => exact ⟨0, 0, rfl, rfl, rfl, by omega, by omega, by show _ < _; omega, rfl⟩
  case round =>
    obtain ⟨acc, i, rfl, rfl, rfl, hi, hin, HA, HD⟩ := hrel
    by_cases hlt : i < n
    · obtain ⟨b, o, rfl, _, hc⟩ := H.out.cells (by omega)
      have c1 := hc i hlt
      clear hc
      obtain ⟨x, hx⟩ : ∃ x : UInt8, x = bs.getD i 0 := ⟨_, rfl⟩
      rw [← hx] at c1
      have HX := Lib.hid hx
      clear hx
      have hxb : x.toNat < 256 := x.toNat_lt
      have hltI : (i : Int) < (n : Int) := by omega
      have hlen : i < bs.length := by rw [HL.out]; exact hlt
      have HP := fun h9 => Lib.hid (or_put hi HA.out (x := x) h9)
      rcases (show (0 < i ∧ x.toNat = 0) ∨ (0 < i ∧ ¬ x.toNat = 0 ∧ i = 9 ∧ 1 < x.toNat) ∨ (0 < i ∧ ¬ x.toNat = 0 ∧ i = 9 ∧ ¬ 1 < x.toNat) ∨ (0 < i ∧ ¬ x.toNat = 0 ∧ ¬ i = 9 ∧ x.toNat < 128) ∨ (¬ 0 < i ∧ x.toNat < 128) ∨ (0 < i ∧ ¬ x.toNat = 0 ∧ ¬ i = 9 ∧ ¬ x.toNat < 128) ∨ (¬ 0 < i ∧ ¬ x.toNat < 128) by omega) with hcase | hcase | hcase | hcase | hcase | hcase | hcase
      · have D : Hid (dec bs = (0, 0, 3)) := dec_form HD.out hlen HX.out (.inl ⟨hcase.1, hcase.2⟩)
        have hz : ((x.toNat : Int) == 0) = true := by rw [beq_iff_eq]; omega
        have p : 0 < i := hcase.1
        clear HP hcase
        go_wp2
        go_ret3
        exact Tells.mk (by first | (rw [D.out]; done) | (rw [D.out]; rfl)) (by first | (rw [D.out]; done) | (rw [D.out]; rfl)) (by first | (rw [D.out]; done) | (rw [D.out]; rfl))
      · have D : Hid (dec bs = (0, 0, 3)) := dec_form HD.out hlen HX.out (.inr ⟨hcase.2.2.1, hcase.2.2.2⟩)
        have hz : ((x.toNat : Int) == 0) = false := by rw [beq_eq_false_iff_ne]; omega
        have p : 0 < i := hcase.1
        obtain rfl : i = 9 := hcase.2.2.1
        have r : (1 : Int) < (x.toNat : Int) := by omega
        clear HP hcase
        go_wp2
        go_ret3
        exact Tells.mk (by first | (rw [D.out]; done) | (rw [D.out]; rfl)) (by first | (rw [D.out]; done) | (rw [D.out]; rfl)) (by first | (rw [D.out]; done) | (rw [D.out]; rfl))
      · have D : Hid (dec bs = (acc + x.toNat * 128 ^ i, i + 1, 0)) := dec_last HD.out hlen HX.out (by omega) (by omega)
        have P := HP (by omega)
        have hz : ((x.toNat : Int) == 0) = false := by rw [beq_eq_false_iff_ne]; omega
        have p : 0 < i := hcase.1
        obtain rfl : i = 9 := hcase.2.2.1
        have r : (x.toNat : Int) ≤ 1 := by omega
        have t : (x.toNat : Int) < 128 := by omega
        have hm : x.toNat % 128 = x.toNat ∨ 128 ≤ x.toNat := by omega
        clear HP hcase
        go_wp2
        go_ret3
        exact Tells.mk (by rw [D.out]; exact last_num P.out (by omega)) (by first | (rw [D.out]; done) | (rw [D.out]; rfl)) (by first | (rw [D.out]; done) | (rw [D.out]; rfl))
      · have D : Hid (dec bs = (acc + x.toNat * 128 ^ i, i + 1, 0)) := dec_last HD.out hlen HX.out (by omega) (by omega)
        have P := HP (by omega)
        have hz : ((x.toNat : Int) == 0) = false := by rw [beq_eq_false_iff_ne]; omega
        have p : 0 < i := hcase.1
        have q : ¬ (i : Int) = 9 := by omega
        have t : (x.toNat : Int) < 128 := by omega
        have hm : x.toNat % 128 = x.toNat ∨ 128 ≤ x.toNat := by omega
        clear HP hcase
        go_wp2
        go_ret3
        exact Tells.mk (by rw [D.out]; exact last_num P.out (by omega)) (by first | (rw [D.out]; done) | (rw [D.out]; rfl)) (by first | (rw [D.out]; done) | (rw [D.out]; rfl))
      · have D : Hid (dec bs = (acc + x.toNat * 128 ^ i, i + 1, 0)) := dec_last HD.out hlen HX.out (by omega) (by omega)
        have P := HP (by omega)
        have p : ¬ 0 < i := hcase.1
        have q : ¬ (i : Int) = 9 := by omega
        have t : (x.toNat : Int) < 128 := by omega
        have hm : x.toNat % 128 = x.toNat ∨ 128 ≤ x.toNat := by omega
        clear HP hcase
        go_wp2
        go_ret3
        exact Tells.mk (by rw [D.out]; exact last_num P.out (by omega)) (by first | (rw [D.out]; done) | (rw [D.out]; rfl)) (by first | (rw [D.out]; done) | (rw [D.out]; rfl))
      · have D : Hid (decF (i + 1) (acc + (x.toNat % 128) * 128 ^ i) (bs.drop (i + 1)) = dec bs) := dec_step HD.out hlen HX.out (by omega) (by omega)
        have P := HP (by omega)
        have hz : ((x.toNat : Int) == 0) = false := by rw [beq_eq_false_iff_ne]; omega
        have p : 0 < i := hcase.1
        have q : ¬ (i : Int) = 9 := by omega
        have t : (128 : Int) ≤ (x.toNat : Int) := by omega
        have hm : x.toNat % 128 = x.toNat ∨ 128 ≤ x.toNat := by omega
        clear HP hcase
        go_wp2
        go_round
        case rel => exact ⟨_, i + 1, by rw [P.out], rfl, by go_num, by omega, by omega, acc_step HA.out, D.out⟩
        case measure => simp [intOf]; omega
      · have D : Hid (decF (i + 1) (acc + (x.toNat % 128) * 128 ^ i) (bs.drop (i + 1)) = dec bs) := dec_step HD.out hlen HX.out (by omega) (by omega)
        have P := HP (by omega)
        have p : ¬ 0 < i := hcase.1
        have q : ¬ (i : Int) = 9 := by omega
        have t : (128 : Int) ≤ (x.toNat : Int) := by omega
        have hm : x.toNat % 128 = x.toNat ∨ 128 ≤ x.toNat := by omega
        clear HP hcase
        go_wp2
        go_round
        case rel => exact ⟨_, i + 1, by rw [P.out], rfl, by go_num, by omega, by omega, acc_step HA.out, D.out⟩
        case measure => simp [intOf]; omega
    · obtain rfl : i = n := by omega
      have D : Hid (dec bs = (0, 0, 4)) := dec_short HD.out (by rw [HL.out]; exact hlt)
      go_wp2
      go_ret3
      exact Tells.mk (by first | (rw [D.out]; done) | (rw [D.out]; rfl)) (by first | (rw [D.out]; done) | (rw [D.out]; rfl)) (by first | (rw [D.out]; done) | (rw [D.out]; rfl))
#print axioms number_c
end Go.Proofs.Ytgplamfjemmfnaa
