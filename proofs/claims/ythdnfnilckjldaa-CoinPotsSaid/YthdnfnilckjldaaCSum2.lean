/-
  coin: slices of numbers that came in; Sum, and the document's: contracts.
-/
import Derived.Test.YthdnfnilckjldaaCSum
namespace Go.Proofs.Ythdnfnilckjldaa
open Go.RowKit

/-- a slice that reads as these numbers; it may be nil -/
structure RdI (w : World) (A : Option Addr) (n c : Nat) (xs : List Int) : Prop where
  len : xs.length = n
  le : n ≤ c
  max : c ≤ 9223372036854775807
  cells : 0 < n → ∃ b o, A = some ⟨b, o, none⟩ ∧ b < w.heap.size ∧ ∀ j, j < n → w.cell? ⟨b, o + j, none⟩ = some (.int .i64 (xs.getD j 0))
  none_ : A = none → c = 0

theorem RdI.ext {w w' : World} {A : Option Addr} {n c : Nat} {xs : List Int} (h : RdI w A n c xs) (k : Below w.heap.size w w') : RdI w' A n c xs :=
  ⟨h.len, h.le, h.max, fun hn => by
    obtain ⟨b, o, hA, hb, hc⟩ := h.cells hn
    exact ⟨b, o, hA, Nat.lt_of_lt_of_le hb k.size, fun j hj => (k.cell (p := ⟨b, o + j, none⟩) hb).trans (hc j hj)⟩, h.none_⟩

def sumF : Int → List Int → Int × Int
  | t, [] => (t, 0)
  | t, x :: xs => if (addF t x).2 = 0 then sumF (addF t x).1 xs else (0, (addF t x).2)
theorem sumF_on {t s : Int} {xs : List Int} {k : Nat} {p : Int × Int} (h : sumF t (xs.drop k) = p) (hk : k < xs.length) (hs : (s, 0) = addF t (xs.getD k 0)) : sumF s (xs.drop (k + 1)) = p := by
  rw [List.drop_eq_getElem_cons hk, sumF] at h
  have e : xs[k] = xs.getD k 0 := by simp [hk]
  rw [e, ← hs, if_pos rfl] at h
  exact h
theorem sumF_off {t s q : Int} {xs : List Int} {k : Nat} {p : Int × Int} (h : sumF t (xs.drop k) = p) (hk : k < xs.length) (hs : (s, q) = addF t (xs.getD k 0)) (hq : ¬ q = 0) : p = (0, q) := by
  rw [List.drop_eq_getElem_cons hk, sumF] at h
  have e : xs[k] = xs.getD k 0 := by simp [hk]
  rw [e, ← hs, if_neg hq] at h
  exact h.symm
theorem sumF_end {t : Int} {xs : List Int} {p : Int × Int} (h : sumF t (xs.drop xs.length) = p) : p = (t, 0) := by
  rw [List.drop_length, sumF] at h
  exact h.symm

set_option maxRecDepth 100000 in
theorem sum_c (w : World) (A : Option Addr) (n c : Nat) (xs : List Int) (h : RdI w A n c xs) : Calls Try.prog 14 #[.slice A n c] w (Two (sumF 0 xs) w) := by
  have H := Lib.hid h
  have hle := h.le
  have hmax := h.max
  have HL := Lib.hid h.len
  clear h
  go_enter Try.func14, Try.ntmps14
  go_wp2_with fail
  go_loopw [4, 11] (fun tv iv wr => ∃ (acc : Int) (k : Nat), tv = .int .i64 acc ∧ iv = .int .i64 k ∧ k ≤ n ∧ Hid (sumF acc (xs.drop k) = sumF 0 xs) ∧ wr = w) (fun _ iv _ => n - (intOf iv).toNat)
  case atStart => exact ⟨0, 0, rfl, rfl, Nat.zero_le _, rfl, rfl⟩
  case round =>
    obtain ⟨acc, k, rfl, rfl, hk, HD, rfl⟩ := hrel
    by_cases hlt : k < n
    · obtain ⟨b, o, rfl, _, hc⟩ := H.out.cells (by omega)
      have c1 := hc k hlt
      clear hc
      obtain ⟨x, hx⟩ : ∃ x : Int, x = xs.getD k 0 := ⟨_, rfl⟩
      rw [← hx] at c1
      have hltI : (k : Int) < (n : Int) := by omega
      have hkI : (0 : Int) ≤ (k : Int) := by omega
      obtain ⟨s, hs⟩ : ∃ s, s = addF acc x := ⟨_, rfl⟩
      have hs' := hs
      obtain ⟨s, q⟩ := s
      rw [hx] at hs'
      have HX := Lib.hid hx
      have HS := Lib.hid hs
      have HS' := Lib.hid hs'
      clear hx hs hs'
      have hlen : k < xs.length := by rw [HL.out]; exact hlt
      by_cases hq : q = 0
      · obtain rfl := hq
        go_wp2_with fail
        refine (add_c _ _ _).mono ?_
        rw [← HS.out]
        rintro e v ⟨rfl, rfl⟩
        go_wp2
        go_roundw
        case rel => exact ⟨s, k + 1, rfl, by go_num, by omega, sumF_on HD.out hlen HS'.out, by first | trivial | rfl⟩
        case measure => simp [intOf]; omega
      · have hqb : (q == 0) = false := by rw [beq_eq_false_iff_ne]; exact hq
        have HQ := Lib.hid hq
        clear hq
        go_wp2_with fail
        refine (add_c _ _ _).mono ?_
        rw [← HS.out]
        rintro e v ⟨rfl, rfl⟩
        go_wp2
        go_ret2
        exact ⟨by rw [sumF_off HD.out hlen HS'.out HQ.out]; rfl, rfl⟩
    · obtain rfl : k = n := by omega
      go_wp2
      go_ret2
      have E : sumF 0 xs = (acc, 0) := sumF_end (t := acc) (xs := xs) (by rw [HL.out]; exact HD.out)
      exact ⟨by rw [E]; rfl, rfl⟩
set_option maxRecDepth 100000 in
theorem rsum_c (w : World) (A : Option Addr) (n c : Nat) (xs : List Int) (h : RdI w A n c xs) : Calls Try.prog 17 #[.slice A n c] w (Two (sumF 0 xs) w) := by
  have H := Lib.hid h
  have hle := h.le
  have hmax := h.max
  have HL := Lib.hid h.len
  clear h
  go_enter Try.func17, Try.ntmps17
  go_wp2_with fail
  go_loopw [4, 5] (fun tv iv wr => ∃ (acc : Int) (k : Nat), tv = .int .i64 acc ∧ iv = .int .i64 k ∧ k ≤ n ∧ Hid (sumF acc (xs.drop k) = sumF 0 xs) ∧ wr = w) (fun _ iv _ => n - (intOf iv).toNat)
  case atStart => exact ⟨0, 0, rfl, rfl, Nat.zero_le _, rfl, rfl⟩
  case round =>
    obtain ⟨acc, k, rfl, rfl, hk, HD, rfl⟩ := hrel
    by_cases hlt : k < n
    · obtain ⟨b, o, rfl, _, hc⟩ := H.out.cells (by omega)
      have c1 := hc k hlt
      clear hc
      obtain ⟨x, hx⟩ : ∃ x : Int, x = xs.getD k 0 := ⟨_, rfl⟩
      rw [← hx] at c1
      have hltI : (k : Int) < (n : Int) := by omega
      have hkI : (0 : Int) ≤ (k : Int) := by omega
      obtain ⟨s, hs⟩ : ∃ s, s = addF acc x := ⟨_, rfl⟩
      have hs' := hs
      obtain ⟨s, q⟩ := s
      rw [hx] at hs'
      have HX := Lib.hid hx
      have HS := Lib.hid hs
      have HS' := Lib.hid hs'
      clear hx hs hs'
      have hlen : k < xs.length := by rw [HL.out]; exact hlt
      by_cases hq : q = 0
      · obtain rfl := hq
        go_wp2_with fail
        refine (radd_c _ _ _).mono ?_
        rw [← HS.out]
        rintro e v ⟨rfl, rfl⟩
        go_wp2
        go_roundw
        case rel => exact ⟨s, k + 1, rfl, by go_num, by omega, sumF_on HD.out hlen HS'.out, by first | trivial | rfl⟩
        case measure => simp [intOf]; omega
      · have hqb : (q == 0) = false := by rw [beq_eq_false_iff_ne]; exact hq
        have HQ := Lib.hid hq
        clear hq
        go_wp2_with fail
        refine (radd_c _ _ _).mono ?_
        rw [← HS.out]
        rintro e v ⟨rfl, rfl⟩
        go_wp2
        go_ret2
        exact ⟨by rw [sumF_off HD.out hlen HS'.out HQ.out]; rfl, rfl⟩
    · obtain rfl : k = n := by omega
      go_wp2
      go_ret2
      have E : sumF 0 xs = (acc, 0) := sumF_end (t := acc) (xs := xs) (by rw [HL.out]; exact HD.out)
      exact ⟨by rw [E]; rfl, rfl⟩
#print axioms rsum_c
#print axioms sum_c
end Go.Proofs.Ythdnfnilckjldaa
