/-
  coin: Alike of the same numbers; weigh: contracts.
-/
import Derived.Test.YthdnfnilckjldaaCSum2
import Derived.BigQuiet
namespace Go.Proofs.Ythdnfnilckjldaa
open Go.RowKit

set_option maxRecDepth 100000 in
set_option maxHeartbeats 400000 in
theorem alike_yes (w : World) (A : Option Addr) (n c : Nat) (xs : List Int) (h : RdI w A n c xs) (A2 : Option Addr) (c2 : Nat) (h2 : RdI w A2 n c2 xs) :
    Calls Try.prog 22 #[.slice A n c, .slice A2 n c2] w (fun e w' => e = .returned (.bool true) ∧ Below w.heap.size w w') := by
  have H := Lib.hid h
  have H2 := Lib.hid h2
  have hle := h.le
  have hm := h.max
  clear h h2
  go_enter Try.func22, Try.ntmps22
  go_wp2
  go_loopw [5] (fun i wr => ∃ (k q : Nat), k ≤ n ∧ i = .int .i64 k ∧ wr = w.drewN q) (fun i _ => n - (intOf i).toNat)
  case atStart => exact ⟨0, 0, Nat.zero_le _, rfl, rfl⟩
  case round =>
    obtain ⟨k, q, hk, rfl, rfl⟩ := hrel
    by_cases hlt : k < n
    · obtain ⟨b, o, rfl, _, hc⟩ := H.out.cells (by omega)
      obtain ⟨b2, o2, rfl, _, hc2⟩ := H2.out.cells (by omega)
      have c1 := hc k hlt
      have c2 := hc2 k hlt
      clear hc hc2
      obtain ⟨x, hx⟩ : ∃ x : Int, x = xs.getD k 0 := ⟨_, rfl⟩
      rw [← hx] at c1 c2
      clear hx
      have hltI : (k : Int) < (n : Int) := by omega
      have hkI : (0 : Int) ≤ (k : Int) := by omega
      go_wp2_with fail
      go_quiet (fail)
      go_wp2
      go_roundw
      case rel => exact ⟨k + 1, q + nq, by omega, by go_num, rfl⟩
      case measure => simp [intOf]; omega
    · obtain rfl : k = n := by omega
      go_wp2
      go_ret
      exact ⟨rfl, below_drewN (Below.refl _ _) _⟩

/-- all weights together, or what is wrong -/
def weighF : Int → List Int → Int × Int
  | t, [] => if t = 0 then (0, 1) else (t, 0)
  | t, x :: xs => if x < 0 ∨ 1024 < x then (0, 2) else weighF (t + x) xs
def weigh (xs : List Int) : Int × Int := if xs.length < 1 ∨ 8 < xs.length then (0, 1) else weighF 0 xs
theorem weighF_on {t : Int} {xs : List Int} {k : Nat} {p : Int × Int} (h : weighF t (xs.drop k) = p) (hk : k < xs.length) (h1 : 0 ≤ xs.getD k 0) (h2 : xs.getD k 0 ≤ 1024) : weighF (t + xs.getD k 0) (xs.drop (k + 1)) = p := by
  rw [List.drop_eq_getElem_cons hk, weighF] at h
  have e : xs[k] = xs.getD k 0 := by simp [hk]
  rw [e, if_neg (by omega)] at h
  exact h
theorem weighF_off {t : Int} {xs : List Int} {k : Nat} {p : Int × Int} (h : weighF t (xs.drop k) = p) (hk : k < xs.length) (h1 : xs.getD k 0 < 0 ∨ 1024 < xs.getD k 0) : p = (0, 2) := by
  rw [List.drop_eq_getElem_cons hk, weighF] at h
  have e : xs[k] = xs.getD k 0 := by simp [hk]
  rw [e, if_pos h1] at h
  exact h.symm
theorem weighF_end {t : Int} {xs : List Int} {p : Int × Int} (h : weighF t (xs.drop xs.length) = p) : p = if t = 0 then (0, 1) else (t, 0) := by
  rw [List.drop_length, weighF] at h
  exact h.symm

set_option maxRecDepth 100000 in
set_option maxHeartbeats 400000 in
theorem weigh_c (w : World) (A : Option Addr) (n c : Nat) (xs : List Int) (h : RdI w A n c xs) : Calls Try.prog 32 #[.slice A n c] w (Two (weigh xs) w) := by
  have H := Lib.hid h
  have hle := h.le
  have hmax := h.max
  have HL := Lib.hid h.len
  clear h
  by_cases h1 : n < 1
  · have E : Hid (weigh xs = (0, 1)) := if_pos (.inl (by rw [HL.out]; exact h1))
    have h1I : (n : Int) < 1 := by omega
    clear h1
    go_enter Try.func32, Try.ntmps32
    go_wp2_with fail
    go_ret2
    exact ⟨by rw [E.out]; rfl, rfl⟩
  by_cases h8 : 8 < n
  · have E : Hid (weigh xs = (0, 1)) := if_pos (.inr (by rw [HL.out]; exact h8))
    have h1I : ¬ (n : Int) < 1 := by omega
    have h8I : (8 : Int) < (n : Int) := by omega
    clear h1 h8
    go_enter Try.func32, Try.ntmps32
    go_wp2_with fail
    go_ret2
    exact ⟨by rw [E.out]; rfl, rfl⟩
  have E : Hid (weigh xs = weighF 0 xs) := if_neg (by rw [HL.out]; omega)
  have h1I : ¬ (n : Int) < 1 := by omega
  have h8I : ¬ (8 : Int) < (n : Int) := by omega
  go_enter Try.func32, Try.ntmps32
  go_wp2_with fail
  go_loopw [4, 17] (fun tv iv wr => ∃ (acc k : Nat), tv = .int .i64 acc ∧ iv = .int .i64 k ∧ k ≤ n ∧ Hid (weighF acc (xs.drop k) = weighF 0 xs) ∧ acc ≤ 1024 * k ∧ wr = w) (fun _ iv _ => n - (intOf iv).toNat)
  case atStart => exact ⟨0, 0, rfl, rfl, Nat.zero_le _, rfl, by omega, rfl⟩
  case round =>
    obtain ⟨acc, k, rfl, rfl, hk, HD, hacc, rfl⟩ := hrel
    by_cases hlt : k < n
    · obtain ⟨b, o, rfl, _, hc⟩ := H.out.cells (by omega)
      have c1 := hc k hlt
      clear hc
      obtain ⟨x, hx⟩ : ∃ x : Int, x = xs.getD k 0 := ⟨_, rfl⟩
      rw [← hx] at c1
      have hltI : (k : Int) < (n : Int) := by omega
      have hkI : (0 : Int) ≤ (k : Int) := by omega
      have hlen : k < xs.length := by rw [HL.out]; exact hlt
      by_cases x0 : x < 0
      · have D : Hid (weighF 0 xs = (0, 2)) := weighF_off HD.out hlen (by rw [← hx]; exact .inl x0)
        clear hx
        go_wp2_with fail
        go_ret2
        exact ⟨by rw [E.out, D.out]; rfl, rfl⟩
      by_cases x1 : 1024 < x
      · have D : Hid (weighF 0 xs = (0, 2)) := weighF_off HD.out hlen (by rw [← hx]; exact .inr x1)
        clear hx
        go_wp2_with fail
        go_ret2
        exact ⟨by rw [E.out, D.out]; rfl, rfl⟩
      obtain ⟨X, rfl⟩ : ∃ X : Nat, x = X := ⟨x.toNat, by omega⟩
      have D : Hid (weighF ((acc + X : Nat) : Int) (xs.drop (k + 1)) = weighF 0 xs) := by
        have := weighF_on HD.out hlen (by rw [← hx]; omega) (by rw [← hx]; omega)
        rw [← hx] at this
        exact this
      have hw : IntKind.i64.wrap ((acc : Int) + (X : Int)) = (acc : Int) + (X : Int) := IntWalk.i64_in _ (by omega)
      clear hx
      go_wp2_with fail
      go_roundw
      case rel => exact ⟨acc + X, k + 1, by simp, by go_num, by omega, D, by omega, by first | trivial | rfl⟩
      case measure => simp [intOf]; omega
    · obtain rfl : k = n := by omega
      have D : Hid (weighF 0 xs = if (acc : Int) = 0 then (0, 1) else ((acc : Int), 0)) := weighF_end (t := acc) (xs := xs) (by rw [HL.out]; exact HD.out)
      by_cases ha : acc = 0
      · obtain rfl := ha
        go_wp2_with fail
        go_ret2
        exact ⟨by rw [E.out, D.out]; rfl, rfl⟩
      · have hz : ((acc : Int) == 0) = false := by rw [beq_eq_false_iff_ne]; omega
        have D2 : Hid (weighF 0 xs = ((acc : Int), 0)) := D.out.trans (if_neg (by omega))
        clear ha D
        go_wp2_with fail
        go_ret2
        exact ⟨by rw [E.out, D2.out]; rfl, rfl⟩
#print axioms weigh_c
end Go.Proofs.Ythdnfnilckjldaa
