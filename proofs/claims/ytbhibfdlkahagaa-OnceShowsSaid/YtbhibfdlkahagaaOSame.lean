/-
  once: the document's Same of two rows of the same bytes; a row of one's own, its block.
-/
import Derived.Test.YtbhibfdlkahagaaOKnown
import Derived.Test.YtbhibfdlkahagaaHOpen
namespace Go.Proofs.Ytbhibfdlkahagaa
open Go.RowKit

set_option maxRecDepth 100000 in
set_option maxHeartbeats 400000 in
theorem same_yes (w : World) (A : Option Addr) (n c : Nat) (xs : List UInt8) (h : Rd w A n c xs) (A2 : Option Addr) (c2 : Nat) (h2 : Rd w A2 n c2 xs) :
    Calls Try.prog 26 #[.slice A n c, .slice A2 n c2] w (fun e w' => e = .returned (.bool true) ∧ Below w.heap.size w w') := by
  have H := Lib.hid h
  have H2 := Lib.hid h2
  have hle := h.le
  have hm := h.max
  clear h h2
  go_enter Try.func26, Try.ntmps26
  go_wp2
  go_loopw [5] (fun i wr => ∃ (k q : Nat), k ≤ n ∧ i = .int .i64 k ∧ wr = w.drewN q) (fun i _ => n - (intOf i).toNat)
  case atStart => exact ⟨0, 0, Nat.zero_le _, rfl, rfl⟩
  case round =>
    obtain ⟨k, q, hk, rfl, rfl⟩ := hrel
    by_cases hlt : k < n
    · obtain ⟨b, o, rfl, _, hc⟩ := H.out.cells (by omega)
      obtain ⟨b2, o2, rfl, _, hc2⟩ := H2.out.cells (by omega)
      have c1 := hc k hlt
      have c2 := hc2 k hlt
      clear hc hc2
      obtain ⟨x, hx⟩ : ∃ x : Int, x = (xs.getD k 0).toNat := ⟨_, rfl⟩
      rw [← hx] at c1 c2
      clear hx
      have hltI : (k : Int) < (n : Int) := by omega
      have hkI : (0 : Int) ≤ (k : Int) := by omega
      go_wp2_with fail
      go_quiet (fail)
      go_wp2
      go_roundw
      case rel => exact ⟨k + 1, q + nq, by omega, by go_num, rfl⟩
      case measure => simp [intOf]; omega
    · obtain rfl : k = n := by omega
      go_wp2
      go_ret
      exact ⟨rfl, below_drewN (Below.refl _ _) _⟩
theorem Own.block {w : World} {E : TypeId} {B : Nat} {A : Option Addr} {n c : Nat} {bs : List UInt8} (h : Own w E B A n c bs) (hn : 0 < n) :
    ∃ g X, A = some ⟨g, 0, none⟩ ∧ B ≤ g ∧ g < w.heap.size ∧ w.heap[g]? = some (.cells X E (0, 0)) ∧ ∀ j, j < n → w.cell? ⟨g, j, none⟩ = some (.int .u8 (bs.getD j 0).toNat) := by
  rcases h.row.2 with ⟨hv, h1⟩ | ⟨g, cap, cur, hv, hb, hg, h1, h2, h3, h4⟩
  · omega
  · injection hv with e1 e2 e3
    subst e1 e3
    refine ⟨g, _, rfl, hb, (Array.getElem?_eq_some_iff.1 hg).1, hg, fun j hj => ?_⟩
    have := h.row.cells (g := g) rfl j (.int .u8 (bs.getD j 0).toNat) (U8_getD (by rw [h.len]; exact hj))
    rw [Addr.add_lit, Nat.zero_add] at this
    exact this
theorem Rd.at {w w' : World} {b o n c : Nat} {bs : List UInt8} (h : Rd w (some ⟨b, o, none⟩) n c bs) (hb : w'.heap[b]? = w.heap[b]?) (hs : w.heap.size ≤ w'.heap.size) : Rd w' (some ⟨b, o, none⟩) n c bs :=
  ⟨h.len, h.le, h.max, fun hn => by
    obtain ⟨b1, o1, hA, hb1, hc⟩ := h.cells hn
    injection hA with hA
    injection hA with e1 e2
    subst e1 e2
    refine ⟨b, o, rfl, Nat.lt_of_lt_of_le hb1 hs, fun j hj => ?_⟩
    rw [← hc j hj]
    simp only [World.cell?, hb], h.none_⟩
#print axioms same_yes
#print axioms Own.block
#print axioms Rd.at
end Go.Proofs.Ytbhibfdlkahagaa
