/-
  What the document's own Num, Fold, Bytes and Same come to; and that the chapter's example is so.
-/
import Derived.Test.YtgplamfjemmfnaaPuts2
namespace Go.Proofs.Ytgplamfjemmfnaa
open Go.RowKit

set_option maxRecDepth 100000 in
set_option maxHeartbeats 400000 in
theorem refNum_c (w : World) (m : Nat) (hm : Hid (m < 18446744073709551616)) :
    Calls Try.prog 18 #[.int .u64 m] w (Makes w (num m)) := by
  go_enter Try.func18, Try.ntmps18
  go_wp2
  have h0 : Own w 5 w.heap.size none 0 0 [] := ⟨rfl, by omega, World.ownsRow_nil _ _ _ _⟩
  go_loopw [0, 3] (fun nv vv wr => ∃ (k : Nat) (done : List UInt8) (A' : Option Addr) (n' c' : Nat), nv = .int .u64 k ∧ vv = .slice A' n' c' ∧ PutInv w [] m k done A' n' c' wr) (fun nv _ _ => (intOf nv).toNat)
  case atStart => exact ⟨m, [], none, 0, 0, rfl, rfl, ⟨by simpa using h0, Below.refl _ _, by simp, hm.out, hm.out, by simp⟩⟩
  case round =>
    obtain ⟨k, done, A', n', c', rfl, rfl, hinv⟩ := hrel
    have hB := hinv.below.size
    have hl := hinv.len
    by_cases hk : 128 ≤ k
    · go_wp2_with (refine wpList_push (o := ⟨some 12, _, _, _, _, _⟩) rfl (.tmp 6) (.tmp 11) 22 rfl 5 Try.underlying22 infoU8 w.heap.size A' n' c' _ (by rfl) hinv.own _ _ (mod_more' k) (by rfl) (by omega) hB ?_; intro A2 c2 w3 hown3 hb3; go_simp)
      go_roundw
      case rel => exact ⟨k / 128, _, A2, n' + 1, c2, by rw [u64_div hinv.small], rfl, hinv.step hk hown3 hb3⟩
      case measure => rw [u64_div hinv.small]; simp [intOf]; omega
    · go_wp2_with (refine wpList_push (o := ⟨some 19, _, _, _, _, _⟩) rfl (.tmp 15) (.tmp 18) 22 rfl 5 Try.underlying22 infoU8 w.heap.size A' n' c' _ (by rfl) hinv.own _ _ (small_byte k (by omega)) (by rfl) (by omega) hB ?_; intro A2 c2 w3 hown3 hb3; go_simp)
      go_ret
      exact ⟨A2, n' + 1, c2, rfl, hinv.last hk hown3, hinv.below.trans hb3⟩

theorem refFold_c (w : World) (k : Int) (h1 : -9223372036854775808 ≤ k) (h2 : k < 9223372036854775808) :
    Calls Try.prog 19 #[.int .i64 k] w (fun e w' => e = .returned (.int .u64 (fold k : Nat)) ∧ w = w') := by
  rcases (show k < 0 ∨ 0 ≤ k by omega) with h0 | h0
  · have hf := fold_neg h0
    go_enter Try.func19, Try.ntmps19
    go_wp2
    go_ret
    exact ⟨by simp [hf], rfl⟩
  · have hf := fold_pos h0
    go_enter Try.func19, Try.ntmps19
    go_wp2
    go_ret
    exact ⟨by simp [hf], rfl⟩

theorem refNum_i (w : World) (m : Nat) (hm : m < 18446744073709551616) (X : Int) (hX : X = (m : Int)) :
    Calls Try.prog 18 #[.int .u64 X] w (Makes w (num m)) := by
  subst hX
  exact refNum_c w m hm

set_option maxRecDepth 100000 in
set_option maxHeartbeats 400000 in
theorem refBytes_c (w : World) (A2 : Option Addr) (n2 c2 : Nat) (xs : List UInt8) (h2 : Rd w A2 n2 c2 xs) (hn2 : n2 ≤ 1000000000000) :
    Calls Try.prog 20 #[.slice A2 n2 c2] w (Makes w (num xs.length ++ xs)) := by
  have H2 := Lib.hid h2
  have hl2 := h2.le
  have hm2 := h2.max
  clear h2
  go_enter Try.func20, Try.ntmps20
  go_wp2_with (first
    | (go_at_call 18; refine (refNum_i _ n2 (by omega) _ rfl).mono ?_; rintro e w1 ⟨A1, n1, c1, rfl, ho1, hb1⟩; have hn1 : n1 ≤ 1000000000010 := ten_more (bs := []) (n := 0) ho1.len rfl (by omega) (by omega))
    | (refine wpList_push_all (o := ⟨some 8, _, _, _, _, _⟩) rfl (.tmp 6) (.tmp 7) 22 22 rfl 5 Try.underlying22 infoU8 w.heap.size A1 n1 c1 _ (by rfl) ho1 _ n2 xs (by rfl) ((H2.out.ext hb1).src Try.underlying22) (by omega) hb1.size ?_; intro A3 c3 w3 hown3 hb3; go_simp))
  go_ret
  exact ⟨A3, _, c3, rfl, by rw [H2.out.len]; exact hown3, hb1.trans hb3⟩

set_option maxRecDepth 100000 in
set_option maxHeartbeats 400000 in
theorem same_yes (w : World) (A : Option Addr) (n c : Nat) (xs : List UInt8) (h : Rd w A n c xs) (A2 : Option Addr) (c2 : Nat) (h2 : Rd w A2 n c2 xs) :
    Calls Try.prog 17 #[.slice A n c, .slice A2 n c2] w (fun e w' => e = .returned (.bool true) ∧ Below w.heap.size w w') := by
  have H := Lib.hid h
  have H2 := Lib.hid h2
  have hle := h.le
  have hm := h.max
  clear h h2
  go_enter Try.func17, Try.ntmps17
  go_wp2
  go_loopw [5] (fun i wr => ∃ (k q : Nat), k ≤ n ∧ i = .int .i64 k ∧ wr = w.drewN q) (fun i _ => n - (intOf i).toNat)
  case atStart => exact ⟨0, 0, Nat.zero_le _, rfl, rfl⟩
  case round =>
    obtain ⟨k, q, hk, rfl, rfl⟩ := hrel
    by_cases hlt : k < n
    · obtain ⟨b, o, rfl, _, hc⟩ := H.out.cells (by omega)
      obtain ⟨b2, o2, rfl, _, hc2⟩ := H2.out.cells (by omega)
      have c1 := hc k hlt
      have c2 := hc2 k hlt
      clear hc hc2
      obtain ⟨x, hx⟩ : ∃ x : Int, x = (xs.getD k 0).toNat := ⟨_, rfl⟩
      rw [← hx] at c1 c2
      clear hx
      have hltI : (k : Int) < (n : Int) := by omega
      have hkI : (0 : Int) ≤ (k : Int) := by omega
      go_wp2_with fail
      go_quiet (fail)
      go_wp2
      go_roundw
      case rel => exact ⟨k + 1, q + nq, by omega, by go_num, rfl⟩
      case measure => simp [intOf]; omega
    · obtain rfl : k = n := by omega
      go_wp2
      go_ret
      exact ⟨rfl, below_drewN (Below.refl _ _) _⟩
#print axioms same_yes
end Go.Proofs.Ytgplamfjemmfnaa
