/-
  What the document's own Num, Fold, Bytes and Same come to; and that the chapter's example is so.
-/
import Derived.Test.YtibmkihehaedjaaDoorPuts2
namespace Go.Proofs.YtibmkihehaedjaaDoor
open Go.RowKit

set_option maxRecDepth 100000 in
set_option maxHeartbeats 400000 in
theorem refNum_c (w : World) (m : Nat) (hm : Hid (m < 18446744073709551616)) :
    Calls Tryd.prog 42 #[.int .u64 m] w (Makes w (num m)) := by
  go_enter Tryd.func42, Tryd.ntmps42
  go_wp2
  have h0 : Own w 5 w.heap.size none 0 0 [] := ⟨rfl, by omega, World.ownsRow_nil _ _ _ _⟩
  go_loopw [0, 3] (fun nv vv wr => ∃ (k : Nat) (done : List UInt8) (A' : Option Addr) (n' c' : Nat), nv = .int .u64 k ∧ vv = .slice A' n' c' ∧ PutInv w [] m k done A' n' c' wr) (fun nv _ _ => (intOf nv).toNat)
  case atStart => exact ⟨m, [], none, 0, 0, rfl, rfl, ⟨by simpa using h0, Below.refl _ _, by simp, hm.out, hm.out, by simp⟩⟩
  case round =>
    obtain ⟨k, done, A', n', c', rfl, rfl, hinv⟩ := hrel
    have hB := hinv.below.size
    have hl := hinv.len
    by_cases hk : 128 ≤ k
    · go_wp2_with (refine wpList_push (o := ⟨some 12, _, _, _, _, _⟩) rfl (.tmp 6) (.tmp 11) 48 rfl 5 Tryd.underlying48 infoU8 w.heap.size A' n' c' _ (by rfl) hinv.own _ _ (mod_more' k) (by rfl) (by omega) hB ?_; intro A2 c2 w3 hown3 hb3; go_simp)
      go_roundw
      case rel => exact ⟨k / 128, _, A2, n' + 1, c2, by rw [u64_div hinv.small], rfl, hinv.step hk hown3 hb3⟩
      case measure => rw [u64_div hinv.small]; simp [intOf]; omega
    · go_wp2_with (refine wpList_push (o := ⟨some 19, _, _, _, _, _⟩) rfl (.tmp 15) (.tmp 18) 48 rfl 5 Tryd.underlying48 infoU8 w.heap.size A' n' c' _ (by rfl) hinv.own _ _ (small_byte k (by omega)) (by rfl) (by omega) hB ?_; intro A2 c2 w3 hown3 hb3; go_simp)
      go_ret
      exact ⟨A2, n' + 1, c2, rfl, hinv.last hk hown3, hinv.below.trans hb3⟩

theorem refFold_c (w : World) (k : Int) (h1 : -9223372036854775808 ≤ k) (h2 : k < 9223372036854775808) :
    Calls Tryd.prog 43 #[.int .i64 k] w (fun e w' => e = .returned (.int .u64 (fold k : Nat)) ∧ w = w') := by
  rcases (show k < 0 ∨ 0 ≤ k by omega) with h0 | h0
  · have hf := fold_neg h0
    go_enter Tryd.func43, Tryd.ntmps43
    go_wp2
    go_ret
    exact ⟨by simp [hf], rfl⟩
  · have hf := fold_pos h0
    go_enter Tryd.func43, Tryd.ntmps43
    go_wp2
    go_ret
    exact ⟨by simp [hf], rfl⟩

theorem refNum_i (w : World) (m : Nat) (hm : m < 18446744073709551616) (X : Int) (hX : X = (m : Int)) :
    Calls Tryd.prog 42 #[.int .u64 X] w (Makes w (num m)) := by
  subst hX
  exact refNum_c w m hm

end Go.Proofs.YtibmkihehaedjaaDoor
