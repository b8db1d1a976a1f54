/-
  What octet's other Put calls come to, and the document's own Num, Fold, Bytes, Same.
-/
import Derived.Test.YtgplamfjemmfnaaPuts
import Derived.Deep.QuietTactic
import Derived.BigQuiet
namespace Go.Proofs.Ytgplamfjemmfnaa
open Go.RowKit

theorem putNum_i (w : World) (A : Option Addr) (n c : Nat) (bs : List UInt8) (h : Rd w A n c bs) (hn : n ≤ 1000000000000) (m : Nat) (hm : m < 18446744073709551616) (X : Int) (hX : X = (m : Int)) :
    Calls Try.prog 12 #[.slice A n c, .int .u64 X] w (Makes w (bs ++ num m)) := by
  subst hX
  exact putNum_c w A n c bs h hn m hm

theorem Makes.fwd {w w' : World} {bs : List UInt8} {e : Ending} (h : Makes w bs e w') : ∃ A n c, e = .returned (.slice A n c) ∧ Own w' 5 w.heap.size A n c bs ∧ Below w.heap.size w w' := h

set_option maxRecDepth 100000 in
set_option maxHeartbeats 400000 in
theorem putInt_c (w : World) (A : Option Addr) (n c : Nat) (bs : List UInt8) (h : Rd w A n c bs) (hn : n ≤ 1000000000000) (k : Int) (h1 : -9223372036854775808 ≤ k) (h2 : k < 9223372036854775808) :
    Calls Try.prog 13 #[.slice A n c, .int .i64 k] w (Makes w (bs ++ num (fold k))) := by
  have hf := fold_lt h1 h2
  rcases (show k < 0 ∨ 0 ≤ k by omega) with h0 | h0
  · go_enter Try.func13, Try.ntmps13
    go_wp2_with (go_at_call 12; refine (putNum_i _ _ _ _ _ h hn _ hf _ (xor_neg h0 h1)).mono ?_; rintro e w' ⟨A', n', c', rfl, ho, hb⟩)
    go_ret
    exact ⟨_, _, _, rfl, ho, hb⟩
  · go_enter Try.func13, Try.ntmps13
    go_wp2_with (go_at_call 12; refine (putNum_i _ _ _ _ _ h hn _ hf _ (xor_pos h0 h2)).mono ?_; rintro e w' ⟨A', n', c', rfl, ho, hb⟩)
    go_ret
    exact ⟨_, _, _, rfl, ho, hb⟩

set_option maxRecDepth 100000 in
set_option maxHeartbeats 400000 in
theorem putBytes_c (w : World) (A : Option Addr) (n c : Nat) (bs : List UInt8) (h : Rd w A n c bs) (hn : n ≤ 1000000000000) (A2 : Option Addr) (n2 c2 : Nat) (xs : List UInt8) (h2 : Rd w A2 n2 c2 xs) (hn2 : n2 ≤ 1000000000000) :
    Calls Try.prog 14 #[.slice A n c, .slice A2 n2 c2] w (Makes w (bs ++ num xs.length ++ xs)) := by
  have H := Lib.hid h
  have H2 := Lib.hid h2
  have hl2 := h2.le
  have hm2 := h2.max
  have hl := Lib.hid h.len
  clear h h2
  go_enter Try.func14, Try.ntmps14
  go_wp2_with (first
    | (go_at_call 12; refine (putNum_i _ _ _ _ _ H.out hn n2 (by omega) _ rfl).mono ?_; rintro e w1 ⟨A1, n1, c1, rfl, ho1, hb1⟩; have hn1 : n1 ≤ 1000000000010 := ten_more ho1.len hl.out hn (by omega))
    | (refine wpList_push_all (o := ⟨some 11, _, _, _, _, _⟩) rfl (.tmp 9) (.tmp 10) 22 22 rfl 5 Try.underlying22 infoU8 w.heap.size A1 n1 c1 _ (by rfl) ho1 _ n2 xs (by rfl) ((H2.out.ext hb1).src Try.underlying22) (by omega) hb1.size ?_; intro A3 c3 w3 hown3 hb3; go_simp))
  go_ret
  exact ⟨A3, _, c3, rfl, by rw [H2.out.len]; exact hown3, hb1.trans hb3⟩

set_option maxRecDepth 100000 in
set_option maxHeartbeats 400000 in
theorem putText_c (w : World) (A : Option Addr) (n c : Nat) (bs : List UInt8) (h : Rd w A n c bs) (hn : n ≤ 1000000000000) (s : ByteArray) (hs : s.size ≤ 1000000000000) :
    Calls Try.prog 15 #[.slice A n c, .string s] w (Makes w (bs ++ num s.size ++ s.data.toList)) := by
  have H := Lib.hid h
  have hl := Lib.hid h.len
  clear h
  go_enter Try.func15, Try.ntmps15
  go_wp2_with (first
    | (go_at_call 12; refine (putNum_i _ _ _ _ _ H.out hn s.size (by omega) _ rfl).mono ?_; rintro e w1 ⟨A1, n1, c1, rfl, ho1, hb1⟩; have hn1 : n1 ≤ 1000000000010 := ten_more ho1.len hl.out hn (by omega))
    | (refine wpList_push_all (o := ⟨some 11, _, _, _, _, _⟩) rfl (.tmp 9) (.tmp 10) 22 9 rfl 5 Try.underlying22 infoU8 w.heap.size A1 n1 c1 _ (by rfl) ho1 _ s.size s.data.toList (by rfl) (Src.ofString w1 Try.underlying9 s) (by omega) hb1.size ?_; intro A3 c3 w3 hown3 hb3; go_simp))
  go_ret
  exact ⟨A3, _, c3, rfl, hown3, hb1.trans hb3⟩
end Go.Proofs.Ytgplamfjemmfnaa
