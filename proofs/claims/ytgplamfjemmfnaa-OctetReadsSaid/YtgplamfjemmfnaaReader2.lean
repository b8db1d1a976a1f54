/-
  What octet's Reader does, the rest: Int, Bytes, Text, Left, Err, End; and a new one.
-/
import Derived.Test.YtgplamfjemmfnaaReader
namespace Go.Proofs.Ytgplamfjemmfnaa
open Go.RowKit

set_option maxRecDepth 100000 in
set_option maxHeartbeats 400000 in
theorem clone_c (w : World) (A : Option Addr) (n c : Nat) (bs : List UInt8) (h : Rd w A n c bs) (hn : n ≤ 100000000000000) :
    Calls Try.prog 33 #[.slice A n c] w (Makes w bs) := by
  cases A with
  | none =>
    obtain rfl := h.none_ rfl
    obtain rfl : n = 0 := by have := h.le; omega
    obtain rfl : bs = [] := List.eq_nil_of_length_eq_zero h.len
    clear h
    have heq := fun w => Lib.run_eql_slice_nil (P := Try.prog) w 22 5 none 0 0 0 0 Try.underlying22
    go_enter Try.func33, Try.ntmps33
    go_wp2
    go_ret
    exact ⟨none, 0, 0, rfl, ⟨rfl, by omega, World.ownsRow_nil _ _ _ _⟩, Below.refl _ _⟩
  | some a =>
    have H := Lib.hid h
    have hle := h.le
    have hmx := h.max
    clear h
    have heq := fun w => Lib.run_eql_slice_nil (P := Try.prog) w 22 5 (some a) n c 0 0 Try.underlying22
    go_enter Try.func33, Try.ntmps33
    go_wp2_with (refine wpList_push_all (o := ⟨some 7, _, _, _, _, _⟩) rfl (.tmp 5) (.tmp 6) 22 22 rfl 5 Try.underlying22 infoU8 w.heap.size (some ⟨w.heap.size, 0, none⟩) 0 0 [] (by rfl) (Own.empty _ _) _ n bs (by rfl) ((H.out.ext (ext_alloc _ _)).src Try.underlying22) (by omega) (by simp) ?_; intro A3 c3 w3 hown3 hb3; go_simp)
    go_ret
    exact ⟨A3, n, c3, by simp, by simpa using hown3, ((Below.refl _ _).alloc (Nat.le_refl _) _).trans hb3⟩

set_option maxRecDepth 100000 in
set_option maxHeartbeats 400000 in
theorem int_r (w : World) (b : Nat) (A : Option Addr) (n c : Nat) (bs : List UInt8) (err : Int) (h : Rdr w b A n c bs err) :
    Calls Try.prog 24 #[.pointer (some ⟨b, 0, none⟩)] w (Reads1 w b (.int .i64 (unfold_ (rnum bs err 18446744073709551615).1)) (rnum bs err 18446744073709551615).2.1 (rnum bs err 18446744073709551615).2.2) := by
  obtain ⟨R, hR⟩ : ∃ R, R = rnum bs err 18446744073709551615 := ⟨_, rfl⟩
  have HR := Lib.hid hR
  have P : Hid (Calls Try.prog 23 #[.pointer (some ⟨b, 0, none⟩), .int .u64 18446744073709551615] w (Reads1 w b (.int .u64 R.1) R.2.1 R.2.2)) := by
    have := num_r w b A n c bs err h 18446744073709551615
    rw [hR]
    exact Lib.hid this
  rw [← hR]
  clear hR
  go_enter Try.func24, Try.ntmps24
  go_wp2_with fail
  refine (unhide P).mono ?_
  rintro e w1 ⟨rfl, A1, n1, c1, h1, hg⟩
  go_wp2_with fail
  go_ret
  exact ⟨congrArg (fun k => Ending.returned (.int .i64 k)) (unfold_bits (N := R.1) (by rw [HR.out]; exact rnum_lt _ _ _)), A1, n1, c1, h1, hg⟩
#print axioms int_r

theorem left_r (w : World) (b : Nat) (A : Option Addr) (n c : Nat) (bs : List UInt8) (err : Int) (h : Rdr w b A n c bs err) :
    Calls Try.prog 30 #[.pointer (some ⟨b, 0, none⟩)] w (fun e w' => e = .returned (.int .i64 (n : Nat)) ∧ w = w') := by
  have k0 := h.c0
  go_enter Try.func30, Try.ntmps30
  go_wp2
  go_ret
  exact ⟨rfl, rfl⟩
theorem err_r (w : World) (b : Nat) (A : Option Addr) (n c : Nat) (bs : List UInt8) (err : Int) (h : Rdr w b A n c bs err) :
    Calls Try.prog 29 #[.pointer (some ⟨b, 0, none⟩)] w (fun e w' => e = .returned (.int .i64 err) ∧ w = w') := by
  have k1 := h.c1
  go_enter Try.func29, Try.ntmps29
  go_wp2
  go_ret
  exact ⟨rfl, rfl⟩
/-- what End answers -/
def rend (n : Nat) (err : Int) : Int := if err ≠ 0 then err else if 0 < n then 5 else 0
theorem end_r (w : World) (b : Nat) (A : Option Addr) (n c : Nat) (bs : List UInt8) (err : Int) (h : Rdr w b A n c bs err) :
    Calls Try.prog 31 #[.pointer (some ⟨b, 0, none⟩)] w (fun e w' => e = .returned (.int .i64 (rend n err)) ∧ w = w') := by
  have k0 := h.c0
  have k1 := h.c1
  by_cases he : err = 0
  · subst he
    by_cases hn : 0 < n
    · have R : rend n 0 = 5 := by unfold rend; rw [if_neg (by simp), if_pos hn]
      rw [R]
      clear R
      go_enter Try.func31, Try.ntmps31
      go_wp2_with go_in
      go_ret
      exact ⟨rfl, rfl⟩
    · have R : rend n 0 = 0 := by unfold rend; rw [if_neg (by simp), if_neg hn]
      rw [R]
      clear R
      go_enter Try.func31, Try.ntmps31
      go_wp2_with go_in
      go_ret
      exact ⟨rfl, rfl⟩
  · have R : rend n err = err := by unfold rend; rw [if_pos he]
    rw [R]
    clear R
    have b3 : (err != 0) = true := by simpa using he
    clear he
    go_enter Try.func31, Try.ntmps31
    go_wp2_with go_in
    go_ret
    exact ⟨rfl, rfl⟩

/-- a new reader's block -/
def News (w : World) (bs : List UInt8) (e : Ending) (w' : World) : Prop :=
  ∃ b A n c, e = .returned (.pointer (some ⟨b, 0, none⟩)) ∧ Rdr w' b A n c bs 0 ∧ w.heap.size ≤ b ∧ Below w.heap.size w w'
set_option maxRecDepth 100000 in
set_option maxHeartbeats 400000 in
theorem newReader_c (w : World) (A : Option Addr) (n c : Nat) (bs : List UInt8) (h : Rd w A n c bs) (hn : n ≤ 100000000000000) :
    Calls Try.prog 21 #[.slice A n c] w (News w bs) := by
  go_enter Try.func21, Try.ntmps21
  go_wp2_with (go_at_call 33; refine (clone_c _ _ _ _ _ h hn).mono ?_; rintro e w1 ⟨A1, n1, c1, rfl, ho1, hb1⟩)
  go_ret
  refine ⟨w1.heap.size, A1, n1, c1, rfl, ⟨Go.heap_alloc_new w1 _, ho1.rd.ext (ext_alloc _ _)⟩, hb1.size, ext_trans hb1 (ext_alloc _ _)⟩
end Go.Proofs.Ytgplamfjemmfnaa
