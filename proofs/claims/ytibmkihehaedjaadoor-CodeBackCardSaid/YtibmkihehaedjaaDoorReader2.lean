/-
  What octet's Reader does, the rest: Int, Bytes, Text, Left, Err, End; and a new one.
-/
import Derived.Test.YtibmkihehaedjaaDoorReader
namespace Go.Proofs.YtibmkihehaedjaaDoor
open Go.RowKit

set_option maxRecDepth 100000 in
set_option maxHeartbeats 400000 in
theorem clone_c (w : World) (A : Option Addr) (n c : Nat) (bs : List UInt8) (h : Rd w A n c bs) (hn : n ≤ 100000000000000) :
    Calls Tryd.prog 62 #[.slice A n c] w (Makes w bs) := by
  cases A with
  | none =>
    obtain rfl := h.none_ rfl
    obtain rfl : n = 0 := by have := h.le; omega
    obtain rfl : bs = [] := List.eq_nil_of_length_eq_zero h.len
    clear h
    have heq := fun w => Lib.run_eql_slice_nil (P := Tryd.prog) w 48 5 none 0 0 0 0 Tryd.underlying48
    go_enter Tryd.func62, Tryd.ntmps62
    go_wp2
    go_ret
    exact ⟨none, 0, 0, rfl, ⟨rfl, by omega, World.ownsRow_nil _ _ _ _⟩, Below.refl _ _⟩
  | some a =>
    have H := Lib.hid h
    have hle := h.le
    have hmx := h.max
    clear h
    have heq := fun w => Lib.run_eql_slice_nil (P := Tryd.prog) w 48 5 (some a) n c 0 0 Tryd.underlying48
    go_enter Tryd.func62, Tryd.ntmps62
    go_wp2_with (refine wpList_push_all (o := ⟨some 7, _, _, _, _, _⟩) rfl (.tmp 5) (.tmp 6) 48 48 rfl 5 Tryd.underlying48 infoU8 w.heap.size (some ⟨w.heap.size, 0, none⟩) 0 0 [] (by rfl) (Own.empty _ _) _ n bs (by rfl) ((H.out.ext (ext_alloc _ _)).src Tryd.underlying48) (by omega) (by simp) ?_; intro A3 c3 w3 hown3 hb3; go_simp)
    go_ret
    exact ⟨A3, n, c3, by simp, by simpa using hown3, ((Below.refl _ _).alloc (Nat.le_refl _) _).trans hb3⟩

set_option maxRecDepth 100000 in
set_option maxHeartbeats 400000 in
theorem int_r (w : World) (b : Nat) (A : Option Addr) (n c : Nat) (bs : List UInt8) (err : Int) (h : Rdr w b A n c bs err) :
    Calls Tryd.prog 66 #[.pointer (some ⟨b, 0, none⟩)] w (Reads1 w b (.int .i64 (unfold_ (rnum bs err 18446744073709551615).1)) (rnum bs err 18446744073709551615).2.1 (rnum bs err 18446744073709551615).2.2) := by
  obtain ⟨R, hR⟩ : ∃ R, R = rnum bs err 18446744073709551615 := ⟨_, rfl⟩
  have HR := Lib.hid hR
  have P : Hid (Calls Tryd.prog 45 #[.pointer (some ⟨b, 0, none⟩), .int .u64 18446744073709551615] w (Reads1 w b (.int .u64 R.1) R.2.1 R.2.2)) := by
    have := num_r w b A n c bs err h 18446744073709551615
    rw [hR]
    exact Lib.hid this
  rw [← hR]
  clear hR
  go_enter Tryd.func66, Tryd.ntmps66
  go_wp2_with fail
  refine (unhide P).mono ?_
  rintro e w1 ⟨rfl, A1, n1, c1, h1, hg⟩
  go_wp2_with fail
  go_ret
  exact ⟨congrArg (fun k => Ending.returned (.int .i64 k)) (unfold_bits (N := R.1) (by rw [HR.out]; exact rnum_lt _ _ _)), A1, n1, c1, h1, hg⟩
#print axioms int_r

theorem left_r (w : World) (b : Nat) (A : Option Addr) (n c : Nat) (bs : List UInt8) (err : Int) (h : Rdr w b A n c bs err) :
    Calls Tryd.prog 69 #[.pointer (some ⟨b, 0, none⟩)] w (fun e w' => e = .returned (.int .i64 (n : Nat)) ∧ w = w') := by
  have k0 := h.c0
  go_enter Tryd.func69, Tryd.ntmps69
  go_wp2
  go_ret
  exact ⟨rfl, rfl⟩
theorem err_r (w : World) (b : Nat) (A : Option Addr) (n c : Nat) (bs : List UInt8) (err : Int) (h : Rdr w b A n c bs err) :
    Calls Tryd.prog 68 #[.pointer (some ⟨b, 0, none⟩)] w (fun e w' => e = .returned (.int .i64 err) ∧ w = w') := by
  have k1 := h.c1
  go_enter Tryd.func68, Tryd.ntmps68
  go_wp2
  go_ret
  exact ⟨rfl, rfl⟩
/-- what End answers -/
def rend (n : Nat) (err : Int) : Int := if err ≠ 0 then err else if 0 < n then 5 else 0
theorem end_r (w : World) (b : Nat) (A : Option Addr) (n c : Nat) (bs : List UInt8) (err : Int) (h : Rdr w b A n c bs err) :
    Calls Tryd.prog 47 #[.pointer (some ⟨b, 0, none⟩)] w (fun e w' => e = .returned (.int .i64 (rend n err)) ∧ w = w') := by
  have k0 := h.c0
  have k1 := h.c1
  by_cases he : err = 0
  · subst he
    by_cases hn : 0 < n
    · have R : rend n 0 = 5 := by unfold rend; rw [if_neg (by simp), if_pos hn]
      rw [R]
      clear R
      go_enter Tryd.func47, Tryd.ntmps47
      go_wp2_with go_in
      go_ret
      exact ⟨rfl, rfl⟩
    · have R : rend n 0 = 0 := by unfold rend; rw [if_neg (by simp), if_neg hn]
      rw [R]
      clear R
      go_enter Tryd.func47, Tryd.ntmps47
      go_wp2_with go_in
      go_ret
      exact ⟨rfl, rfl⟩
  · have R : rend n err = err := by unfold rend; rw [if_pos he]
    rw [R]
    clear R
    have b3 : (err != 0) = true := by simpa using he
    clear he
    go_enter Tryd.func47, Tryd.ntmps47
    go_wp2_with go_in
    go_ret
    exact ⟨rfl, rfl⟩

/-- a new reader's block -/
def News (w : World) (bs : List UInt8) (e : Ending) (w' : World) : Prop :=
  ∃ b A n c, e = .returned (.pointer (some ⟨b, 0, none⟩)) ∧ Rdr w' b A n c bs 0 ∧ w.heap.size ≤ b ∧ Below w.heap.size w w'
set_option maxRecDepth 100000 in
set_option maxHeartbeats 400000 in
theorem newReader_c (w : World) (A : Option Addr) (n c : Nat) (bs : List UInt8) (h : Rd w A n c bs) (hn : n ≤ 100000000000000) :
    Calls Tryd.prog 44 #[.slice A n c] w (News w bs) := by
  go_enter Tryd.func44, Tryd.ntmps44
  go_wp2_with (go_at_call 62; refine (clone_c _ _ _ _ _ h hn).mono ?_; rintro e w1 ⟨A1, n1, c1, rfl, ho1, hb1⟩)
  go_ret
  refine ⟨w1.heap.size, A1, n1, c1, rfl, ⟨Go.heap_alloc_new w1 _, ho1.rd.ext (ext_alloc _ _)⟩, hb1.size, ext_trans hb1 (ext_alloc _ _)⟩
end Go.Proofs.YtibmkihehaedjaaDoor
