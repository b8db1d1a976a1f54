/-
  octet: Num and Int of a reader once more: what is left lies in the block in which it lay.
-/
import Derived.Test.YtibmkihehaedjaaDoorGRdI
namespace Go.Proofs.YtibmkihehaedjaaDoor
open Go.RowKit

/-- no longer, and in the same block -/
def SameBlk (A : Option Addr) (n : Nat) (A' : Option Addr) (n' : Nat) : Prop := n' ≤ n ∧ ∀ x, A' = some x → ∃ y, A = some y ∧ x.block = y.block
theorem SameBlk.refl (A : Option Addr) (n : Nat) : SameBlk A n A n := ⟨Nat.le_refl _, fun x hx => ⟨x, hx, rfl⟩⟩
theorem SameBlk.trans {A B C : Option Addr} {n m k : Nat} (h : SameBlk A n B m) (g : SameBlk B m C k) : SameBlk A n C k := ⟨Nat.le_trans g.1 h.1, fun x hx => by
  obtain ⟨y, hy, e⟩ := g.2 x hx
  obtain ⟨z, hz, e2⟩ := h.2 y hy
  exact ⟨z, hz, e.trans e2⟩⟩
theorem same_map {A : Option Addr} {k n : Nat} : SameBlk A n (A.map (fun x => x.add k)) (n - k) := ⟨Nat.sub_le _ _, fun x hx => by
  cases A with
  | none => cases hx
  | some y => injection hx with hx; subst hx; exact ⟨y, rfl, (by obtain ⟨b, o, s⟩ := y; simp only [Addr.add]; split <;> rfl)⟩⟩
def Reads2 (w : World) (b : Nat) (A : Option Addr) (n : Nat) (v : Value) (bs : List UInt8) (err : Int) (e : Ending) (w' : World) : Prop :=
  e = .returned v ∧ ∃ A' n' c, Rdr w' b A' n' c bs err ∧ w.grownBy w' (some b) ∧ SameBlk A n A' n'

set_option maxRecDepth 100000 in
set_option maxHeartbeats 1000000 in
theorem num_r2 (w : World) (b : Nat) (A : Option Addr) (n c : Nat) (bs : List UInt8) (err : Int) (h : Rdr w b A n c bs err) (most : Nat) :
    Calls Tryd.prog 45 #[.pointer (some ⟨b, 0, none⟩), .int .u64 most] w (Reads2 w b A n (.int .u64 (rnum bs err most).1) (rnum bs err most).2.1 (rnum bs err most).2.2) := by
  have H := Lib.hid h
  have k0 := h.c0
  have k1 := h.c1
  have f0 := h.free 0
  have f1 := h.free 1
  have hlt := h.lt
  clear h
  have hk : (dec bs).2.1 ≤ n := by have := dec_le bs; have := H.out.rd.len; omega
  by_cases he : err = 0
  · subst he
    by_cases h2 : (dec bs).2.2 = 0
    · have b2 : ((dec bs).2.2 == 0) = true := by simpa using h2
      have b3 : ((dec bs).2.2 != 0) = false := by simpa using h2
      by_cases hmo : most < (dec bs).1
      · have R : Hid (rnum bs 0 most = (0, bs, 2)) := by show _ = _; unfold rnum; rw [if_neg (by simp), if_neg (by simpa using h2), if_pos hmo]
        have hmi : (most : Int) < ((dec bs).1 : Int) := by omega
        clear h2
        go_enter Tryd.func45, Tryd.ntmps45
        go_wp2_with (first | (go_at_call 65; refine (number_c _ _ _ _ _ (H.out.rd.ext (ext_alloc _ _))).mono ?_; rintro e w' ⟨rfl, rfl⟩) | go_in)
        go_ret
        refine ⟨by rw [R.out]; rfl, A, n, c, ?_, grownBy_more (grownBy_set _) (ext_alloc _ _), Nat.le_refl _, fun x hx => ⟨x, hx, rfl⟩⟩
        rw [R.out]
        exact (H.out.set1 2).ext (ext_alloc _ _)
      · have R : Hid (rnum bs 0 most = ((dec bs).1, bs.drop (dec bs).2.1, 0)) := by show _ = _; unfold rnum; rw [if_neg (by simp), if_neg (by simpa using h2), if_neg hmo]
        have hmi : ((dec bs).1 : Int) ≤ (most : Int) := by omega
        clear h2
        go_enter Tryd.func45, Tryd.ntmps45
        go_wp2_with (first | (go_at_call 65; refine (number_c _ _ _ _ _ (H.out.rd.ext (ext_alloc _ _))).mono ?_; rintro e w' ⟨rfl, rfl⟩) | go_in)
        · have hc : c = (dec bs).2.1 := by assumption
          go_ret
          refine ⟨by rw [R.out]; rfl, A, n - (dec bs).2.1, 0, ?_, grownBy_more (grownBy_set _) (ext_alloc _ _), Nat.sub_le _ _, fun x hx => ⟨x, hx, rfl⟩⟩
          rw [R.out]
          have r0 := H.out.rd
          rw [hc] at r0
          exact (H.out.set0 (r0.cutEnd hk)).ext (ext_alloc _ _)
        · go_ret
          refine ⟨by rw [R.out]; rfl, A.map (fun x => x.add (dec bs).2.1), n - (dec bs).2.1, c - (dec bs).2.1, ?_, grownBy_more (grownBy_set _) (ext_alloc _ _), same_map⟩
          rw [R.out]
          exact (H.out.set0 (H.out.rd.cut hk)).ext (ext_alloc _ _)
    · have R : Hid (rnum bs 0 most = (0, bs, (dec bs).2.2)) := by show _ = _; unfold rnum; rw [if_neg (by simp), if_pos (by simpa using h2)]
      have b2 : ((dec bs).2.2 == 0) = false := by simpa using h2
      have b3 : ((dec bs).2.2 != 0) = true := by simpa using h2
      clear h2
      go_enter Tryd.func45, Tryd.ntmps45
      go_wp2_with (first | (go_at_call 65; refine (number_c _ _ _ _ _ (H.out.rd.ext (ext_alloc _ _))).mono ?_; rintro e w' ⟨rfl, rfl⟩) | go_in)
      go_ret
      refine ⟨by rw [R.out]; rfl, A, n, c, ?_, grownBy_more (grownBy_set _) (ext_alloc _ _), Nat.le_refl _, fun x hx => ⟨x, hx, rfl⟩⟩
      rw [R.out]
      exact (H.out.set1 _).ext (ext_alloc _ _)
  · have R : Hid (rnum bs err most = (0, bs, err)) := by show _ = _; unfold rnum; rw [if_pos he]
    have b3 : (err != 0) = true := by simpa using he
    have b2 : (err == 0) = false := by simpa using he
    clear he
    go_enter Tryd.func45, Tryd.ntmps45
    go_wp2_with go_in
    go_ret
    refine ⟨by rw [R.out]; rfl, A, n, c, ?_, grownBy_more (World.grownBy.refl _ _) (ext_alloc _ _), Nat.le_refl _, fun x hx => ⟨x, hx, rfl⟩⟩
    rw [R.out]
    exact H.out.ext (ext_alloc _ _)

set_option maxRecDepth 100000 in
set_option maxHeartbeats 1000000 in
theorem int_r2 (w : World) (b : Nat) (A : Option Addr) (n c : Nat) (bs : List UInt8) (err : Int) (h : Rdr w b A n c bs err) :
    Calls Tryd.prog 66 #[.pointer (some ⟨b, 0, none⟩)] w (Reads2 w b A n (.int .i64 (unfold_ (rnum bs err 18446744073709551615).1)) (rnum bs err 18446744073709551615).2.1 (rnum bs err 18446744073709551615).2.2) := by
  obtain ⟨R, hR⟩ : ∃ R, R = rnum bs err 18446744073709551615 := ⟨_, rfl⟩
  have HR := Lib.hid hR
  have P : Hid (Calls Tryd.prog 45 #[.pointer (some ⟨b, 0, none⟩), .int .u64 18446744073709551615] w (Reads2 w b A n (.int .u64 R.1) R.2.1 R.2.2)) := by
    have := num_r2 w b A n c bs err h 18446744073709551615
    rw [hR]
    exact Lib.hid this
  rw [← hR]
  clear hR
  go_enter Tryd.func66, Tryd.ntmps66
  go_wp2_with fail
  refine (unhide P).mono ?_
  rintro e w1 ⟨rfl, A1, n1, c1, h1, hg⟩
  go_wp2_with fail
  go_ret
  exact ⟨congrArg (fun k => Ending.returned (.int .i64 k)) (unfold_bits (N := R.1) (by rw [HR.out]; exact rnum_lt _ _ _)), A1, n1, c1, h1, hg⟩

#print axioms int_r2
end Go.Proofs.YtibmkihehaedjaaDoor
