/-
  What octet's Reader does with bytes and texts.
-/
import Derived.Test.YtgplamfjemmfnaaReader2
namespace Go.Proofs.Ytgplamfjemmfnaa
open Go.RowKit

/-- Bytes: the bytes, what is left, the error -/
def rbytes (bs : List UInt8) (err : Int) (most : Int) : List UInt8 × List UInt8 × Int :=
  if err ≠ 0 then ([], bs, err) else if (dec bs).2.2 ≠ 0 then ([], bs, (dec bs).2.2) else if (max most 0).toNat < (dec bs).1 then ([], bs, 2)
  else if bs.length - (dec bs).2.1 < (dec bs).1 then ([], bs, 4) else ((bs.drop (dec bs).2.1).take (dec bs).1, bs.drop ((dec bs).2.1 + (dec bs).1), 0)

def ReadsB (w : World) (b : Nat) (v : List UInt8) (bs : List UInt8) (err : Int) (e : Ending) (w' : World) : Prop :=
  (∃ A n c, e = .returned (.slice A n c) ∧ Rd w' A n c v) ∧ ∃ A n c, Rdr w' b A n c bs err ∧ w.grownBy w' (some b)

theorem rd_end {w : World} {A : Option Addr} {n c k : Nat} {bs : List UInt8} (h : Rd w A n c bs) (hc : c = k) (hk : k ≤ n) : Rd w A (n - k) 0 (bs.drop k) := by
  subst hc
  exact h.cutEnd hk
theorem u64_small {k : Int} (h : 0 ≤ k) (h2 : k < 9223372036854775808) : IntKind.u64.wrap k = k := by rw [IntKind.wrap_u64]; omega

set_option maxRecDepth 100000 in
set_option maxHeartbeats 2000000 in
theorem bytes_r (w : World) (b : Nat) (A : Option Addr) (n c : Nat) (bs : List UInt8) (err : Int) (h : Rdr w b A n c bs err) (hn : n ≤ 1000000000000) (most : Int) (m0 : -9223372036854775808 ≤ most) (m1 : most < 9223372036854775808) :
    Calls Try.prog 27 #[.pointer (some ⟨b, 0, none⟩), .int .i64 most] w (ReadsB w b (rbytes bs err most).1 (rbytes bs err most).2.1 (rbytes bs err most).2.2) := by
  have H := Lib.hid h
  have k0 := h.c0
  have k1 := h.c1
  have f0 := h.free 0
  have f1 := h.free 1
  have hlt := h.lt
  have hle := h.rd.le
  have hmx := h.rd.max
  have hk : (dec bs).2.1 ≤ n := by have := dec_le bs; have := h.rd.len; omega
  have HL := Lib.hid h.rd.len
  clear h
  by_cases he : err = 0
  · subst he
    by_cases h2 : (dec bs).2.2 = 0
    · have b2 : ((dec bs).2.2 == 0) = true := by simpa using h2
      have b3 : ((dec bs).2.2 != 0) = false := by simpa using h2
      have H2 := Lib.hid h2
      clear h2
      by_cases hmo : (max most 0).toNat < (dec bs).1
      · have R : Hid (rbytes bs 0 most = ([], bs, 2)) := by show _ = _; unfold rbytes; rw [if_neg (by simp), if_neg (by simpa using H2.out), if_pos hmo]
        have hmi : max most 0 < ((dec bs).1 : Int) := by omega
        go_enter Try.func27, Try.ntmps27
        go_wp2_with (first | (go_at_call 38; refine (number_c _ _ _ _ _ (H.out.rd.ext (ext_alloc _ _))).mono ?_; rintro e w' ⟨rfl, rfl⟩) | go_in)
        all_goals go_ret
        all_goals refine ⟨⟨none, 0, 0, rfl, by rw [R.out]; exact Rd.nil _⟩, A, n, c, ?_, grownBy_more (grownBy_set _) (ext_alloc _ _)⟩
        all_goals rw [R.out]
        all_goals exact (H.out.set1 _).ext (ext_alloc _ _)
      · by_cases hsh : bs.length - (dec bs).2.1 < (dec bs).1
        · have R : Hid (rbytes bs 0 most = ([], bs, 4)) := by show _ = _; unfold rbytes; rw [if_neg (by simp), if_neg (by simpa using H2.out), if_neg hmo, if_pos hsh]
          have hsi : (n : Int) - ((dec bs).2.1 : Int) < ((dec bs).1 : Int) := by have := HL.out; omega
          have hmi : ((dec bs).1 : Int) ≤ max most 0 := by omega
          go_enter Try.func27, Try.ntmps27
          go_wp2_with (first | (go_at_call 38; refine (number_c _ _ _ _ _ (H.out.rd.ext (ext_alloc _ _))).mono ?_; rintro e w' ⟨rfl, rfl⟩) | go_in)
          all_goals go_ret
          all_goals refine ⟨⟨none, 0, 0, rfl, by rw [R.out]; exact Rd.nil _⟩, A, n, c, ?_, grownBy_more (grownBy_set _) (ext_alloc _ _)⟩
          all_goals rw [R.out]
          all_goals exact (H.out.set1 _).ext (ext_alloc _ _)
        · have R : Hid (rbytes bs 0 most = ((bs.drop (dec bs).2.1).take (dec bs).1, bs.drop ((dec bs).2.1 + (dec bs).1), 0)) := by show _ = _; unfold rbytes; rw [if_neg (by simp), if_neg (by simpa using H2.out), if_neg hmo, if_neg hsh]
          have hsi : (dec bs).1 ≤ n - (dec bs).2.1 := by have := HL.out; omega
          have hmi : ((dec bs).1 : Int) ≤ max most 0 := by omega
          clear hsh hmo
          have RI := Lib.hid (((H.out.rd.cut hk).front hsi).ext (ext_alloc w (.cells #[.int .i64 most] 3)))
          have RE : Hid (c = (dec bs).2.1 → Rd (w.alloc (.cells #[.int .i64 most] 3)) A (dec bs).1 0 ((bs.drop (dec bs).2.1).take (dec bs).1)) := fun hc => by
            have r0 := H.out.rd
            rw [hc] at r0
            exact ((r0.cutEnd hk).front hsi).ext (ext_alloc _ _)
          have hk2 : (dec bs).2.1 + (dec bs).1 ≤ n := by omega
          go_enter Try.func27, Try.ntmps27
          go_wp2_with (first | (go_at_call 38; refine (number_c _ _ _ _ _ (H.out.rd.ext (ext_alloc _ _))).mono ?_; rintro e w' ⟨rfl, rfl⟩) | (go_at_call 33; (with_reducible refine (clone_c _ _ _ _ _ RI.out (by omega)).mono ?_); rintro e w2 ⟨A2, n2, c2, rfl, ho2, hb2⟩; have Q2 : Below w.heap.size w w2 := ext_trans (ext_alloc _ _) hb2; have E2 := Lib.hid (H.out.ext Q2); have k0' := E2.out.c0; have f0' := E2.out.free 0; have hlt' := E2.out.lt; have HO := Lib.hid ho2; clear ho2 hb2) | (go_at_call 33; (with_reducible refine (clone_c _ _ _ _ _ (RE.out (by assumption)) (by omega)).mono ?_); rintro e w2 ⟨A2, n2, c2, rfl, ho2, hb2⟩; have Q2 : Below w.heap.size w w2 := ext_trans (ext_alloc _ _) hb2; have E2 := Lib.hid (H.out.ext Q2); have k0' := E2.out.c0; have f0' := E2.out.free 0; have hlt' := E2.out.lt; have HO := Lib.hid ho2; clear ho2 hb2) | (go_at_call 29; go_in) | (go_at_call 39; go_in) | (go_at_call 40; go_in))
          all_goals go_ret
          all_goals refine ⟨⟨A2, n2, c2, rfl, by rw [R.out]; exact Rd.setCell E2.out HO.out.rd _⟩, ?_⟩
          all_goals rw [R.out]
          all_goals first
            | exact ⟨A, n - ((dec bs).2.1 + (dec bs).1), 0, E2.out.set0 (rd_end E2.out.rd (by omega) hk2), grownBy_ext Q2 (grownBy_set _)⟩
            | exact ⟨_, _, _, E2.out.set0 (E2.out.rd.cut hk2), grownBy_ext Q2 (grownBy_set _)⟩
    · have R : Hid (rbytes bs 0 most = ([], bs, (dec bs).2.2)) := by show _ = _; unfold rbytes; rw [if_neg (by simp), if_pos (by simpa using h2)]
      have b2 : ((dec bs).2.2 == 0) = false := by simpa using h2
      have b3 : ((dec bs).2.2 != 0) = true := by simpa using h2
      clear h2
      go_enter Try.func27, Try.ntmps27
      go_wp2_with (first | (go_at_call 38; refine (number_c _ _ _ _ _ (H.out.rd.ext (ext_alloc _ _))).mono ?_; rintro e w' ⟨rfl, rfl⟩) | go_in)
      go_ret
      refine ⟨⟨none, 0, 0, rfl, by rw [R.out]; exact Rd.nil _⟩, A, n, c, ?_, grownBy_more (grownBy_set _) (ext_alloc _ _)⟩
      rw [R.out]
      exact (H.out.set1 _).ext (ext_alloc _ _)
  · have R : Hid (rbytes bs err most = ([], bs, err)) := by show _ = _; unfold rbytes; rw [if_pos he]
    have b3 : (err != 0) = true := by simpa using he
    have b2 : (err == 0) = false := by simpa using he
    clear he
    go_enter Try.func27, Try.ntmps27
    go_wp2_with go_in
    go_ret
    refine ⟨⟨none, 0, 0, rfl, by rw [R.out]; exact Rd.nil _⟩, A, n, c, ?_, grownBy_more (World.grownBy.refl _ _) (ext_alloc _ _)⟩
    rw [R.out]
    exact H.out.ext (ext_alloc _ _)
#print axioms bytes_r
end Go.Proofs.Ytgplamfjemmfnaa
