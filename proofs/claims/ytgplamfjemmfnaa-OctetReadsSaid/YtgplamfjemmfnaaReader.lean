/-
  What octet's Reader does: its reads, as functions of the bytes that are left and its error.
-/
import Derived.Test.YtgplamfjemmfnaaNumber
import Derived.Handy
import Derived.OneCell
namespace Go.Proofs.Ytgplamfjemmfnaa
open Go.RowKit

/-- a reader in block b: the bytes that are left, its error -/
structure Rdr (w : World) (b : Nat) (A : Option Addr) (n c : Nat) (bs : List UInt8) (err : Int) : Prop where
  blk : w.heap[b]? = some (.cells #[.slice A n c, .int .i64 err] 67 (0, 0))
  rd : Rd w A n c bs

theorem Rdr.c0 {w : World} {b : Nat} {A : Option Addr} {n c : Nat} {bs : List UInt8} {err : Int} (h : Rdr w b A n c bs err) : w.cell? ⟨b, 0, none⟩ = some (.slice A n c) := by
  rw [cell_of_row w b 0 _ _ _ h.blk]; rfl
theorem Rdr.c1 {w : World} {b : Nat} {A : Option Addr} {n c : Nat} {bs : List UInt8} {err : Int} (h : Rdr w b A n c bs err) : w.cell? ⟨b, 1, none⟩ = some (.int .i64 err) := by
  rw [cell_of_row w b 1 _ _ _ h.blk]; rfl
theorem Rdr.lt {w : World} {b : Nat} {A : Option Addr} {n c : Nat} {bs : List UInt8} {err : Int} (h : Rdr w b A n c bs err) : b < w.heap.size := (Array.getElem?_eq_some_iff.1 h.blk).1
theorem Rdr.free {w : World} {b : Nat} {A : Option Addr} {n c : Nat} {bs : List UInt8} {err : Int} (h : Rdr w b A n c bs err) (j : Nat) : w.frozen? ⟨b, j, none⟩ = false := by
  simp [World.frozen?, h.blk]


theorem Rd.apart {w : World} {b : Nat} {A : Option Addr} {n c : Nat} {bs : List UInt8} {err : Int} (h : Rdr w b A n c bs err) {A' : Option Addr} {n' c' : Nat} {bs' : List UInt8} (r : Rd w A' n' c' bs') (b' o' : Nat) (hA : A' = some ⟨b', o', none⟩) (hn : 0 < n') : b' ≠ b := by
  intro e
  subst e
  obtain ⟨b2, o2, hA2, _, hc⟩ := r.cells hn
  rw [hA] at hA2
  injection hA2 with hA2
  injection hA2 with e1 e2
  subst e1 e2
  have h0 := hc 0 hn
  rw [cell_of_row w b' _ _ _ _ h.blk] at h0
  match o', h0 with
  | 0, h0 => simp at h0
  | 1, h0 => simp at h0
  | o + 2, h0 => simp at h0

theorem Rd.setCell {w : World} {b j : Nat} {A : Option Addr} {n c : Nat} {bs : List UInt8} {err : Int} (h : Rdr w b A n c bs err) {A' : Option Addr} {n' c' : Nat} {bs' : List UInt8} (r : Rd w A' n' c' bs') (u : Value) : Rd (w.setCell ⟨b, j, none⟩ u) A' n' c' bs' :=
  ⟨r.len, r.le, r.max, fun hn => by
    obtain ⟨b2, o2, hA, hb, hc⟩ := r.cells hn
    have hne := Rd.apart h r b2 o2 hA hn
    refine ⟨b2, o2, hA, by simpa [World.setCell] using hb, fun k hk => ?_⟩
    rw [World.cell?_setCell_other w _ _ u (by intro e; have := congrArg Addr.block e; simp at this; omega)]
    exact hc k hk, r.none_⟩

theorem Rdr.set0 {w : World} {b : Nat} {A : Option Addr} {n c : Nat} {bs : List UInt8} {err : Int} (h : Rdr w b A n c bs err) {A' : Option Addr} {n' c' : Nat} {bs' : List UInt8} (r : Rd w A' n' c' bs') :
    Rdr (w.setCell ⟨b, 0, none⟩ (.slice A' n' c')) b A' n' c' bs' err :=
  ⟨by rw [heap_setCell_same w b 0 _ _ _ h.blk]; rfl, Rd.setCell h r _⟩
theorem Rdr.set1 {w : World} {b : Nat} {A : Option Addr} {n c : Nat} {bs : List UInt8} {err : Int} (h : Rdr w b A n c bs err) (e : Int) : Rdr (w.setCell ⟨b, 1, none⟩ (.int .i64 e)) b A n c bs e :=
  ⟨by rw [heap_setCell_same w b 1 _ _ _ h.blk]; rfl, Rd.setCell h h.rd _⟩
theorem Rdr.ext {w w' : World} {b : Nat} {A : Option Addr} {n c : Nat} {bs : List UInt8} {err : Int} (h : Rdr w b A n c bs err) (k : Below w.heap.size w w') : Rdr w' b A n c bs err :=
  ⟨(k.block b h.lt).trans h.blk, h.rd.ext k⟩
/-- another reader's reads leave this one alone -/
theorem Rdr.other {w w' : World} {b b2 : Nat} {A : Option Addr} {n c : Nat} {bs : List UInt8} {err : Int} (h : Rdr w b A n c bs err) {A2 : Option Addr} {n2 c2 : Nat} {bs2 : List UInt8} {err2 : Int} (h2 : Rdr w b2 A2 n2 c2 bs2 err2) (hne : b ≠ b2) (k : w.grownBy w' (some b2)) : Rdr w' b A n c bs err :=
  ⟨(k.block b h.lt (fun e => hne (by injection e))).trans h.blk, ⟨h.rd.len, h.rd.le, h.rd.max, fun hn => by
    obtain ⟨b3, o3, hA, hb, hc⟩ := h.rd.cells hn
    have hne3 := Rd.apart h2 h.rd b3 o3 hA hn
    refine ⟨b3, o3, hA, Nat.lt_of_lt_of_le hb k.size, fun j hj => ?_⟩
    rw [World.cell?_of_block (a := ⟨b3, o3 + j, none⟩) (k.block b3 hb (fun e => hne3 (by injection e)))]
    exact hc j hj, h.rd.none_⟩⟩

theorem grownBy_set {w : World} {b j : Nat} (u : Value) : w.grownBy (w.setCell ⟨b, j, none⟩ u) (some b) :=
  ⟨rfl, rfl, rfl, by simp [World.setCell], fun k _ hk => Below.heap_setCell _ _ _ _ (fun e => hk (by rw [e]))⟩
theorem grownBy_more {w a c : World} {row : Option Nat} (h : w.grownBy a row) (k : Below a.heap.size a c) : w.grownBy c row :=
  ⟨k.os.trans h.os, k.tape.trans h.tape, k.output.trans h.output, Nat.le_trans h.size k.size, fun i hi hk => (k.block i (Nat.lt_of_lt_of_le hi h.size)).trans (h.block i hi hk)⟩
theorem grownBy_ext {w a c : World} {row : Option Nat} (h : Below w.heap.size w a) (k : a.grownBy c row) : w.grownBy c row :=
  ⟨k.os.trans h.os, k.tape.trans h.tape, k.output.trans h.output, Nat.le_trans h.size k.size, fun i hi hk => (k.block i (Nat.lt_of_lt_of_le hi h.size) hk).trans (h.block i hi)⟩
theorem grownBy_trans {w a c : World} {row : Option Nat} (h : w.grownBy a row) (k : a.grownBy c row) : w.grownBy c row :=
  ⟨k.os.trans h.os, k.tape.trans h.tape, k.output.trans h.output, Nat.le_trans h.size k.size, fun i hi hk => (k.block i (Nat.lt_of_lt_of_le hi h.size) hk).trans (h.block i hi hk)⟩

/-- a slice cut from k on -/
theorem Rd.cutEnd {w : World} {A : Option Addr} {n k : Nat} {bs : List UInt8} (h : Rd w A n k bs) (hk : k ≤ n) : Rd w A (n - k) 0 (bs.drop k) :=
  ⟨by rw [List.length_drop, h.len], by have := h.le; omega, by omega, fun h0 => by have := h.le; omega, fun _ => rfl⟩
theorem Rd.cut {w : World} {A : Option Addr} {n c : Nat} {bs : List UInt8} (h : Rd w A n c bs) {k : Nat} (hk : k ≤ n) : Rd w (A.map (fun x => x.add k)) (n - k) (c - k) (bs.drop k) :=
  ⟨by rw [List.length_drop, h.len], by have := h.le; omega, by have := h.max; omega, fun h0 => by
    obtain ⟨b, o, rfl, hb, hc⟩ := h.cells (by omega)
    refine ⟨b, o + k, by simp [Addr.add_lit], hb, fun j hj => ?_⟩
    rw [Nat.add_assoc, hc (k + j) (by omega)]
    have e : (bs.drop k).getD j 0 = bs.getD (k + j) 0 := by simp [List.getD]
    rw [e], fun hn => by
    cases A with
    | none => have := h.none_ rfl; omega
    | some a => simp at hn⟩

/-- Num: the number, what is left, the error -/
def rnum (bs : List UInt8) (err : Int) (most : Nat) : Nat × List UInt8 × Int :=
  if err ≠ 0 then (0, bs, err) else if (dec bs).2.2 ≠ 0 then (0, bs, (dec bs).2.2) else if most < (dec bs).1 then (0, bs, 2) else ((dec bs).1, bs.drop (dec bs).2.1, 0)

theorem rnum_lt (bs : List UInt8) (err : Int) (most : Nat) : (rnum bs err most).1 < 18446744073709551616 := by
  unfold rnum
  split
  · simp
  · split
    · simp
    · split
      · simp
      · exact dec_lt bs
/-- a read's end: its value; the reader's new state; but for its block there are at most new blocks -/
def Reads1 (w : World) (b : Nat) (v : Value) (bs : List UInt8) (err : Int) (e : Ending) (w' : World) : Prop :=
  e = .returned v ∧ ∃ A n c, Rdr w' b A n c bs err ∧ w.grownBy w' (some b)

set_option maxRecDepth 100000 in
set_option maxHeartbeats 1000000 in
theorem num_r (w : World) (b : Nat) (A : Option Addr) (n c : Nat) (bs : List UInt8) (err : Int) (h : Rdr w b A n c bs err) (most : Nat) :
    Calls Try.prog 23 #[.pointer (some ⟨b, 0, none⟩), .int .u64 most] w (Reads1 w b (.int .u64 (rnum bs err most).1) (rnum bs err most).2.1 (rnum bs err most).2.2) := by
  have H := Lib.hid h
  have k0 := h.c0
  have k1 := h.c1
  have f0 := h.free 0
  have f1 := h.free 1
  have hlt := h.lt
  clear h
  have hk : (dec bs).2.1 ≤ n := by have := dec_le bs; have := H.out.rd.len; omega
  by_cases he : err = 0
  · subst he
    by_cases h2 : (dec bs).2.2 = 0
    · have b2 : ((dec bs).2.2 == 0) = true := by simpa using h2
      have b3 : ((dec bs).2.2 != 0) = false := by simpa using h2
      by_cases hmo : most < (dec bs).1
      · have R : Hid (rnum bs 0 most = (0, bs, 2)) := by show _ = _; unfold rnum; rw [if_neg (by simp), if_neg (by simpa using h2), if_pos hmo]
        have hmi : (most : Int) < ((dec bs).1 : Int) := by omega
        clear h2
        go_enter Try.func23, Try.ntmps23
        go_wp2_with (first | (go_at_call 38; refine (number_c _ _ _ _ _ (H.out.rd.ext (ext_alloc _ _))).mono ?_; rintro e w' ⟨rfl, rfl⟩) | go_in)
        go_ret
        refine ⟨by rw [R.out]; rfl, A, n, c, ?_, grownBy_more (grownBy_set _) (ext_alloc _ _)⟩
        rw [R.out]
        exact (H.out.set1 2).ext (ext_alloc _ _)
      · have R : Hid (rnum bs 0 most = ((dec bs).1, bs.drop (dec bs).2.1, 0)) := by show _ = _; unfold rnum; rw [if_neg (by simp), if_neg (by simpa using h2), if_neg hmo]
        have hmi : ((dec bs).1 : Int) ≤ (most : Int) := by omega
        clear h2
        go_enter Try.func23, Try.ntmps23
        go_wp2_with (first | (go_at_call 38; refine (number_c _ _ _ _ _ (H.out.rd.ext (ext_alloc _ _))).mono ?_; rintro e w' ⟨rfl, rfl⟩) | go_in)
        · have hc : c = (dec bs).2.1 := by assumption
          go_ret
          refine ⟨by rw [R.out]; rfl, A, n - (dec bs).2.1, 0, ?_, grownBy_more (grownBy_set _) (ext_alloc _ _)⟩
          rw [R.out]
          have r0 := H.out.rd
          rw [hc] at r0
          exact (H.out.set0 (r0.cutEnd hk)).ext (ext_alloc _ _)
        · go_ret
          refine ⟨by rw [R.out]; rfl, A.map (fun x => x.add (dec bs).2.1), n - (dec bs).2.1, c - (dec bs).2.1, ?_, grownBy_more (grownBy_set _) (ext_alloc _ _)⟩
          rw [R.out]
          exact (H.out.set0 (H.out.rd.cut hk)).ext (ext_alloc _ _)
    · have R : Hid (rnum bs 0 most = (0, bs, (dec bs).2.2)) := by show _ = _; unfold rnum; rw [if_neg (by simp), if_pos (by simpa using h2)]
      have b2 : ((dec bs).2.2 == 0) = false := by simpa using h2
      have b3 : ((dec bs).2.2 != 0) = true := by simpa using h2
      clear h2
      go_enter Try.func23, Try.ntmps23
      go_wp2_with (first | (go_at_call 38; refine (number_c _ _ _ _ _ (H.out.rd.ext (ext_alloc _ _))).mono ?_; rintro e w' ⟨rfl, rfl⟩) | go_in)
      go_ret
      refine ⟨by rw [R.out]; rfl, A, n, c, ?_, grownBy_more (grownBy_set _) (ext_alloc _ _)⟩
      rw [R.out]
      exact (H.out.set1 _).ext (ext_alloc _ _)
  · have R : Hid (rnum bs err most = (0, bs, err)) := by show _ = _; unfold rnum; rw [if_pos he]
    have b3 : (err != 0) = true := by simpa using he
    have b2 : (err == 0) = false := by simpa using he
    clear he
    go_enter Try.func23, Try.ntmps23
    go_wp2_with go_in
    go_ret
    refine ⟨by rw [R.out]; rfl, A, n, c, ?_, grownBy_more (World.grownBy.refl _ _) (ext_alloc _ _)⟩
    rw [R.out]
    exact H.out.ext (ext_alloc _ _)
#print axioms num_r
end Go.Proofs.Ytgplamfjemmfnaa
