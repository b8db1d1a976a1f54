/-
  hash: slices of digests; Many: the contract.
-/
import Derived.Test.YtbhibfdlkahagaaHStrm
namespace Go.Proofs.Ytbhibfdlkahagaa
open Go.RowKit

/-- a slice that reads as the digests of these numbers; it may be nil -/
structure RdD (w : World) (A : Option Addr) (n c : Nat) (xs : List Nat) : Prop where
  len : xs.length = n
  le : n ≤ c
  max : c ≤ 9223372036854775807
  cells : 0 < n → ∃ b o, A = some ⟨b, o, none⟩ ∧ b < w.heap.size ∧ ∀ j, j < n → ∀ i, i < 8 → w.cell? ⟨b, o + (j * 8 + i), none⟩ = some (.int .u8 (byt (xs.getD j 0) i))
  none_ : A = none → c = 0
  small : ∀ x ∈ xs, x < 18446744073709551616
theorem RdD.ext {w w' : World} {A : Option Addr} {n c : Nat} {xs : List Nat} (h : RdD w A n c xs) (k : Below w.heap.size w w') : RdD w' A n c xs :=
  ⟨h.len, h.le, h.max, fun hn => by
    obtain ⟨b, o, hA, hb, hc⟩ := h.cells hn
    exact ⟨b, o, hA, Nat.lt_of_lt_of_le hb k.size, fun j hj i hi => (k.cell (p := ⟨b, o + (j * 8 + i), none⟩) hb).trans (hc j hj i hi)⟩, h.none_, h.small⟩

/-- the cells of one of them, as a walk spells them -/
theorem RdD.at {w : World} {A : Option Addr} {n c : Nat} {xs : List Nat} (h : RdD w A n c xs) {k : Nat} (hk : k < n) : ∃ b o, A = some ⟨b, o, none⟩ ∧ b < w.heap.size ∧ w.cell? ⟨b, o + k * 8, none⟩ = some (.int .u8 (byt (xs.getD k 0) 0)) ∧ w.cell? ⟨b, o + k * 8 + 1, none⟩ = some (.int .u8 (byt (xs.getD k 0) 1)) ∧ w.cell? ⟨b, o + k * 8 + 2, none⟩ = some (.int .u8 (byt (xs.getD k 0) 2)) ∧ w.cell? ⟨b, o + k * 8 + 3, none⟩ = some (.int .u8 (byt (xs.getD k 0) 3)) ∧ w.cell? ⟨b, o + k * 8 + 4, none⟩ = some (.int .u8 (byt (xs.getD k 0) 4)) ∧ w.cell? ⟨b, o + k * 8 + 5, none⟩ = some (.int .u8 (byt (xs.getD k 0) 5)) ∧ w.cell? ⟨b, o + k * 8 + 6, none⟩ = some (.int .u8 (byt (xs.getD k 0) 6)) ∧ w.cell? ⟨b, o + k * 8 + 7, none⟩ = some (.int .u8 (byt (xs.getD k 0) 7)) := by
  obtain ⟨b, o, hA, hb, hc⟩ := h.cells (by omega)
  have q := hc k hk
  exact ⟨b, o, hA, hb, q 0 (by omega), q 1 (by omega), q 2 (by omega), q 3 (by omega), q 4 (by omega), q 5 (by omega), q 6 (by omega), q 7 (by omega)⟩

def manyS : St → List Nat → St
  | s, [] => s
  | s, x :: xs => manyS (takeN s x) xs
theorem manyS_on {s : St} {xs : List Nat} {k : Nat} {p : St} (h : manyS s (xs.drop k) = p) (hk : k < xs.length) : manyS (takeN s (xs.getD k 0)) (xs.drop (k + 1)) = p := by
  rw [List.drop_eq_getElem_cons hk, manyS] at h
  have e : xs[k] = xs.getD k 0 := by simp [hk]
  rw [e] at h
  exact h
theorem manyS_end {s : St} {xs : List Nat} {p : St} (h : manyS s (xs.drop xs.length) = p) : s = p := by
  rw [List.drop_length, manyS] at h
  exact h
theorem manyS_ok : ∀ (xs : List Nat) {s : St}, s.Ok → (∀ x ∈ xs, x < 18446744073709551616) → (manyS s xs).Ok
  | [], _, h, _ => h
  | x :: xs, _, h, hx => manyS_ok xs (takeN_ok h (hx x (List.mem_cons_self ..))) (fun y hy => hx y (List.mem_cons_of_mem _ hy))
def manyN (xs : List Nat) : Nat := outN (takeN (manyS (begin 5) xs) xs.length)
theorem manyN_lt {xs : List Nat} (h : ∀ x ∈ xs, x < 18446744073709551616) (hl : xs.length < 18446744073709551616) : manyN xs < 18446744073709551616 :=
  outN_lt (takeN_ok (manyS_ok xs (begin_ok (by omega)) h) hl)
theorem getD_lt {xs : List Nat} {k : Nat} (h : ∀ x ∈ xs, x < 18446744073709551616) (hk : k < xs.length) : xs.getD k 0 < 18446744073709551616 :=
  h _ (by rw [show xs.getD k 0 = xs[k] by simp [hk]]; exact List.getElem_mem _)

set_option maxRecDepth 100000 in
set_option maxHeartbeats 1000000 in
theorem many_c (w : World) (A : Option Addr) (n c : Nat) (xs : List Nat) (h : Hid (RdD w A n c xs)) : Calls Try.prog 60 #[.slice A n c] w (Hands (digV (manyN xs)) w) := by
  have hle := h.out.le
  have hmax := h.out.max
  have HL := Lib.hid h.out.len
  have HSm := Lib.hid h.out.small
  have OKB := Lib.hid (begin_ok (k := 5) (by omega))
  obtain ⟨x, hx⟩ : ∃ x, x = manyN xs := ⟨_, rfl⟩
  rw [← hx]
  have HX := Lib.hid hx
  clear hx
  go_enter Try.func60, Try.ntmps60
  go_wp2_with fail
  refine (start_c _ 5 5 rfl).mono ?_
  unfold stV
  rintro e w1 ⟨rfl, hb⟩
  have R := Lib.hid (keepB (b := w.heap.size) hb (heap_alloc_newest (w := w) rfl))
  have B := Lib.hid (ext_trans (ext_alloc _ _) hb)
  have z1 : w.heap.size < w1.heap.size := by have := hb.size; simp at this; omega
  clear hb
  go_wp2_with fail
  have S : Hid (StAt (w1.alloc (.cells #[.int .u64 (begin 5).a, .int .u64 (begin 5).b, .int .u64 (begin 5).c, .int .u64 (begin 5).d] 67)) 67 w1.heap.size (begin 5)) := StAt.made OKB.out
  replace R := Lib.hid (keepA (x := .cells #[.int .u64 (begin 5).a, .int .u64 (begin 5).b, .int .u64 (begin 5).c, .int .u64 (begin 5).d] 67) R.out)
  replace B := Lib.hid (ext_trans B.out (ext_alloc w1 (.cells #[.int .u64 (begin 5).a, .int .u64 (begin 5).b, .int .u64 (begin 5).c, .int .u64 (begin 5).d] 67)))
  go_loopw [9] (fun iv wr => ∃ (k : Nat) (z : St), k ≤ n ∧ iv = .int .i64 k ∧ Hid (manyS z (xs.drop k) = manyS (begin 5) xs) ∧ Hid (StAt wr 67 w1.heap.size z) ∧ Hid (wr.heap[w.heap.size]? = some (.cells #[.int .u8 0, .int .u8 0, .int .u8 0, .int .u8 0, .int .u8 0, .int .u8 0, .int .u8 0, .int .u8 0] 31 (0, 0))) ∧ Hid (Below w.heap.size w wr)) (fun iv _ => n - (intOf iv).toNat)
  case atStart => exact ⟨0, _, Nat.zero_le _, rfl, rfl, S.out, R.out, B.out⟩
  case round =>
    clear S R B
    obtain ⟨k, z, hk, rfl, HM, S, R, B⟩ := hrel
    have y1 := S.out.lt
    by_cases hlt : k < n
    · have hlen : k < xs.length := by rw [HL.out]; exact hlt
      obtain ⟨b, o, rfl, hbo, hc⟩ := (h.out.ext B.out).at hlt
      obtain ⟨y, hy⟩ : ∃ y, y = xs.getD k 0 := ⟨_, rfl⟩
      rw [← hy] at hc
      have ly : y < 18446744073709551616 := by rw [hy]; exact getD_lt HSm.out hlen
      have HM2 : Hid (manyS (takeN z y) (xs.drop (k + 1)) = manyS (begin 5) xs) := by rw [hy]; exact manyS_on HM.out hlen
      obtain ⟨c0, c1, c2, c3, c4, c5, c6, c7⟩ := hc
      have hltI : (k : Int) < (n : Int) := by omega
      have hkI : (0 : Int) ≤ (k : Int) := by omega
      clear hy
      go_wp2_with fail
      refine (num_c _ y ly).mono ?_
      rintro e w2 ⟨rfl, hb⟩
      replace R := Lib.hid (keepB hb (keepA (x := .cells #[.int .u8 (byt y 0), .int .u8 (byt y 1), .int .u8 (byt y 2), .int .u8 (byt y 3), .int .u8 (byt y 4), .int .u8 (byt y 5), .int .u8 (byt y 6), .int .u8 (byt y 7)] 31) R.out))
      replace S := Lib.hid ((S.out.keep (ext_alloc wr (.cells #[.int .u8 (byt y 0), .int .u8 (byt y 1), .int .u8 (byt y 2), .int .u8 (byt y 3), .int .u8 (byt y 4), .int .u8 (byt y 5), .int .u8 (byt y 6), .int .u8 (byt y 7)] 31))).keep hb)
      replace B := Lib.hid (ext_trans (ext_trans B.out (ext_alloc wr (.cells #[.int .u8 (byt y 0), .int .u8 (byt y 1), .int .u8 (byt y 2), .int .u8 (byt y 3), .int .u8 (byt y 4), .int .u8 (byt y 5), .int .u8 (byt y 6), .int .u8 (byt y 7)] 31))) hb)
      clear hb c0 c1 c2 c3 c4 c5 c6 c7
      go_wp2_with fail
      refine (take_c _ _ _ y ly S).mono ?_
      rintro e w3 ⟨rfl, hs, hg⟩
      replace R := Lib.hid (keepG hg (by omega) R.out)
      replace B := Lib.hid (below_grown B.out B.out.size hg (fun j hj => by injection hj with hj; omega))
      have S' := Lib.hid hs
      clear hs hg S
      go_wp2_with fail
      exact ⟨⟨k + 1, _, by omega, by go_num, HM2, S'.out, R.out, B.out⟩, by simp [intOf]; omega⟩
    · obtain rfl : k = n := by omega
      have HZ : Hid (z = manyS (begin 5) xs) := manyS_end (by rw [HL.out]; exact HM.out)
      have hI : ¬ (k : Int) < (k : Int) := by omega
      have hl : k < 18446744073709551616 := by omega
      go_wp2_with fail
      refine (take_c _ _ _ k hl S).mono ?_
      rintro e w3 ⟨rfl, hs, hg⟩
      replace R := Lib.hid (keepG hg (by omega) R.out)
      replace B := Lib.hid (below_grown B.out B.out.size hg (fun j hj => by injection hj with hj; omega))
      have S' := Lib.hid hs
      clear hs hg S
      have HX2 : Hid (outN (takeN z k) = x) := by rw [HX.out, HZ.out]; show _ = manyN xs; unfold manyN; rw [HL.out]
      go_wp2_with fail
      refine (digest_c _ _ _ S').mono ?_
      rw [HX2.out]
      unfold digV
      rintro e w4 ⟨rfl, hb⟩
      replace R := Lib.hid (keepB hb R.out)
      replace B := Lib.hid (ext_trans B.out hb)
      obtain ⟨c0, c1, c2, c3, c4, c5, c6, c7, f0, f1, f2, f3, f4, f5, f6, f7⟩ := full8 R.out
      clear hb
      go_wp2_with fail
      obtain ⟨g0, g1, g2, g3, g4, g5, g6, g7⟩ := put8 R.out (.int .u8 (byt x 0)) (.int .u8 (byt x 1)) (.int .u8 (byt x 2)) (.int .u8 (byt x 3)) (.int .u8 (byt x 4)) (.int .u8 (byt x 5)) (.int .u8 (byt x 6)) (.int .u8 (byt x 7))
      refine bodyPost_ret (v := digV x) (by unfold digV; simp only [results, Try.results60]; simp [go_sem, g0, g1, g2, g3, g4, g5, g6, g7]) rfl ⟨by unfold digV; rfl, bel8 B.out (Nat.le_refl _) (by omega) _ _ _ _ _ _ _ _⟩
#print axioms many_c
end Go.Proofs.Ytbhibfdlkahagaa
