/-
  hash: takeEnd, takeBytes, Of, Word: contracts.
-/
import Derived.Test.YtbejjmmopdcjoaaDoorHEights
import Derived.Laws.CopyOwn
import Derived.Deep.DeepCutAuto
namespace Go.Proofs.YtbejjmmopdcjoaaDoor
open Go.RowKit

theorem sizeU8 : (Tryd.prog.info? 5).map (·.size) = some 1 := by kernel_rfl

def digA' (n : Nat) : List Value := [.int .u8 (byt n 0), .int .u8 (byt n 1), .int .u8 (byt n 2), .int .u8 (byt n 3), .int .u8 (byt n 4), .int .u8 (byt n 5), .int .u8 (byt n 6), .int .u8 (byt n 7)]
theorem digA'_at (n : Nat) : ∀ (i : Nat), i < 8 → (digA' n)[i]? = some (.int .u8 (byt n i))
  | 0, _ => rfl
  | 1, _ => rfl
  | 2, _ => rfl
  | 3, _ => rfl
  | 4, _ => rfl
  | 5, _ => rfl
  | 6, _ => rfl
  | 7, _ => rfl
  | i + 8, h => absurd h (by omega)

theorem copy_src {w : World} {A : Option Addr} {n c : Nat} {bs : List UInt8} (h : Rd w A n c bs) (hn : 0 < n) : ∃ ad, A = some ad ∧ ∀ j v, (U8 bs)[j]? = some v → w.cell? (ad.add j) = some v := by
  obtain ⟨b, o, hA, _, hc⟩ := h.cells hn
  refine ⟨⟨b, o, none⟩, hA, fun j v hv => ?_⟩
  have hj : j < n := by rw [← h.len, ← U8_length]; exact (List.getElem?_eq_some_iff.1 hv).1
  rw [U8_getD (by rw [h.len]; exact hj)] at hv
  obtain rfl := Option.some.inj hv
  rw [Addr.add_lit]
  exact hc j hj

theorem grownB {w a c : World} {row : Option Nat} (h : Below w.heap.size w a) (k : a.grownBy c row) : w.grownBy c row :=
  ⟨k.os.trans h.os, k.tape.trans h.tape, k.output.trans h.output, Nat.le_trans h.size k.size, fun i hi hk => (k.block i (Nat.lt_of_lt_of_le hi h.size) hk).trans (h.block i hi)⟩

/-- the last digest's cells -/
theorem last_cells {cs : List UInt8} (h : cs.length < 8) : ((U8 cs ++ List.replicate (8 - cs.length) (Value.int .u8 0)).set cs.length (.int .u8 1)) = (digA' (num8 (cs ++ [1]))) := by
  have key : ∀ i, i < 8 → ((cs ++ [1]).getD i 0).toNat = if i < cs.length then (cs.getD i 0).toNat else if i = cs.length then 1 else 0 := fun i hi => by
    by_cases h1 : i < cs.length
    · rw [if_pos h1]; simp [List.getD, List.getElem?_append_left h1]
    · rw [if_neg h1]
      by_cases h2 : i = cs.length
      · rw [if_pos h2, h2]; simp
      · rw [if_neg h2]
        simp [List.getD, List.getElem?_append_right (show cs.length ≤ i by omega)]
        rw [List.getElem?_eq_none (by simp; omega)]
        rfl
  apply List.ext_getElem?
  intro i
  by_cases hi : i < 8
  · rw [digA'_at _ i hi, byt_num8, key i hi, List.getElem?_set]
    by_cases h2 : cs.length = i
    · rw [if_pos h2, if_pos (by simp [U8_length]; omega), if_neg (by omega), if_pos h2.symm]
      rfl
    · rw [if_neg h2]
      by_cases h1 : i < cs.length
      · rw [if_pos h1, List.getElem?_append_left (by rw [U8_length]; exact h1), U8_getD h1]
      · rw [if_neg h1, if_neg (fun e => h2 e.symm), List.getElem?_append_right (by rw [U8_length]; omega), U8_length, List.getElem?_replicate, if_pos (by omega)]
        rfl
  · rw [List.getElem?_eq_none (by simp [U8_length]; omega), List.getElem?_eq_none (by simp [digA']; omega)]

set_option maxRecDepth 100000 in
set_option maxHeartbeats 1000000 in
theorem end_c (w : World) (A : Option Addr) (n c : Nat) (cs : List UInt8) (b : Nat) (h0 : Hid (RdF w b A n c cs)) (hn : n < 8) (s : St) (h : Hid (StAt w 95 b s)) (N : Nat) (hN : N < 9223372036854775808) :
    Calls Tryd.prog 67 #[.pointer (some ⟨b, 0, none⟩), .slice A n c, .int .i64 N] w (Makes 95 b (endS s cs N) w) := by
  have HL := Lib.hid h0.out.now.len
  have hle := h0.out.now.le
  have hmax := h0.out.now.max
  have hlt := h.out.lt
  go_enter Tryd.func67, Tryd.ntmps67
  go_upto_region 2 with (refine wpList_copy_splice (o := ⟨some 9, _, _, _, _, _⟩) rfl (.tmp 7) (.tmp 8) 93 93 rfl 5 Tryd.underlying93 sizeU8 _ _ 8 8 n c (by rfl) (by rfl) w.heap.size 0 (List.replicate 8 (Value.int .u8 0)) 26 (Go.heap_alloc_new w _) (U8 cs) (by rw [U8_length, HL.out]; exact (Nat.min_eq_left (by omega)).symm) (fun hp => ⟨rfl, copy_src (h0.out.now.ext (ext_alloc w _)) (by rw [U8_length, HL.out] at hp; exact hp)⟩) (by rw [U8_length, HL.out]; simp; omega) (U8_one cs) w.heap.size w (ext_alloc w _) (Nat.le_refl _) ?_; intro w2 HG2 hB2; go_simp)
  have hcl : cs.length < 8 := by rw [HL.out]; exact hn
  obtain ⟨y, hy⟩ : ∃ y, y = num8 (cs ++ [1]) := ⟨_, rfl⟩
  have ly : y < 18446744073709551616 := by rw [hy]; exact num8_lt (by rw [List.length_append]; simp; omega)
  have HC := last_cells hcl
  rw [HL.out, ← hy] at HC
  have HE : Hid (endS s cs N = takeN (takeN s y) N) := by rw [hy]; rfl
  have HG := HG2.out
  have e1 : splice (List.replicate 8 (Value.int .u8 0)) 0 (U8 cs) = U8 cs ++ List.replicate (8 - n) (Value.int .u8 0) := by
    unfold splice
    rw [U8_length, HL.out, List.take_zero, List.nil_append, Nat.zero_add, List.drop_replicate]
  rw [e1] at HG
  have z8 : (U8 cs ++ List.replicate (8 - n) (Value.int .u8 0)).length = 8 := by simp [U8_length, HL.out]; omega
  have cn : ∃ v, w2.cell? ⟨w.heap.size, n, none⟩ = some v := by
    rw [cell_of_row w2 _ n _ _ _ HG]
    exact ⟨.int .u8 0, by rw [List.getElem?_toArray, List.getElem?_append_right (by rw [U8_length, HL.out]; exact Nat.le_refl _), U8_length, HL.out, Nat.sub_self, List.getElem?_replicate, if_pos (by omega)]⟩
  obtain ⟨vn, cn⟩ := cn
  have fn : w2.frozen? ⟨w.heap.size, n, none⟩ = false := by simp [World.frozen?, HG]
  have nI : (n : Int) < 8 := by omega
  have nI0 : (0 : Int) ≤ (n : Int) := by omega
  have G3 := heap_set_same (j := n) (.int .u8 1) HG
  have HHY := Lib.hid hy
  have P3 : Hid ((w2.setCell ⟨w.heap.size, n, none⟩ (.int .u8 1)).heap[w.heap.size]? = some (.cells #[.int .u8 (byt y 0), .int .u8 (byt y 1), .int .u8 (byt y 2), .int .u8 (byt y 3), .int .u8 (byt y 4), .int .u8 (byt y 5), .int .u8 (byt y 6), .int .u8 (byt y 7)] 26 (0, 0))) := by
    show _ = _
    rw [G3]
    congr 2
    apply Array.ext'
    rw [Array.toList_setIfInBounds, List.toList_toArray, HC]
    rfl
  have B3 : Hid (Below w.heap.size w (w2.setCell ⟨w.heap.size, n, none⟩ (.int .u8 1))) := below_set hB2 (Nat.le_refl _) (Nat.le_refl _)
  clear HC HG HG2 e1 z8 G3 hB2 hy hcl
  go_upto_region 3 with fail
  generalize w2.setCell ⟨w.heap.size, n, none⟩ (.int .u8 1) = w3 at *
  clear cn fn
  have S3 := Lib.hid (h.out.keep B3.out)
  obtain ⟨d0, d1, d2, d3, d4, d5, d6, d7, _, _, _, _, _, _, _, _⟩ := full8 P3.out
  go_wp2_with fail
  refine (num_c _ y ly).mono ?_
  rintro e w4 ⟨rfl, hb4⟩
  have S4 := Lib.hid (S3.out.keep hb4)
  have B4 := Lib.hid (ext_trans B3.out hb4)
  clear hb4 d0 d1 d2 d3 d4 d5 d6 d7 S3
  go_wp2_with fail
  refine (take_c _ _ _ y ly S4).mono ?_
  rintro e w5 ⟨rfl, hs, hg⟩
  have S5 := Lib.hid hs
  have G5 := Lib.hid (grownB B4.out hg)
  clear hs hg
  go_wp2_with fail
  refine (take_c _ _ _ N (by omega) S5).mono ?_
  rintro e w6 ⟨rfl, hs, hg⟩
  have S6 := Lib.hid hs
  have G6 := Lib.hid (grown_then G5.out hg)
  clear hs hg
  go_wp2_with fail
  go_end0
  exact ⟨rfl, by rw [HE.out]; exact S6.out, G6.out⟩

set_option maxRecDepth 100000 in
set_option maxHeartbeats 1000000 in
theorem bytes_c (w : World) (A : Option Addr) (n c : Nat) (bs : List UInt8) (b : Nat) (h0 : Hid (RdF w b A n c bs)) (hn : n < 9223372036854775808) (s : St) (h : Hid (StAt w 95 b s)) :
    Calls Tryd.prog 59 #[.pointer (some ⟨b, 0, none⟩), .slice A n c] w (Makes 95 b (fullS s bs) w) := by
  have HL := Lib.hid h0.out.now.len
  go_enter Tryd.func59, Tryd.ntmps59
  go_wp2_with fail
  refine (eights_c _ _ _ _ _ _ h0 _ h).mono ?_
  rintro e w1 ⟨A1, n1, c1, rfl, hr, hs, hg⟩
  have R := Lib.hid (hr.then hg)
  have S := Lib.hid hs
  have G := Lib.hid hg
  have hn1 : n1 < 8 := by have h1 := hr.now.len; have h2 := rest8_lt bs; omega
  clear hr hs hg
  go_wp2_with fail
  refine (end_c _ _ _ _ _ _ R hn1 _ S n hn).mono ?_
  rintro e w2 ⟨rfl, hs, hg⟩
  have S2 := Lib.hid hs
  have G2 := Lib.hid (grown_then G.out hg)
  clear hs hg
  go_wp2_with fail
  go_end0
  exact ⟨rfl, by unfold fullS; rw [HL.out]; exact S2.out, G2.out⟩
#print axioms bytes_c

end Go.Proofs.YtbejjmmopdcjoaaDoor
