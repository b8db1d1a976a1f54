/-
  coin: a pot in memory; NewPot, Pay: contracts.
-/
import Derived.Test.YthdnfnilckjldaaCAlike
import Derived.Handy
import Derived.OneCell
import Derived.StillTailTactics
namespace Go.Proofs.Ythdnfnilckjldaa
open Go.RowKit

/-- a pot in block b: what is left, how many seats, what each has -/
structure Pot (w : World) (b : Nat) (left seats : Int) (hs : List Int) : Prop where
  blk : ∃ cur : Array Value, w.heap[b]? = some (.cells cur 66 (0, 0)) ∧ cur.toList = .int .i64 left :: .int .i64 seats :: hs.map (Value.int .i64)
  len : hs.length = 8
  fits : 0 ≤ left ∧ 1 ≤ seats ∧ seats ≤ 8 ∧ ∀ x ∈ hs, 0 ≤ x ∧ x + left ≤ 1125899906842624

theorem Pot.lt {w : World} {b : Nat} {left seats : Int} {hs : List Int} (h : Pot w b left seats hs) : b < w.heap.size := by
  obtain ⟨cur, h1, _⟩ := h.blk
  exact (Array.getElem?_eq_some_iff.1 h1).1
theorem Pot.c0 {w : World} {b : Nat} {left seats : Int} {hs : List Int} (h : Pot w b left seats hs) : w.cell? ⟨b, 0, none⟩ = some (.int .i64 left) := by
  obtain ⟨cur, h1, h2⟩ := h.blk
  rw [cell_of_row w b 0 cur _ _ h1, ← Array.getElem?_toList, h2]; rfl
theorem Pot.c1 {w : World} {b : Nat} {left seats : Int} {hs : List Int} (h : Pot w b left seats hs) : w.cell? ⟨b, 1, none⟩ = some (.int .i64 seats) := by
  obtain ⟨cur, h1, h2⟩ := h.blk
  rw [cell_of_row w b 1 cur _ _ h1, ← Array.getElem?_toList, h2]; rfl
theorem Pot.at {w : World} {b : Nat} {left seats : Int} {hs : List Int} (h : Pot w b left seats hs) {j : Nat} (hj : j < 8) : w.cell? ⟨b, 2 + j, none⟩ = some (.int .i64 (hs.getD j 0)) := by
  obtain ⟨cur, h1, h2⟩ := h.blk
  have hl := h.len
  rw [cell_of_row w b (2 + j) cur _ _ h1, ← Array.getElem?_toList, h2, Nat.add_comm]
  simp [show j < hs.length by omega]
theorem Pot.free {w : World} {b : Nat} {left seats : Int} {hs : List Int} (h : Pot w b left seats hs) (j : Nat) : w.frozen? ⟨b, j, none⟩ = false := by
  obtain ⟨cur, h1, _⟩ := h.blk
  simp [World.frozen?, h1]
theorem Pot.ext {w w' : World} {b : Nat} {left seats : Int} {hs : List Int} (h : Pot w b left seats hs) (k : Below w.heap.size w w') : Pot w' b left seats hs := by
  obtain ⟨cur, h1, h2⟩ := h.blk
  exact ⟨⟨cur, (k.block b h.lt).trans h1, h2⟩, h.len, h.fits⟩
/-- what Pay writes -/
theorem Pot.paid {w : World} {b : Nat} {left seats : Int} {hs : List Int} (h : Pot w b left seats hs) {j : Nat} (hj : j < 8) {x : Int} (hx : 0 ≤ x) (hx2 : x ≤ left) :
    Pot ((w.setCell ⟨b, 2 + j, none⟩ (.int .i64 (hs.getD j 0 + x))).setCell ⟨b, 0, none⟩ (.int .i64 (left - x))) b (left - x) seats (hs.set j (hs.getD j 0 + x)) := by
  obtain ⟨cur, h1, h2⟩ := h.blk
  have hl := h.len
  obtain ⟨f1, f2, f3, f4⟩ := h.fits
  refine ⟨⟨(cur.setIfInBounds (2 + j) (.int .i64 (hs.getD j 0 + x))).setIfInBounds 0 (.int .i64 (left - x)), ?_, ?_⟩, by simpa using hl, by omega, f2, f3, ?_⟩
  · exact heap_setCell_same _ b 0 _ _ _ (heap_setCell_same w b (2 + j) cur _ _ h1)
  · rw [Array.toList_setIfInBounds, Array.toList_setIfInBounds, h2, Nat.add_comm 2 j]
    simp [List.map_set]
  · intro y hy
    rcases List.mem_or_eq_of_mem_set hy with h | rfl
    · have := f4 y h; omega
    · have : hs.getD j 0 ∈ hs := by rw [show hs.getD j 0 = hs[j] by simp [show j < hs.length by omega]]; exact List.getElem_mem _
      have := f4 _ this
      omega

theorem grownBy_set' {w : World} {b j : Nat} (u : Value) : w.grownBy (w.setCell ⟨b, j, none⟩ u) (some b) :=
  ⟨rfl, rfl, rfl, by simp [World.setCell], fun k _ hk => Below.heap_setCell _ _ _ _ (fun e => hk (by rw [e]))⟩
theorem World.grownBy.trans1 {a b c : World} {row : Option Nat} (h : a.grownBy b row) (k : b.grownBy c row) : a.grownBy c row :=
  ⟨k.os.trans h.os, k.tape.trans h.tape, k.output.trans h.output, Nat.le_trans h.size k.size, fun i hi hk => (k.block i (Nat.lt_of_lt_of_le hi h.size) hk).trans (h.block i hi hk)⟩
theorem grownBy_more {w a c : World} {row : Option Nat} (h : w.grownBy a row) (k : Below a.heap.size a c) : w.grownBy c row :=
  ⟨k.os.trans h.os, k.tape.trans h.tape, k.output.trans h.output, Nat.le_trans h.size k.size, fun i hi hk => (k.block i (Nat.lt_of_lt_of_le hi h.size)).trans (h.block i hi hk)⟩

/-- the call makes a new pot -/
def Makes1 (w : World) (amount seats : Int) (e : Ending) (w' : World) : Prop :=
  ∃ b, e = .returned (.tuple #[.pointer (some ⟨b, 0, none⟩), .int .i64 0]) ∧ Pot w' b amount seats (List.replicate 8 0) ∧ w.heap.size ≤ b ∧ Below w.heap.size w w'

set_option maxRecDepth 100000 in
theorem newPot_ok (w : World) (a n : Int) (ha : Hid (Amt a)) (h1 : 1 ≤ n) (h8 : n ≤ 8) : Calls Try.prog 23 #[.int .i64 a, .int .i64 n] w (Makes1 w a n) := by
  have h1I : ¬ n < 1 := by omega
  have h8I : ¬ (8 : Int) < n := by omega
  go_enter Try.func23, Try.ntmps23
  go_wp2_with fail
  refine (right_t _ _ ha.out).mono ?_
  rintro e v ⟨rfl, rfl⟩
  go_wp2_with fail
  go_ret2
  exact ⟨w.heap.size, rfl, ⟨⟨_, Go.heap_alloc_new w _, rfl⟩, rfl, ha.out.1, h1, h8, fun x hx => by obtain rfl := (List.mem_replicate.1 hx).2; have := ha.out.2; omega⟩, Nat.le_refl _, ext_alloc _ _⟩
set_option maxRecDepth 100000 in
theorem newPot_range (w : World) (a n : Int) (ha : Hid (¬ Amt a)) : Calls Try.prog 23 #[.int .i64 a, .int .i64 n] w (fun e w' => e = .returned (.tuple #[.pointer none, .int .i64 2]) ∧ w = w') := by
  go_enter Try.func23, Try.ntmps23
  go_wp2_with fail
  refine (right_f _ _ ha.out).mono ?_
  rintro e v ⟨rfl, rfl⟩
  go_wp2_with fail
  go_ret2
  exact ⟨rfl, rfl⟩
set_option maxRecDepth 100000 in
theorem newPot_arg (w : World) (a n : Int) (ha : Hid (Amt a)) (hn : n < 1 ∨ 8 < n) : Calls Try.prog 23 #[.int .i64 a, .int .i64 n] w (fun e w' => e = .returned (.tuple #[.pointer none, .int .i64 1]) ∧ w = w') := by
  by_cases h1 : n < 1
  · clear hn
    go_enter Try.func23, Try.ntmps23
    go_wp2_with fail
    refine (right_t _ _ ha.out).mono ?_
    rintro e v ⟨rfl, rfl⟩
    go_wp2_with fail
    go_ret2
    exact ⟨rfl, rfl⟩
  · have h8 : (8 : Int) < n := by omega
    clear hn
    go_enter Try.func23, Try.ntmps23
    go_wp2_with fail
    refine (right_t _ _ ha.out).mono ?_
    rintro e v ⟨rfl, rfl⟩
    go_wp2_with fail
    go_ret2
    exact ⟨rfl, rfl⟩

set_option maxRecDepth 100000 in
theorem pay_nil (w : World) (a n : Int) : Calls Try.prog 26 #[.pointer none, .int .i64 a, .int .i64 n] w (fun e w' => e = .returned (.int .i64 0) ∧ w = w') := by
  go_enter Try.func26, Try.ntmps26
  go_wp2_with fail
  go_ret
  exact ⟨rfl, rfl⟩

/-- the call pays x to the seat j -/
def Paid (w : World) (b : Nat) (left seats : Int) (hs : List Int) (j : Nat) (x : Int) (e : Ending) (w' : World) : Prop :=
  e = .returned (.int .i64 x) ∧ Pot w' b (left - x) seats (hs.set j (hs.getD j 0 + x)) ∧ w.grownBy w' (some b)

set_option maxRecDepth 100000 in
set_option maxHeartbeats 400000 in
theorem pay_in (w : World) (b : Nat) (left seats : Int) (hs : List Int) (h : Pot w b left seats hs) (j : Nat) (hj : (j : Int) < seats) (ask x : Int) (hx : x = min (max ask 0) left) :
    Calls Try.prog 26 #[.pointer (some ⟨b, 0, none⟩), .int .i64 j, .int .i64 ask] w (Paid w b left seats hs j x) := by
  obtain ⟨f1, f2, f3, f4⟩ := h.fits
  have hj8 : j < 8 := by omega
  have hm : hs.getD j 0 ∈ hs := by rw [show hs.getD j 0 = hs[j]'(by rw [h.len]; exact hj8) by simp [h.len, hj8]]; exact List.getElem_mem _
  obtain ⟨g1, g2⟩ := f4 _ hm
  obtain ⟨y, hy⟩ : ∃ y, y = hs.getD j 0 := ⟨_, rfl⟩
  have c0 := h.c0
  have c1 := h.c1
  have cj := h.at hj8
  have r0 := h.free 0
  have r1 := h.free (2 + j)
  rw [← hy] at cj g1 g2
  have hx0 : 0 ≤ x := by omega
  have hx1 : x ≤ left := by omega
  have P := Lib.hid (h.paid hj8 hx0 hx1)
  have HY := Lib.hid hy
  have mx : (if ask < 0 then 0 else ask) = max ask 0 := by split <;> omega
  have mn : (if left < max ask 0 then left else max ask 0) = x := by rw [hx]; split <;> omega
  have n1 : ¬ (j : Int) < 0 := by omega
  have n2 : decide (seats ≤ (j : Int)) = false := by simp; omega
  have n3 : (j : Int) < 8 := by omega
  have w1 : IntKind.i64.wrap (y + x) = y + x := IntWalk.i64_in _ (by omega)
  have w2 : IntKind.i64.wrap (left - x) = left - x := IntWalk.i64_in _ (by omega)
  clear h hm f4 hy hx
  go_enter Try.func26, Try.ntmps26
  go_wp2_with fail
  go_still_tail 11, (by kernel_rfl)
  change wpList _ _ _ _ _ w.drew
  have e0 : (w.setCell ⟨b, 2 + j, none⟩ (.int .i64 (y + x))).cell? ⟨b, 0, none⟩ = some (.int .i64 left) := by
    rw [World.cell?_setCell_other w _ _ _ (by intro e; have := congrArg Addr.off e; simp at this)]; exact c0
  have e1 : (w.setCell ⟨b, 2 + j, none⟩ (.int .i64 (y + x))).frozen? ⟨b, 0, none⟩ = false := by rw [World.frozen?_setCell]; exact r0
  go_wp2
  go_ret
  refine ⟨rfl, ?_, ?_⟩
  · have := P.out
    rw [← HY.out] at this ⊢
    exact this.ext (ext_drew _)
  · exact grownBy_more (World.grownBy.trans1 (grownBy_set' _) (grownBy_set' _)) (ext_drew _)
set_option maxRecDepth 100000 in
set_option maxHeartbeats 400000 in
theorem pay_out (w : World) (b : Nat) (left seats : Int) (hs : List Int) (h : Pot w b left seats hs) (S : Int) (hS : S < 0 ∨ seats ≤ S) (ask x : Int) (hx : x = min (max ask 0) left) :
    Calls Try.prog 26 #[.pointer (some ⟨b, 0, none⟩), .int .i64 S, .int .i64 ask] w (Paid w b left seats hs 0 x) := by
  obtain ⟨f1, f2, f3, f4⟩ := h.fits
  have hj8 : 0 < 8 := by omega
  have hm : hs.getD 0 0 ∈ hs := by rw [show hs.getD 0 0 = hs[0]'(by rw [h.len]; exact hj8) by simp [h.len, hj8]]; exact List.getElem_mem _
  obtain ⟨g1, g2⟩ := f4 _ hm
  obtain ⟨y, hy⟩ : ∃ y, y = hs.getD 0 0 := ⟨_, rfl⟩
  have c0 := h.c0
  have c1 := h.c1
  have cj := h.at hj8
  have r0 := h.free 0
  have r1 := h.free 2
  rw [← hy] at cj g1 g2
  have hx0 : 0 ≤ x := by omega
  have hx1 : x ≤ left := by omega
  have P := Lib.hid (h.paid hj8 hx0 hx1)
  have HY := Lib.hid hy
  have mx : (if ask < 0 then 0 else ask) = max ask 0 := by split <;> omega
  have mn : (if left < max ask 0 then left else max ask 0) = x := by rw [hx]; split <;> omega
  have w1 : IntKind.i64.wrap (y + x) = y + x := IntWalk.i64_in _ (by omega)
  have w2 : IntKind.i64.wrap (left - x) = left - x := IntWalk.i64_in _ (by omega)
  clear h hm f4 hy hx
  rw [Nat.add_zero] at cj
  by_cases n1 : S < 0
  · clear hS
    go_enter Try.func26, Try.ntmps26
    go_wp2_with fail
    go_still_tail 11, (by kernel_rfl)
    change wpList _ _ _ _ _ w.drew
    have e0 : (w.setCell ⟨b, 2, none⟩ (.int .i64 (y + x))).cell? ⟨b, 0, none⟩ = some (.int .i64 left) := by
      rw [World.cell?_setCell_other w _ _ _ (by intro e; have := congrArg Addr.off e; simp at this)]; exact c0
    have e1 : (w.setCell ⟨b, 2, none⟩ (.int .i64 (y + x))).frozen? ⟨b, 0, none⟩ = false := by rw [World.frozen?_setCell]; exact r0
    go_wp2
    go_ret
    refine ⟨rfl, ?_, ?_⟩
    · have := P.out
      rw [← HY.out] at this ⊢
      exact this.ext (ext_drew _)
    · exact grownBy_more (World.grownBy.trans1 (grownBy_set' _) (grownBy_set' _)) (ext_drew _)
  · have n2 : decide (seats ≤ S) = true := by simp; omega
    clear hS
    go_enter Try.func26, Try.ntmps26
    go_wp2_with fail
    go_still_tail 11, (by kernel_rfl)
    change wpList _ _ _ _ _ w.drew
    have e0 : (w.setCell ⟨b, 2, none⟩ (.int .i64 (y + x))).cell? ⟨b, 0, none⟩ = some (.int .i64 left) := by
      rw [World.cell?_setCell_other w _ _ _ (by intro e; have := congrArg Addr.off e; simp at this)]; exact c0
    have e1 : (w.setCell ⟨b, 2, none⟩ (.int .i64 (y + x))).frozen? ⟨b, 0, none⟩ = false := by rw [World.frozen?_setCell]; exact r0
    go_wp2
    go_ret
    refine ⟨rfl, ?_, ?_⟩
    · have := P.out
      rw [← HY.out] at this ⊢
      exact this.ext (ext_drew _)
    · exact grownBy_more (World.grownBy.trans1 (grownBy_set' _) (grownBy_set' _)) (ext_drew _)
#print axioms pay_out
#print axioms newPot_arg
end Go.Proofs.Ythdnfnilckjldaa
