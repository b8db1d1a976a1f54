/-
  coin: payments that came in: slices of pairs; sums of lists.
-/
import Derived.Test.YthdnfnilckjldaaCFrame
import Derived.Test.YthdnfnilckjldaaCPays
import Derived.Test.YthdnfnilckjldaaCTold
import Derived.Test.YthdnfnilckjldaaSchedC
import Derived.Deep.SlicePairs
namespace Go.Proofs.Ythdnfnilckjldaa
open Go.ChangeShapes Go.WideShapes Go.ChangeAt Go.RowKit Go.Deep

theorem sum_nonneg : ∀ (l : List Int), (∀ x ∈ l, 0 ≤ x) → 0 ≤ l.sum
  | [], _ => by simp
  | x :: l, h => by
    have h1 := h x (List.mem_cons_self ..)
    have h2 := sum_nonneg l (fun y hy => h y (List.mem_cons_of_mem _ hy))
    rw [List.sum_cons]
    omega
theorem sumF_all : ∀ (xs : List Int) (t : Int), 0 ≤ t → (∀ x ∈ xs, 0 ≤ x) → t + xs.sum ≤ 1125899906842624 → sumF t xs = (t + xs.sum, 0)
  | [], t, _, _, _ => by simp [sumF]
  | x :: xs, t, ht, hx, hs => by
    have h1 := hx x (List.mem_cons_self ..)
    have h2 := sum_nonneg xs (fun y hy => hx y (List.mem_cons_of_mem _ hy))
    rw [List.sum_cons] at hs ⊢
    have e : addF t x = (t + x, 0) := by
      unfold addF
      rw [if_pos ⟨⟨ht, by omega⟩, ⟨h1, by omega⟩, ⟨by omega, by omega⟩⟩]
    rw [sumF, e, if_pos rfl, sumF_all xs (t + x) (by omega) (fun y hy => hx y (List.mem_cons_of_mem _ hy)) (by omega)]
    congr 1
    omega
theorem sum_set : ∀ (l : List Int) (j : Nat) (x : Int), j < l.length → (l.set j (l.getD j 0 + x)).sum = l.sum + x
  | [], j, _, h => by simp at h
  | y :: l, 0, x, _ => by
    simp only [List.set_cons_zero, List.sum_cons, List.getD_cons_zero]
    omega
  | y :: l, j + 1, x, h => by
    simp only [List.set_cons_succ, List.sum_cons, List.getD_cons_succ]
    rw [sum_set l j x (by simpa using h)]
    omega
theorem take_paid (hs : List Int) (S j : Nat) (x : Int) (hj : j < S) (hS : S ≤ hs.length) : ((hs.set j (hs.getD j 0 + x)).take S).sum = (hs.take S).sum + x := by
  rw [List.take_set]
  have e : hs.getD j 0 = (hs.take S).getD j 0 := by simp [List.getD, hj]
  rw [e]
  exact sum_set _ _ _ (by rw [List.length_take]; omega)
theorem seatAt_lt (s : Int) (S : Nat) (h : 1 ≤ S) : seatAt s S < S := by
  unfold seatAt
  split <;> omega
theorem Pot.nonneg {w : World} {b : Nat} {left seats : Int} {hs : List Int} (h : Pot w b left seats hs) (S : Nat) : ∀ x ∈ hs.take S, 0 ≤ x := fun x hx => (h.fits.2.2.2 x (List.mem_of_mem_take hx)).1

/-- a slice of pairs of numbers -/
structure RdP (w : World) (A : Option Addr) (n c : Nat) (xs : Nat → Int × Int) : Prop where
  le : n ≤ c
  max : c ≤ 9223372036854775807
  cells : 0 < n → ∃ b o, A = some ⟨b, o, none⟩ ∧ b < w.heap.size ∧ ∀ j, j < n → w.cell? ⟨b, o + j * 2, none⟩ = some (.int .i64 (xs j).1) ∧ w.cell? ⟨b, o + j * 2 + 1, none⟩ = some (.int .i64 (xs j).2)
theorem RdP.ext {w w' : World} {A : Option Addr} {n c : Nat} {xs : Nat → Int × Int} (h : RdP w A n c xs) (k : Below w.heap.size w w') : RdP w' A n c xs :=
  ⟨h.le, h.max, fun hn => by
    obtain ⟨b, o, hA, hb, hc⟩ := h.cells hn
    exact ⟨b, o, hA, Nat.lt_of_lt_of_le hb k.size, fun j hj => ⟨(k.cell (p := ⟨b, o + j * 2, none⟩) hb).trans (hc j hj).1, (k.cell (p := ⟨b, o + j * 2 + 1, none⟩) hb).trans (hc j hj).2⟩⟩⟩

theorem full2 {w : World} {b : Nat} {T : TypeId} {x0 x1 : Value} (h : w.heap[b]? = some (.cells #[x0, x1] T (0, 0))) : w.cell? ⟨b, 0, none⟩ = some x0 ∧ w.cell? ⟨b, 1, none⟩ = some x1 :=
  ⟨by rw [cell_of_row w _ 0 _ _ _ h]; rfl, by rw [cell_of_row w _ 1 _ _ _ h]; rfl⟩
theorem keepB {w w' : World} {b : Nat} {o : Obj} (hb : Below w.heap.size w w') (h : w.heap[b]? = some o) : w'.heap[b]? = some o := (hb.block b (Array.getElem?_eq_some_iff.1 h).1).trans h
theorem schedC_none {P : Program} {ops : Array Oper} {C : World → Prop} {K : Act → World → Prop} {i : Nat} {s : List (Bool × Nat)} {o : Oper} {a : Act} {w : World} (hi : ops[i]? = some o) (hw : Region.wanted o (yielded ops a.tmps) = false)
    (h : wpSchedC P ops C K s (a.put o.dst undef) w) : wpSchedC P ops C K ((true, i) :: s) a w := ⟨o, undef, hi, .inr ⟨hw, rfl⟩, h⟩
theorem drew_grown (w : World) (r : Option Nat) : w.grownBy w.drew r := ⟨rfl, rfl, rfl, Nat.le_refl _, fun _ _ _ => rfl⟩
theorem grown_then {a b c : World} {row : Option Nat} (h : a.grownBy b row) (k : b.grownBy c row) : a.grownBy c row :=
  ⟨k.os.trans h.os, k.tape.trans h.tape, k.output.trans h.output, Nat.le_trans h.size k.size, fun i hi hk => (k.block i (Nat.lt_of_lt_of_le hi h.size) hk).trans (h.block i hi hk)⟩
theorem below_grown_none {w w' : World} (h : Below w.heap.size w w') (r : Option Nat) : w.grownBy w' r := ⟨h.os, h.tape, h.output, h.size, fun k hk _ => h.block k hk⟩

section
variable {H : Type} {enc : TypeId × Value → H}
set_option maxRecDepth 100000 in
theorem asks_of {fuel : Nat} {v : Value} {x : DataW H × List MemPlace} {W : World} (h : DataW.trod enc Try.prog W 0 (fun _ => true) true fuel 40 [v] = some x) : ∃ A n c xs, v = .slice A n c ∧ RdP W A n c xs := by
  rcases open_slice_pairs Try.underlying40 Try.underlying50 (by kernel_rfl) rfl rfl (by kernel_rfl) (by kernel_rfl) h with ⟨hcs, _⟩ | ⟨a, len, cap, m, k, V0, V1, D0, D1, P0, P1, hcs, _, hl, hm, hmm, _, hi⟩
  · simp at hcs
    subst hcs
    exact ⟨none, 0, 0, fun _ => (0, 0), rfl, Nat.le_refl _, by omega, fun h => absurd h (by omega)⟩
  · simp at hcs
    subst hcs
    simp only [if_true] at hmm
    have hm' : cap ≤ 9223372036854775807 := by simp only [maxLen] at hm; omega
    have ex : ∀ i, ∃ y : Int × Int, i < len → W.cell? (a.add (i * 2)) = some (.int .i64 y.1) ∧ W.cell? (a.add (i * 2 + 1)) = some (.int .i64 y.2) := fun i => by
      by_cases hin : i < len
      · obtain ⟨h1, h2, h3, h4⟩ := hi i (by omega)
        obtain ⟨p, hp, _, _⟩ := DataW.trod_int Try.underlying3 h3
        obtain ⟨q, hq, _, _⟩ := DataW.trod_int Try.underlying3 h4
        injection hp with hp
        injection hq with hq
        exact ⟨(p, q), fun _ => ⟨by rw [h1, hp], by rw [h2, hq]⟩⟩
      · exact ⟨(0, 0), fun h => absurd h hin⟩
    obtain ⟨f, hf'⟩ := Classical.axiomOfChoice ex
    refine ⟨some a, len, cap, f, rfl, hl, hm', fun h0 => ?_⟩
    obtain ⟨b, off, spot⟩ := a
    have h00 := (hf' 0 h0).1
    have hspot : spot = none := by simpa [Addr.add] using World.cell?_spot h00
    subst hspot
    refine ⟨b, off, rfl, World.block_lt_of_cell? _ _ h00, fun j hj => ?_⟩
    obtain ⟨h1, h2⟩ := hf' j hj
    rw [Addr.add_lit] at h1 h2
    exact ⟨h1, h2⟩
set_option maxRecDepth 100000 in
theorem open_asks {W : World} {base : Nat} {v : Value} {d : DataW H} {p : List MemPlace}
    (hv : Value.okWide Try.prog W .any base 40 v) (h : DataW.Trod enc Try.prog W 0 (fun _ => true) true 40 v d p) : ∃ A n c xs, v = .slice A n c ∧ RdP W A n c xs := by
  obtain ⟨A, n, c, rfl⟩ := okWide_slice Try.underlying40 hv
  obtain ⟨fuel, hf⟩ := h
  exact asks_of hf
end
#print axioms open_asks
end Go.Proofs.Ythdnfnilckjldaa
