/-
  octet: a law's reads: they come in; a new reader whose row is the call's own; stores that leave a row alone.
-/
import Derived.Test.YtgplamfjemmfnaaReader2
import Derived.Test.YtgplamfjemmfnaaApart0
import Derived.Test.YtgplamfjemmfnaaFrame
import Derived.Deep.Strs
import Derived.Deep.Slices
import Derived.Deep.Fields
import Derived.ChangeSame
import Derived.Lib.SmallJoins
namespace Go.Proofs.Ytgplamfjemmfnaa
open Go.Joins Go.ChangeShapes Go.WideShapes Go.ChangeAt Go.RowKit Go.Deep

/-- a read that is asked for -/
structure ActV where
  k : Int
  n : Int
  m : Nat
def noAct : ActV := ⟨0, 0, 0⟩
def ActV.ok (x : ActV) : Prop := (-9223372036854775808 ≤ x.k ∧ x.k < 9223372036854775808) ∧ (-9223372036854775808 ≤ x.n ∧ x.n < 9223372036854775808) ∧ x.m < 18446744073709551616
def actA (x : ActV) : Array Value := #[.int .i64 x.k, .int .i64 x.n, .int .u64 x.m]
/-- a slice that reads as these; it may be nil -/
structure RdA (w : World) (A : Option Addr) (n c : Nat) (xs : List ActV) : Prop where
  len : xs.length = n
  le : n ≤ c
  max : c ≤ 9223372036854775807
  cells : 0 < n → ∃ b o, A = some ⟨b, o, none⟩ ∧ b < w.heap.size ∧ ∀ j, j < n → ∀ i, i < 3 → w.cell? ⟨b, o + j * 3 + i, none⟩ = (actA (xs.getD j noAct))[i]?
theorem RdA.ext {w w' : World} {A : Option Addr} {n c : Nat} {xs : List ActV} (h : RdA w A n c xs) (k : Below w.heap.size w w') : RdA w' A n c xs :=
  ⟨h.len, h.le, h.max, fun hn => by
    obtain ⟨b, o, hA, hb, hc⟩ := h.cells hn
    exact ⟨b, o, hA, Nat.lt_of_lt_of_le hb k.size, fun j hj i hi => (k.cell (p := ⟨b, o + j * 3 + i, none⟩) hb).trans (hc j hj i hi)⟩⟩
theorem RdA.at {w : World} {A : Option Addr} {n c : Nat} {xs : List ActV} (h : RdA w A n c xs) {k : Nat} (hk : k < n) : ∃ b o, A = some ⟨b, o, none⟩ ∧ b < w.heap.size ∧ w.cell? ⟨b, o + k * 3, none⟩ = some (.int .i64 (xs.getD k noAct).k) ∧ w.cell? ⟨b, o + k * 3 + 1, none⟩ = some (.int .i64 (xs.getD k noAct).n) ∧ w.cell? ⟨b, o + k * 3 + 2, none⟩ = some (.int .u64 (xs.getD k noAct).m) := by
  obtain ⟨b, o, hA, hb, hc⟩ := h.cells (by omega)
  exact ⟨b, o, hA, hb, hc k hk 0 (by omega), hc k hk 1 (by omega), hc k hk 2 (by omega)⟩
theorem ok_at {xs : List ActV} (h : ∀ x ∈ xs, x.ok) (j : Nat) : (xs.getD j noAct).ok := by
  by_cases hj : j < xs.length
  · rw [show xs.getD j noAct = xs[j] by simp [hj]]
    exact h _ (List.getElem_mem _)
  · rw [show xs.getD j noAct = noAct by simp [List.getD, List.getElem?_eq_none (Nat.le_of_not_lt hj)]]
    exact ⟨⟨by decide, by decide⟩, ⟨by decide, by decide⟩, by decide⟩

section
variable {H : Type} {enc : TypeId × Value → H}
theorem in64A {x : Int} (h : (Lit.int .i64 x).wf = true) : -9223372036854775808 ≤ x ∧ x < 9223372036854775808 := by
  simp [Lit.wf, IntKind.min, IntKind.max, IntKind.signed, IntKind.bits] at h
  omega
theorem in64U {x : Int} (h : (Lit.int .u64 x).wf = true) : 0 ≤ x ∧ x < 18446744073709551616 := by
  simp [Lit.wf, IntKind.min, IntKind.max, IntKind.signed, IntKind.bits] at h
  omega
set_option maxRecDepth 100000 in
theorem open_acts {W : World} {base : Nat} {v : Value} {d : DataW H} {p : List MemPlace}
    (hv : Value.okWide Try.prog W .any base 35 v) (h : DataW.Trod enc Try.prog W 0 (fun _ => true) true 35 v d p) : ∃ A n c xs, v = .slice A n c ∧ RdA W A n c xs ∧ ∀ x ∈ xs, x.ok := by
  have ht := Try.underlying35
  have hce : Try.prog.cellsOf 41 = 3 := by kernel_rfl
  have hci : Try.prog.cellsOf 3 = 1 := by kernel_rfl
  have hcu : Try.prog.cellsOf 23 = 1 := by kernel_rfl
  obtain ⟨A, n, c, rfl⟩ := okWide_slice ht hv
  obtain ⟨fuel, hf⟩ := h
  rcases open_slice ht hf with ⟨hcs, _⟩ | ⟨a, len, cap, m, k, D, Pl, hcs, _, hl, hm, hmm, _, hi⟩
  · simp [Value.cells] at hcs
    obtain ⟨rfl, rfl, rfl⟩ := hcs
    exact ⟨none, 0, 0, [], rfl, ⟨rfl, Nat.le_refl _, by omega, fun h => absurd h (by omega)⟩, by simp⟩
  · simp [Value.cells] at hcs
    obtain ⟨rfl, rfl, rfl⟩ := hcs
    simp only [if_true] at hmm
    have hm' : c ≤ 9223372036854775807 := by simp only [maxLen] at hm; omega
    have ex : ∀ i, ∃ x : ActV, i < n → x.ok ∧ ∀ j, j < 3 → W.cell? ((a.add (i * 3)).add j) = (actA x)[j]? := fun i => by
      by_cases hin : i < n
      · obtain ⟨cs', h1, h2⟩ := hi i (by omega)
        rw [hce] at h1
        obtain ⟨_, hcl, hat⟩ := World.cells?_some h1
        obtain ⟨y0, y1, y2, m2, _, _, g0, g1, g2⟩ := trod_struct3 Try.underlying41 h2
        dsimp only at g0 g1 g2
        rw [hci] at g0 g1
        rw [hcu] at g2
        match cs', hcl with
        | [c0, c1, c2], _ =>
          obtain ⟨p0, e0, _, w0⟩ := DataW.trod_int Try.underlying3 (show DataW.trod _ _ _ _ _ _ _ _ [c0] = some y0 from g0)
          obtain ⟨p1, e1, _, w1⟩ := DataW.trod_int Try.underlying3 (show DataW.trod _ _ _ _ _ _ _ _ [c1] = some y1 from g1)
          obtain ⟨p2, e2, _, w2⟩ := DataW.trod_int Try.underlying23 (show DataW.trod _ _ _ _ _ _ _ _ [c2] = some y2 from g2)
          injection e0 with e0; injection e1 with e1; injection e2 with e2
          subst e0 e1 e2
          have u2 := in64U w2
          refine ⟨⟨p0, p1, p2.toNat⟩, fun _ => ⟨⟨in64A w0, in64A w1, by show p2.toNat < _; omega⟩, fun j hj => ?_⟩⟩
          rw [hat j hj]
          have e9 : ((p2.toNat : Nat) : Int) = p2 := by omega
          rcases (by omega : j = 0 ∨ j = 1 ∨ j = 2) with rfl | rfl | rfl
          · rfl
          · rfl
          · show some (Value.int IntKind.u64 p2) = some (Value.int IntKind.u64 (p2.toNat : Int))
            rw [e9]
      · exact ⟨noAct, fun h => absurd h hin⟩
    obtain ⟨f, hf'⟩ := Classical.axiomOfChoice ex
    refine ⟨some a, n, c, (List.range n).map f, rfl, ⟨by simp, hl, hm', fun h0 => ?_⟩, fun x hx => ?_⟩
    · obtain ⟨b, off, spot⟩ := a
      have h00 := (hf' 0 h0).2 0 (by omega)
      have hspot : spot = none := by simpa [Addr.add] using World.cell?_spot h00
      subst hspot
      have hblk := World.block_lt_of_cell? _ _ h00
      refine ⟨b, off, rfl, by simpa [Addr.add] using hblk, fun j hj i hi8 => ?_⟩
      have h2 := (hf' j hj).2 i hi8
      rw [Addr.add_lit, Addr.add_lit] at h2
      rw [h2]
      simp [hj]
    · obtain ⟨i, hi', rfl⟩ := List.mem_map.1 hx
      exact (hf' i (by simpa using hi')).1
end
#print axioms open_acts

/-- a new reader's block, and its row, which is the call's own -/
def NewsO (w : World) (bs : List UInt8) (e : Ending) (w' : World) : Prop :=
  ∃ b A n c, e = .returned (.pointer (some ⟨b, 0, none⟩)) ∧ w'.heap[b]? = some (.cells #[.slice A n c, .int .i64 0] 67 (0, 0)) ∧ Own w' 5 w.heap.size A n c bs ∧ w.heap.size ≤ b ∧ Below w.heap.size w w'
set_option maxRecDepth 100000 in
set_option maxHeartbeats 400000 in
theorem newReader_o (w : World) (A : Option Addr) (n c : Nat) (bs : List UInt8) (h : Rd w A n c bs) (hn : n ≤ 100000000000000) :
    Calls Try.prog 21 #[.slice A n c] w (NewsO w bs) := by
  go_enter Try.func21, Try.ntmps21
  go_wp2_with (go_at_call 33; refine (clone_c _ _ _ _ _ h hn).mono ?_; rintro e w1 ⟨A1, n1, c1, rfl, ho1, hb1⟩)
  go_ret
  exact ⟨w1.heap.size, A1, n1, c1, rfl, Go.heap_alloc_new w1 _, ho1.ext (ext_alloc _ _), hb1.size, ext_trans hb1 (ext_alloc _ _)⟩
#print axioms newReader_o

/-- a store into a block that holds no byte leaves each row of bytes alone -/
theorem Rd.setFar {w : World} {g k : Nat} {cs : Array Value} {T : TypeId} {u : Value} {A : Option Addr} {n c : Nat} {bs : List UInt8} (h : Rd w A n c bs) (hg : w.heap[g]? = some (.cells cs T (0, 0))) (hT : ∀ (j : Nat) (x : Int), cs[j]? ≠ some (Value.int .u8 x)) : Rd (w.setCell ⟨g, k, none⟩ u) A n c bs := by
  refine ⟨h.len, h.le, h.max, fun hn => ?_, h.none_⟩
  obtain ⟨b2, o2, hA, hb2, hc⟩ := h.cells hn
  have hne : b2 ≠ g := by
    intro e
    subst e
    have h0 := hc 0 hn
    rw [cell_of_row w b2 _ _ _ _ hg] at h0
    exact hT _ _ h0
  refine ⟨b2, o2, hA, by simpa [World.setCell] using hb2, fun j hj => ?_⟩
  rw [World.cell?_setCell_other w _ _ u (by intro e; have := congrArg Addr.block e; simp at this; omega)]
  exact hc j hj
theorem no_u8_3 {A : Option Addr} {n c : Nat} {a e : Int} : ∀ (j : Nat) (x : Int), (#[Value.slice A n c, Value.int .i64 a, Value.int .i64 e] : Array Value)[j]? ≠ some (Value.int .u8 x) := by
  intro j x h
  match j, h with
  | 0, h => simp at h
  | 1, h => simp at h
  | 2, h => simp at h
  | j + 3, h => simp at h
/-- the document's reader is stored anew: rows of bytes stay -/
theorem Rd.put3 {w : World} {g : Nat} {T : TypeId} {A : Option Addr} {n c : Nat} {bs : List UInt8} {S : Option Addr} {p q : Nat} {a e a' e' : Int} (h : Rd w A n c bs) (hg : w.heap[g]? = some (.cells #[.slice S p q, .int .i64 a, .int .i64 e] T (0, 0))) :
    Rd (((w.setCell ⟨g, 0, none⟩ (.slice S p q)).setCell ⟨g, 1, none⟩ (.int .i64 a')).setCell ⟨g, 2, none⟩ (.int .i64 e')) A n c bs := by
  have h1 := heap_setCell_same w g 0 _ T (.slice S p q) hg
  have h2 := heap_setCell_same _ g 1 _ T (.int .i64 a') h1
  exact ((h.setFar hg no_u8_3).setFar h1 no_u8_3).setFar h2 no_u8_3
#print axioms Rd.put3
end Go.Proofs.Ytgplamfjemmfnaa
