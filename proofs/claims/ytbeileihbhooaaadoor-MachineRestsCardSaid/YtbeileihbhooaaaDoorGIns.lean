/-
  code: slices of instructions: read, of the call's own, appended to, come in.
-/
import Derived.Test.YtbeileihbhooaaaDoorGMem
import Derived.Test.YtbeileihbhooaaaDoorGOpen
import Derived.Laws.AppendOwn
import Derived.Laws.OwnMore
import Derived.Deep.Slices
namespace Go.Proofs.YtbeileihbhooaaaDoor
open Go.Joins Go.ChangeShapes Go.WideShapes Go.ChangeAt Go.RowKit Go.Deep

def noIns : Ins := ⟨0, 0, 0, 0⟩
/-- an instruction, as cells -/
def insA (i : Ins) : Array Value := #[.int .i64 i.o, .int .i64 i.a, .int .i64 i.b, .int .i64 i.c]
def II (xs : List Ins) : List Value := xs.flatMap fun x => (insA x).toList
theorem II_length : ∀ xs : List Ins, (II xs).length = xs.length * 4
  | [] => rfl
  | x :: xs => by
    have := II_length xs
    simp only [II, List.flatMap_cons, List.length_append, List.length_cons] at *
    rw [this]
    simp [insA]
    omega
theorem II_append (xs ys : List Ins) : II (xs ++ ys) = II xs ++ II ys := by simp [II]
theorem II_one (xs : List Ins) : ∀ u ∈ II xs, u.oneCell' = true := by
  intro u hu
  obtain ⟨x, _, hx⟩ := List.mem_flatMap.1 hu
  simp [insA] at hx
  rcases hx with rfl | rfl | rfl | rfl <;> rfl
theorem II_at : ∀ (xs : List Ins) (j i : Nat), j < xs.length → i < 4 → (II xs)[j * 4 + i]? = (insA (xs.getD j noIns))[i]?
  | [], _, _, h, _ => by simp at h
  | x :: xs, 0, i, _, hi => by
    show ((insA x).toList ++ II xs)[0 * 4 + i]? = _
    rw [Nat.zero_mul, Nat.zero_add, List.getElem?_append_left (by simp [insA]; omega), Array.getElem?_toList]
    rfl
  | x :: xs, j + 1, i, h, hi => by
    show ((insA x).toList ++ II xs)[(j + 1) * 4 + i]? = _
    rw [List.getElem?_append_right (by simp [insA]; omega)]
    have e : (j + 1) * 4 + i - (insA x).toList.length = j * 4 + i := by simp [insA]; omega
    rw [e, II_at xs j i (by simpa using h) hi]
    rfl

/-- a slice that reads as these instructions; it may be nil -/
structure RdS (w : World) (A : Option Addr) (n c : Nat) (xs : List Ins) : Prop where
  len : xs.length = n
  le : n ≤ c
  max : c ≤ 9223372036854775807
  cells : 0 < n → ∃ b o, A = some ⟨b, o, none⟩ ∧ b < w.heap.size ∧ ∀ j, j < n → ∀ i, i < 4 → w.cell? ⟨b, o + j * 4 + i, none⟩ = (insA (xs.getD j noIns))[i]?
  none_ : A = none → c = 0
theorem RdS.ext {w w' : World} {A : Option Addr} {n c : Nat} {xs : List Ins} (h : RdS w A n c xs) (k : Below w.heap.size w w') : RdS w' A n c xs :=
  ⟨h.len, h.le, h.max, fun hn => by
    obtain ⟨b, o, hA, hb, hc⟩ := h.cells hn
    exact ⟨b, o, hA, Nat.lt_of_lt_of_le hb k.size, fun j hj i hi => (k.cell (p := ⟨b, o + j * 4 + i, none⟩) hb).trans (hc j hj i hi)⟩, h.none_⟩
theorem RdS.at {w : World} {A : Option Addr} {n c : Nat} {xs : List Ins} (h : RdS w A n c xs) {k : Nat} (hk : k < n) : ∃ b o, A = some ⟨b, o, none⟩ ∧ b < w.heap.size ∧ w.cell? ⟨b, o + k * 4, none⟩ = some (.int .i64 (xs.getD k noIns).o) ∧ w.cell? ⟨b, o + k * 4 + 1, none⟩ = some (.int .i64 (xs.getD k noIns).a) ∧ w.cell? ⟨b, o + k * 4 + 2, none⟩ = some (.int .i64 (xs.getD k noIns).b) ∧ w.cell? ⟨b, o + k * 4 + 3, none⟩ = some (.int .i64 (xs.getD k noIns).c) := by
  obtain ⟨b, o, hA, hb, hc⟩ := h.cells (by omega)
  exact ⟨b, o, hA, hb, hc k hk 0 (by omega), hc k hk 1 (by omega), hc k hk 2 (by omega), hc k hk 3 (by omega)⟩
theorem RdS.nil (w : World) : RdS w none 0 0 [] := ⟨rfl, Nat.le_refl _, by omega, fun h => absurd h (by omega), fun _ => rfl⟩

/-- a row of the call's own, from block B on, of these instructions -/
structure OwnS (w : World) (E : TypeId) (B : Nat) (A : Option Addr) (n c : Nat) (xs : List Ins) : Prop where
  len : xs.length = n
  row : w.ownsRow B E 4 (.slice A n c) n (II xs)
theorem OwnS.void (w : World) (E : TypeId) (B : Nat) : OwnS w E B none 0 0 [] := ⟨rfl, World.ownsRow_nil w B E 4⟩
theorem OwnS.ext {w w' : World} {E : TypeId} {B : Nat} {A : Option Addr} {n c : Nat} {xs : List Ins} (h : OwnS w E B A n c xs) (k : Below w.heap.size w w') : OwnS w' E B A n c xs :=
  ⟨h.len, h.row.kept (grown_of_below k) (by cases A <;> simp [Value.ownBlock])⟩
theorem OwnS.rd {w : World} {E : TypeId} {B : Nat} {A : Option Addr} {n c : Nat} {xs : List Ins} (h : OwnS w E B A n c xs) : RdS w A n c xs := by
  rcases h.row.2 with ⟨hv, h1⟩ | ⟨g, cap, cur, hv, hb, hg, h1, h2, h3, h4⟩
  · injection hv with e1 e2 e3
    subst e1 e3
    exact ⟨h.len, by omega, by omega, fun h0 => by omega, fun _ => rfl⟩
  · injection hv with e1 e2 e3
    subst e1 e3
    refine ⟨h.len, h1, by simp only [maxLen] at h2; omega, fun h0 => ⟨g, 0, rfl, (Array.getElem?_eq_some_iff.1 hg).1, fun j hj i hi => ?_⟩, (fun e => by cases e)⟩
    have e := II_at xs j i (by rw [h.len]; exact hj) hi
    have hs : (insA (xs.getD j noIns))[i]? = some ((insA (xs.getD j noIns))[i]'(by simp [insA]; omega)) := Array.getElem?_eq_getElem _
    rw [hs] at e ⊢
    have := h.row.cells (g := g) rfl (j * 4 + i) _ e
    rw [Addr.add_lit] at this
    rw [Nat.zero_add] at this ⊢
    exact this

theorem wpList_pushS {w : World} {ops : Array Oper} {rest : List Oper} {o : Oper} {a : Act} {Q : Exit → Act → World → Prop} (T E : TypeId) (hT : Tryd.prog.underlying T = some (.slice E)) (hE : (Tryd.prog.info? E).map (fun i => (i.zero, i.size, i.bytes)) = some (some (.agg #[.int .i64 0, .int .i64 0, .int .i64 0, .int .i64 0]), 4, 32)) (hgd : o.guard = none) (s x : Operand)
    (ho : o.op = .call { callee := .builtin .append, args := #[s, x], argTypes := #[T, T] })
    (B : Nat) (A : Option Addr) (n c : Nat) (xs : List Ins) (hs : a.eval s = .slice A n c) (hown : OwnS w E B A n c xs) (y : Ins)
    (hx : a.eval x = .slice (some ⟨w.heap.size, 0, none⟩) 1 1) (hn : n < 1000000000) (hB : B ≤ w.heap.size)
    (h : ∀ A' c' w', OwnS w' E B A' (n + 1) c' (xs ++ [y]) → Below B w w' → wpList Tryd.prog ops Q rest (a.put o.dst (.slice A' (n + 1) c')) w') :
    wpList Tryd.prog ops Q (o :: rest) a (w.alloc (.cells #[.int .i64 y.o, .int .i64 y.a, .int .i64 y.b, .int .i64 y.c] E)) := by
  obtain ⟨i0, hi, hz0, hz1, hz2⟩ := info_parts hE
  refine wpList_append_own _ hgd s x T ho B E i0 _ 4 32 hT hi hz0 hz1 hz2 rfl (by omega) _ n (II xs) hs (hown.row.alloc _) ⟨w.heap.size, 0, none⟩ 1 1 (II [y]) hx (II_length [y]) (fun j u hu => ?_) (II_one _) (by simp only [maxLen]; omega) (by omega) (by simp; omega) ?_
  · rw [Addr.add_lit]
    have e := cell_of_row (w.alloc (.cells (insA y) E)) w.heap.size (0 + j) (insA y) _ _ (Go.heap_alloc_new w _)
    have e2 : (w.alloc (.cells (insA y) E)).cell? ⟨w.heap.size, 0 + j, none⟩ = some u := by
      rw [e, Nat.zero_add, ← Array.getElem?_toList]
      simpa [II] using hu
    exact e2
  · intro v' w' ho' hg' _
    have hb := Below.grown ((Below.refl B w).alloc hB (.cells #[.int .i64 y.o, .int .i64 y.a, .int .i64 y.b, .int .i64 y.c] E)) hg' (by simp; omega) (fun k hk => (hown.row.lt k hk).1)
    rcases ho'.2 with ⟨rfl, h0⟩ | ⟨g, cap, cur, rfl, _⟩
    · omega
    · exact h _ _ w' ⟨by rw [List.length_append, hown.len]; rfl, by rw [II_append]; exact ho'⟩ hb

section
variable {H : Type} {enc : TypeId × Value → H}
set_option maxRecDepth 100000 in
theorem open_instrs {W : World} {base : Nat} {v : Value} {d : DataW H} {p : List MemPlace}
    (hv : Value.okWide Tryd.prog W .any base 22 v) (h : DataW.Trod enc Tryd.prog W 0 (fun _ => true) true 22 v d p) : ∃ A n c xs, v = .slice A n c ∧ RdS W A n c xs ∧ ∀ x ∈ xs, x.ok := by
  have ht := Tryd.underlying22
  have hce : Tryd.prog.cellsOf 58 = 4 := by kernel_rfl
  have hci : Tryd.prog.cellsOf 3 = 1 := by kernel_rfl
  obtain ⟨A, n, c, rfl⟩ := okWide_slice ht hv
  obtain ⟨fuel, hf⟩ := h
  rcases open_slice ht hf with ⟨hcs, _⟩ | ⟨a, len, cap, m, k, D, Pl, hcs, _, hl, hm, hmm, _, hi⟩
  · simp [Value.cells] at hcs
    obtain ⟨rfl, rfl, rfl⟩ := hcs
    exact ⟨none, 0, 0, [], rfl, RdS.nil W, by simp⟩
  · simp [Value.cells] at hcs
    obtain ⟨rfl, rfl, rfl⟩ := hcs
    simp only [if_true] at hmm
    have hm' : c ≤ 9223372036854775807 := by simp only [maxLen] at hm; omega
    have ex : ∀ i, ∃ x : Ins, i < n → x.ok ∧ ∀ j, j < 4 → W.cell? ((a.add (i * 4)).add j) = (insA x)[j]? := fun i => by
      by_cases hin : i < n
      · obtain ⟨cs', h1, h2⟩ := hi i (by omega)
        rw [hce] at h1
        obtain ⟨_, hcl, hat⟩ := World.cells?_some h1
        obtain ⟨y0, y1, y2, y3, m2, _, _, g0, g1, g2, g3⟩ := trod_struct4 Tryd.underlying58 h2
        dsimp only at g0 g1 g2 g3
        rw [hci] at g0 g1 g2 g3
        match cs', hcl with
        | [c0, c1, c2, c3], _ =>
          obtain ⟨p0, e0, _, w0⟩ := DataW.trod_int Tryd.underlying3 (show DataW.trod _ _ _ _ _ _ _ _ [c0] = some y0 from g0)
          obtain ⟨p1, e1, _, w1⟩ := DataW.trod_int Tryd.underlying3 (show DataW.trod _ _ _ _ _ _ _ _ [c1] = some y1 from g1)
          obtain ⟨p2, e2, _, w2⟩ := DataW.trod_int Tryd.underlying3 (show DataW.trod _ _ _ _ _ _ _ _ [c2] = some y2 from g2)
          obtain ⟨p3, e3, _, w3⟩ := DataW.trod_int Tryd.underlying3 (show DataW.trod _ _ _ _ _ _ _ _ [c3] = some y3 from g3)
          injection e0 with e0; injection e1 with e1; injection e2 with e2; injection e3 with e3
          subst e0 e1 e2 e3
          refine ⟨⟨p0, p1, p2, p3⟩, fun _ => ⟨⟨in64_of w0, in64_of w1, in64_of w2, in64_of w3⟩, fun j hj => ?_⟩⟩
          rw [hat j hj]
          rcases (by omega : j = 0 ∨ j = 1 ∨ j = 2 ∨ j = 3) with rfl | rfl | rfl | rfl <;> rfl
      · exact ⟨noIns, fun h => absurd h hin⟩
    obtain ⟨f, hf'⟩ := Classical.axiomOfChoice ex
    refine ⟨some a, n, c, (List.range n).map f, rfl, ⟨by simp, hl, hm', fun h0 => ?_, fun h => (by cases h)⟩, fun x hx => ?_⟩
    · obtain ⟨b, off, spot⟩ := a
      have h00 := (hf' 0 h0).2 0 (by omega)
      have hspot : spot = none := by simpa [Addr.add] using World.cell?_spot h00
      subst hspot
      have hblk := World.block_lt_of_cell? _ _ h00
      refine ⟨b, off, rfl, by simpa [Addr.add] using hblk, fun j hj i hi8 => ?_⟩
      have h2 := (hf' j hj).2 i hi8
      rw [Addr.add_lit, Addr.add_lit] at h2
      rw [h2]
      simp [hj]
    · obtain ⟨i, hi', rfl⟩ := List.mem_map.1 hx
      exact (hf' i (by simpa using hi')).1
end
theorem infoCI : (Tryd.prog.info? 57).map (fun i => (i.zero, i.size, i.bytes)) = some (some (.agg #[.int .i64 0, .int .i64 0, .int .i64 0, .int .i64 0]), 4, 32) := by kernel_rfl
theorem infoRI : (Tryd.prog.info? 58).map (fun i => (i.zero, i.size, i.bytes)) = some (some (.agg #[.int .i64 0, .int .i64 0, .int .i64 0, .int .i64 0]), 4, 32) := by kernel_rfl
#print axioms open_instrs
#print axioms wpList_pushS
end Go.Proofs.YtbeileihbhooaaaDoor
