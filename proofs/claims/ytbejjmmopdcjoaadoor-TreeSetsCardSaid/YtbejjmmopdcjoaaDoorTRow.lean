/-
  tree: rows of digests that are made and filled.
-/
import Derived.Test.YtbejjmmopdcjoaaDoorTWord
import Derived.Test.YtbejjmmopdcjoaaDoorHDigs
namespace Go.Proofs.YtbejjmmopdcjoaaDoor
open Go.ChangeShapes Go.WideShapes Go.ChangeAt Go.RowKit Go.Deep

/-- a row of c digests in block b, of which the first k are those of f -/
structure RowK (w : World) (E : TypeId) (b c : Nat) (f : Nat → Nat) (k : Nat) : Prop where
  max : c ≤ 9223372036854775807
  blk : ∃ cur : Array Value, w.heap[b]? = some (.cells cur E (0, 0)) ∧ cur.size = c * 8 ∧ ∀ j, j < k → ∀ i, i < 8 → cur[j * 8 + i]? = some (.int .u8 (byt (f j) i))
theorem RowK.lt {w : World} {E : TypeId} {b c : Nat} {f : Nat → Nat} {k : Nat} (h : RowK w E b c f k) : b < w.heap.size := by
  obtain ⟨cur, h1, _⟩ := h.blk
  exact (Array.getElem?_eq_some_iff.1 h1).1
theorem RowK.keep {w w' : World} {E : TypeId} {b c : Nat} {f : Nat → Nat} {k : Nat} (h : RowK w E b c f k) (hb : w'.heap[b]? = w.heap[b]?) : RowK w' E b c f k := by
  obtain ⟨cur, h1, h2⟩ := h.blk
  exact ⟨h.max, cur, hb.trans h1, h2⟩
theorem RowK.ext {w w' : World} {E : TypeId} {b c : Nat} {f : Nat → Nat} {k : Nat} (h : RowK w E b c f k) (hb : Below w.heap.size w w') : RowK w' E b c f k := h.keep (hb.block b h.lt)
theorem RowK.cell {w : World} {E : TypeId} {b c : Nat} {f : Nat → Nat} {k : Nat} (h : RowK w E b c f k) {i : Nat} (hi : i < c * 8) : ∃ y : Value, w.cell? ⟨b, i, none⟩ = some y := by
  obtain ⟨cur, h1, h2, _⟩ := h.blk
  exact ⟨cur[i]'(by omega), by rw [cell_of_row w b i _ _ _ h1]; exact Array.getElem?_eq_getElem _⟩
theorem RowK.free {w : World} {E : TypeId} {b c : Nat} {f : Nat → Nat} {k : Nat} (h : RowK w E b c f k) (i : Nat) : w.frozen? ⟨b, i, none⟩ = false := by
  obtain ⟨cur, h1, _⟩ := h.blk
  simp [World.frozen?, h1]
/-- what a walk wants to know of the place of one of them -/
theorem RowK.place {w : World} {E : TypeId} {b c : Nat} {f : Nat → Nat} {k : Nat} (h : RowK w E b c f k) {j : Nat} (hj : j < c) : ∃ y0 y1 y2 y3 y4 y5 y6 y7 : Value, w.cell? ⟨b, j * 8, none⟩ = some y0 ∧ w.cell? ⟨b, j * 8 + 1, none⟩ = some y1 ∧ w.cell? ⟨b, j * 8 + 2, none⟩ = some y2 ∧ w.cell? ⟨b, j * 8 + 3, none⟩ = some y3 ∧ w.cell? ⟨b, j * 8 + 4, none⟩ = some y4 ∧ w.cell? ⟨b, j * 8 + 5, none⟩ = some y5 ∧ w.cell? ⟨b, j * 8 + 6, none⟩ = some y6 ∧ w.cell? ⟨b, j * 8 + 7, none⟩ = some y7 ∧ w.frozen? ⟨b, j * 8, none⟩ = false ∧ w.frozen? ⟨b, j * 8 + 1, none⟩ = false ∧ w.frozen? ⟨b, j * 8 + 2, none⟩ = false ∧ w.frozen? ⟨b, j * 8 + 3, none⟩ = false ∧ w.frozen? ⟨b, j * 8 + 4, none⟩ = false ∧ w.frozen? ⟨b, j * 8 + 5, none⟩ = false ∧ w.frozen? ⟨b, j * 8 + 6, none⟩ = false ∧ w.frozen? ⟨b, j * 8 + 7, none⟩ = false := by
  obtain ⟨y0, e0⟩ := h.cell (i := j * 8) (by omega)
  obtain ⟨y1, e1⟩ := h.cell (i := j * 8 + 1) (by omega)
  obtain ⟨y2, e2⟩ := h.cell (i := j * 8 + 2) (by omega)
  obtain ⟨y3, e3⟩ := h.cell (i := j * 8 + 3) (by omega)
  obtain ⟨y4, e4⟩ := h.cell (i := j * 8 + 4) (by omega)
  obtain ⟨y5, e5⟩ := h.cell (i := j * 8 + 5) (by omega)
  obtain ⟨y6, e6⟩ := h.cell (i := j * 8 + 6) (by omega)
  obtain ⟨y7, e7⟩ := h.cell (i := j * 8 + 7) (by omega)
  exact ⟨y0, y1, y2, y3, y4, y5, y6, y7, e0, e1, e2, e3, e4, e5, e6, e7, h.free _, h.free _, h.free _, h.free _, h.free _, h.free _, h.free _, h.free _⟩
theorem RowK.put {w : World} {E : TypeId} {b c : Nat} {f f' : Nat → Nat} {k k' j x : Nat} (h : RowK w E b c f k) (hj : j < c) (hx : f' j = x) (hf : ∀ l, l < k' → l ≠ j → l < k ∧ f' l = f l) : RowK (World.setCell (World.setCell (World.setCell (World.setCell (World.setCell (World.setCell (World.setCell (World.setCell w ⟨b, j * 8, none⟩ (.int .u8 (byt x 0))) ⟨b, j * 8 + 1, none⟩ (.int .u8 (byt x 1))) ⟨b, j * 8 + 2, none⟩ (.int .u8 (byt x 2))) ⟨b, j * 8 + 3, none⟩ (.int .u8 (byt x 3))) ⟨b, j * 8 + 4, none⟩ (.int .u8 (byt x 4))) ⟨b, j * 8 + 5, none⟩ (.int .u8 (byt x 5))) ⟨b, j * 8 + 6, none⟩ (.int .u8 (byt x 6))) ⟨b, j * 8 + 7, none⟩ (.int .u8 (byt x 7))) E b c f' k' := by
  obtain ⟨cur, h1, h2, h4⟩ := h.blk
  refine ⟨h.max, ((((((((cur.setIfInBounds (j * 8) (.int .u8 (byt x 0))).setIfInBounds (j * 8 + 1) (.int .u8 (byt x 1))).setIfInBounds (j * 8 + 2) (.int .u8 (byt x 2))).setIfInBounds (j * 8 + 3) (.int .u8 (byt x 3))).setIfInBounds (j * 8 + 4) (.int .u8 (byt x 4))).setIfInBounds (j * 8 + 5) (.int .u8 (byt x 5))).setIfInBounds (j * 8 + 6) (.int .u8 (byt x 6))).setIfInBounds (j * 8 + 7) (.int .u8 (byt x 7))), ?_, by simpa using h2, fun l hl i hi => ?_⟩
  · exact (heap_set_same _ (heap_set_same _ (heap_set_same _ (heap_set_same _ (heap_set_same _ (heap_set_same _ (heap_set_same _ (heap_set_same _ h1))))))))
  · by_cases hlj : l = j
    · subst hlj
      subst hx
      simp only [Array.getElem?_setIfInBounds, Array.size_setIfInBounds, h2]
      match i, hi with
      | 0, _ => simp; omega
      | 1, _ => simp; omega
      | 2, _ => simp; omega
      | 3, _ => simp; omega
      | 4, _ => simp; omega
      | 5, _ => simp; omega
      | 6, _ => simp; omega
      | 7, _ => simp; omega
    · obtain ⟨hl2, hfe⟩ := hf l hl hlj
      have h5 := h4 l hl2 i hi
      rw [hfe]
      simp only [Array.getElem?_setIfInBounds, Array.size_setIfInBounds, h2]
      rw [if_neg (by omega), if_neg (by omega), if_neg (by omega), if_neg (by omega), if_neg (by omega), if_neg (by omega), if_neg (by omega), if_neg (by omega)]
      exact h5
theorem RowK.on {w : World} {E : TypeId} {b c : Nat} {f : Nat → Nat} {j x : Nat} (h : RowK w E b c f j) (hj : j < c) (hx : x = f j) : RowK (World.setCell (World.setCell (World.setCell (World.setCell (World.setCell (World.setCell (World.setCell (World.setCell w ⟨b, j * 8, none⟩ (.int .u8 (byt x 0))) ⟨b, j * 8 + 1, none⟩ (.int .u8 (byt x 1))) ⟨b, j * 8 + 2, none⟩ (.int .u8 (byt x 2))) ⟨b, j * 8 + 3, none⟩ (.int .u8 (byt x 3))) ⟨b, j * 8 + 4, none⟩ (.int .u8 (byt x 4))) ⟨b, j * 8 + 5, none⟩ (.int .u8 (byt x 5))) ⟨b, j * 8 + 6, none⟩ (.int .u8 (byt x 6))) ⟨b, j * 8 + 7, none⟩ (.int .u8 (byt x 7))) E b c f (j + 1) := h.put hj hx.symm (fun l hl hne => ⟨by omega, rfl⟩)
theorem below_row {w0 w : World} {B b j : Nat} {x : Nat} (k : Below B w0 w) (hB : B ≤ w0.heap.size) (hb : B ≤ b) : Below B w0 (World.setCell (World.setCell (World.setCell (World.setCell (World.setCell (World.setCell (World.setCell (World.setCell w ⟨b, j * 8, none⟩ (.int .u8 (byt x 0))) ⟨b, j * 8 + 1, none⟩ (.int .u8 (byt x 1))) ⟨b, j * 8 + 2, none⟩ (.int .u8 (byt x 2))) ⟨b, j * 8 + 3, none⟩ (.int .u8 (byt x 3))) ⟨b, j * 8 + 4, none⟩ (.int .u8 (byt x 4))) ⟨b, j * 8 + 5, none⟩ (.int .u8 (byt x 5))) ⟨b, j * 8 + 6, none⟩ (.int .u8 (byt x 6))) ⟨b, j * 8 + 7, none⟩ (.int .u8 (byt x 7))) := (below_set (below_set (below_set (below_set (below_set (below_set (below_set (below_set k hB hb) hB hb) hB hb) hB hb) hB hb) hB hb) hB hb) hB hb)
theorem DD_get : ∀ (xs : List Nat) (p : Nat), p < xs.length * 8 → (DD xs)[p]? = some (.int .u8 (byt (xs.getD (p / 8) 0) (p % 8))) := by
  intro xs p hp
  have e := DD_at xs (p / 8) (p % 8) (by omega) (by omega)
  rw [show p / 8 * 8 + p % 8 = p by omega] at e
  exact e
theorem RowK.own {w : World} {E : TypeId} {b c : Nat} {f : Nat → Nat} {k B : Nat} (h : RowK w E b c f k) (hk : k ≤ c) (hB : B ≤ b) (xs : List Nat) (hl : xs.length = k) (hf : ∀ j, j < k → f j = xs.getD j 0) (hs : ∀ x ∈ xs, x < 18446744073709551616) : OwnD w E B (some ⟨b, 0, none⟩) k c xs := by
  obtain ⟨cur, h1, h2, h4⟩ := h.blk
  refine ⟨hl, ⟨by rw [DD_length, hl], .inr ⟨b, c, cur, rfl, hB, h1, hk, by unfold maxLen; exact h.max, h2, ?_⟩⟩, hs⟩
  apply List.ext_getElem?
  intro p
  by_cases hp : p < k * 8
  · rw [List.getElem?_take_of_lt hp, Array.getElem?_toList, DD_get xs p (by omega), ← hf (p / 8) (by omega)]
    have e := h4 (p / 8) (by omega) (p % 8) (by omega)
    rw [show p / 8 * 8 + p % 8 = p by omega] at e
    exact e
  · rw [List.getElem?_eq_none (by rw [List.length_take]; omega), List.getElem?_eq_none (by rw [DD_length]; omega)]
theorem OwnD.rowK {w : World} {E : TypeId} {B b n c : Nat} {xs : List Nat} (h : OwnD w E B (some ⟨b, 0, none⟩) n c xs) : RowK w E b c (fun j => xs.getD j 0) n ∧ B ≤ b ∧ n ≤ c := by
  rcases h.row.2 with ⟨hv, h1⟩ | ⟨g, cap, cur, hv, hb, hg, h1, h2, h3, h4⟩
  · cases hv
  · injection hv with e1 e2 e3
    injection e1 with e1
    injection e1 with e1 _ _
    subst e1 e3
    refine ⟨⟨by unfold maxLen at h2; exact h2, cur, hg, h3, fun j hj i hi => ?_⟩, hb, h1⟩
    have e := DD_at xs j i (by rw [h.len]; exact hj) hi
    rw [← h4, List.getElem?_take_of_lt (by omega), Array.getElem?_toList] at e
    exact e
theorem OwnD.block {w : World} {E : TypeId} {B : Nat} {A : Option Addr} {n c : Nat} {xs : List Nat} (h : OwnD w E B A n c xs) (hn : 0 < n) : ∃ b, A = some ⟨b, 0, none⟩ ∧ B ≤ b ∧ b < w.heap.size ∧ n ≤ c := by
  rcases h.row.2 with ⟨hv, h1⟩ | ⟨g, cap, cur, hv, hb, hg, h1, _⟩
  · omega
  · injection hv with e1 e2 e3
    subst e3
    exact ⟨g, e1, hb, (Array.getElem?_eq_some_iff.1 hg).1, h1⟩
theorem OwnD.keep {w w' : World} {E : TypeId} {B b n c : Nat} {xs : List Nat} (h : OwnD w E B (some ⟨b, 0, none⟩) n c xs) (hb : w'.heap[b]? = w.heap[b]?) : OwnD w' E B (some ⟨b, 0, none⟩) n c xs := by
  obtain ⟨k1, k2, k3⟩ := h.rowK
  exact (k1.keep hb).own k3 k2 xs h.len (fun _ _ => rfl) h.small
theorem OwnD.low {w : World} {E : TypeId} {B B' : Nat} {A : Option Addr} {n c : Nat} {xs : List Nat} (h : OwnD w E B A n c xs) (hb : B' ≤ B) : OwnD w E B' A n c xs :=
  ⟨h.len, ⟨h.row.1, h.row.2.imp id (fun ⟨g, cap, cur, e1, e2, e3⟩ => ⟨g, cap, cur, e1, Nat.le_trans hb e2, e3⟩)⟩, h.small⟩

/-- make([]D, n, c) -/
theorem wpList_makeD {w : World} {ops : Array Oper} {rest : List Oper} {o : Oper} {a : Act} {Q : Exit → Act → World → Prop} (hg : o.guard = none) (l k : Operand) (hop : o.op = Op.makeSlice 23 l k) (n c : Nat)
    (hl : a.eval l = .int .i64 (n : Int)) (hc : a.eval k = .int .i64 (c : Int)) (hnc : n ≤ c) (hb : c ≤ 1000000000000)
    (h : ∀ w', RowK w' 26 w.heap.size c (fun _ => 0) 0 → Below w.heap.size w w' → wpList Tryd.prog ops Q rest (a.put o.dst (.slice (some ⟨w.heap.size, 0, none⟩) n c)) w') :
    wpList Tryd.prog ops Q (o :: rest) a w := by
  obtain ⟨i0, hi, hz0, hz1, hz2⟩ := info_parts infoD
  refine wpList_plain hg fun K hK' => ?_
  have hrun := run_make (P := Tryd.prog) w 23 26 i0 _ Tryd.underlying23 hi hz0 .i64 .i64 n c (by omega) (by omega) (by rw [hz2]; omega) (by omega)
  simp only [Int.toNat_natCast, hz1] at hrun
  unfold Oper.wp
  simp [execOp, hop, hl, hc, hrun, Result.andThen]
  exact hK' _ _ (h _ ⟨by omega, _, Go.heap_alloc_new w _, size_madeCells _ _, fun j hj => by omega⟩ (ext_alloc _ _))

/-- append of one digest to a row of the call's own; whatever the element's type is called -/
theorem wpList_pushE {w : World} {ops : Array Oper} {rest : List Oper} {o : Oper} {a : Act} {Q : Exit → Act → World → Prop} (hgd : o.guard = none) (s x : Operand) (t e : TypeId)
    (ho : o.op = .call { callee := .builtin .append, args := #[s, x], argTypes := #[t, t] }) (ht : Tryd.prog.underlying t = some (.slice e))
    (hinfo : (Tryd.prog.info? e).map (fun i => (i.zero, i.size, i.bytes)) = some (some (.agg #[.int .u8 0, .int .u8 0, .int .u8 0, .int .u8 0, .int .u8 0, .int .u8 0, .int .u8 0, .int .u8 0]), 8, 8))
    (B : Nat) (A : Option Addr) (n c : Nat) (xs : List Nat) (hs : a.eval s = .slice A n c) (hown : OwnD w e B A n c xs) (y : Nat) (hy : y < 18446744073709551616)
    (hx : a.eval x = .slice (some ⟨w.heap.size, 0, none⟩) 1 1) (hn : n < 1000000000) (hB : B ≤ w.heap.size)
    (h : ∀ A' c' w', OwnD w' e B A' (n + 1) c' (xs ++ [y]) → Below B w w' → wpList Tryd.prog ops Q rest (a.put o.dst (.slice A' (n + 1) c')) w') :
    wpList Tryd.prog ops Q (o :: rest) a (w.alloc (.cells #[.int .u8 (byt y 0), .int .u8 (byt y 1), .int .u8 (byt y 2), .int .u8 (byt y 3), .int .u8 (byt y 4), .int .u8 (byt y 5), .int .u8 (byt y 6), .int .u8 (byt y 7)] e)) := by
  obtain ⟨i0, hi, hz0, hz1, hz2⟩ := info_parts hinfo
  refine wpList_append_own _ hgd s x t ho B e i0 _ 8 8 ht hi hz0 hz1 hz2 rfl (by omega) _ n (DD xs) hs (hown.row.alloc _) ⟨w.heap.size, 0, none⟩ 1 1 (DD [y]) hx (DD_length [y]) (fun j u hu => ?_) (DD_one _) (by simp only [maxLen]; omega) (by omega) (by simp; omega) ?_
  · rw [Addr.add_lit]
    have e1 := cell_of_row (w.alloc (.cells (digA y) e)) w.heap.size (0 + j) (digA y) _ _ (Go.heap_alloc_new w _)
    have e2 : (w.alloc (.cells (digA y) e)).cell? ⟨w.heap.size, 0 + j, none⟩ = some u := by
      rw [e1, Nat.zero_add, ← Array.getElem?_toList]
      simpa [DD] using hu
    exact e2
  · intro v' w' ho' hg' _
    have hb := Below.grown ((Below.refl B w).alloc hB (.cells #[.int .u8 (byt y 0), .int .u8 (byt y 1), .int .u8 (byt y 2), .int .u8 (byt y 3), .int .u8 (byt y 4), .int .u8 (byt y 5), .int .u8 (byt y 6), .int .u8 (byt y 7)] e)) hg' (by simp; omega) (fun k hk => (hown.row.lt k hk).1)
    rcases ho'.2 with ⟨rfl, h0⟩ | ⟨g, cap, cur, rfl, _⟩
    · omega
    · exact h _ _ w' ⟨by rw [List.length_append, hown.len]; rfl, by rw [DD_append]; exact ho', fun z hz => by
        rcases List.mem_append.1 hz with hz | hz
        · exact hown.small z hz
        · simp at hz; rw [hz]; exact hy⟩ hb
theorem infoR : (Tryd.prog.info? 25).map (fun i => (i.zero, i.size, i.bytes)) = some (some (.agg #[.int .u8 0, .int .u8 0, .int .u8 0, .int .u8 0, .int .u8 0, .int .u8 0, .int .u8 0, .int .u8 0]), 8, 8) := by kernel_rfl
#print axioms wpList_pushE
#print axioms wpList_makeD
#print axioms RowK.own
end Go.Proofs.YtbejjmmopdcjoaaDoor
