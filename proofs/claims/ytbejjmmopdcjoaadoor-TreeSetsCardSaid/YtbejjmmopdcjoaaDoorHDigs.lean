/-
  hash: rows of digests of the call's own; slices of digests that came in.
-/
import Derived.Test.YtbejjmmopdcjoaaDoorHManyR
import Derived.Test.YtbejjmmopdcjoaaDoorHFrame
import Derived.Test.YtbejjmmopdcjoaaDoorHEq
import Derived.Laws.AppendOwn
import Derived.Laws.OwnMore
import Derived.Deep.Slices
namespace Go.Proofs.YtbejjmmopdcjoaaDoor
open Go.ChangeShapes Go.WideShapes Go.ChangeAt Go.RowKit Go.Deep

/-- digests, as cells -/
def DD (xs : List Nat) : List Value := xs.flatMap fun x => (digA x).toList
theorem DD_length : ∀ xs : List Nat, (DD xs).length = xs.length * 8
  | [] => rfl
  | x :: xs => by
    have := DD_length xs
    simp only [DD, List.flatMap_cons, List.length_append, List.length_cons] at *
    rw [this]
    simp [digA]
    omega
theorem DD_append (xs ys : List Nat) : DD (xs ++ ys) = DD xs ++ DD ys := by simp [DD]
theorem DD_one (xs : List Nat) : ∀ u ∈ DD xs, u.oneCell' = true := by
  intro u hu
  obtain ⟨x, _, hx⟩ := List.mem_flatMap.1 hu
  simp [digA] at hx
  rcases hx with rfl | rfl | rfl | rfl | rfl | rfl | rfl | rfl <;> rfl
theorem DD_at : ∀ (xs : List Nat) (j i : Nat), j < xs.length → i < 8 → (DD xs)[j * 8 + i]? = some (.int .u8 (byt (xs.getD j 0) i))
  | [], _, _, h, _ => by simp at h
  | x :: xs, 0, i, _, hi => by
    have h1 := digA_at x i hi
    rw [Nat.mul_one] at h1
    show ((digA x).toList ++ DD xs)[0 * 8 + i]? = _
    rw [Nat.zero_mul, Nat.zero_add, List.getElem?_append_left (by simp [digA]; omega), Array.getElem?_toList, h1]
    simp
  | x :: xs, j + 1, i, h, hi => by
    show ((digA x).toList ++ DD xs)[(j + 1) * 8 + i]? = _
    rw [List.getElem?_append_right (by simp [digA]; omega)]
    have e : (j + 1) * 8 + i - (digA x).toList.length = j * 8 + i := by simp [digA]; omega
    rw [e, DD_at xs j i (by simpa using h) hi]
    simp

/-- a row of the call's own, from block B on, of these digests -/
structure OwnD (w : World) (E : TypeId) (B : Nat) (A : Option Addr) (n c : Nat) (xs : List Nat) : Prop where
  len : xs.length = n
  row : w.ownsRow B E 8 (.slice A n c) n (DD xs)
  small : ∀ x ∈ xs, x < 18446744073709551616
theorem OwnD.void (w : World) (E : TypeId) (B : Nat) : OwnD w E B none 0 0 [] := ⟨rfl, World.ownsRow_nil w B E 8, by simp⟩
theorem OwnD.ext {w w' : World} {E : TypeId} {B : Nat} {A : Option Addr} {n c : Nat} {xs : List Nat} (h : OwnD w E B A n c xs) (k : Below w.heap.size w w') : OwnD w' E B A n c xs :=
  ⟨h.len, h.row.kept (grown_of_below k) (by cases A <;> simp [Value.ownBlock]), h.small⟩
theorem OwnD.rd {w : World} {E : TypeId} {B : Nat} {A : Option Addr} {n c : Nat} {xs : List Nat} (h : OwnD w E B A n c xs) : RdD w A n c xs := by
  rcases h.row.2 with ⟨hv, h1⟩ | ⟨g, cap, cur, hv, hb, hg, h1, h2, h3, h4⟩
  · injection hv with e1 e2 e3
    subst e1 e3
    exact ⟨h.len, by omega, by omega, fun h0 => by omega, fun _ => rfl, h.small⟩
  · injection hv with e1 e2 e3
    subst e1 e3
    refine ⟨h.len, h1, by simp only [maxLen] at h2; omega, fun h0 => ⟨g, 0, rfl, (Array.getElem?_eq_some_iff.1 hg).1, fun j hj i hi => ?_⟩, (fun e => by cases e), h.small⟩
    have := h.row.cells (g := g) rfl (j * 8 + i) _ (DD_at xs j i (by rw [h.len]; exact hj) hi)
    rw [Addr.add_lit] at this
    exact this

theorem infoD : (Tryd.prog.info? 26).map (fun i => (i.zero, i.size, i.bytes)) = some (some (.agg #[.int .u8 0, .int .u8 0, .int .u8 0, .int .u8 0, .int .u8 0, .int .u8 0, .int .u8 0, .int .u8 0]), 8, 8) := by kernel_rfl

theorem wpList_pushD {w : World} {ops : Array Oper} {rest : List Oper} {o : Oper} {a : Act} {Q : Exit → Act → World → Prop} (hgd : o.guard = none) (s x : Operand)
    (ho : o.op = .call { callee := .builtin .append, args := #[s, x], argTypes := #[23, 23] })
    (B : Nat) (A : Option Addr) (n c : Nat) (xs : List Nat) (hs : a.eval s = .slice A n c) (hown : OwnD w 26 B A n c xs) (y : Nat) (hy : y < 18446744073709551616)
    (hx : a.eval x = .slice (some ⟨w.heap.size, 0, none⟩) 1 1) (hn : n < 1000000000) (hB : B ≤ w.heap.size)
    (h : ∀ A' c' w', OwnD w' 26 B A' (n + 1) c' (xs ++ [y]) → Below B w w' → wpList Tryd.prog ops Q rest (a.put o.dst (.slice A' (n + 1) c')) w') :
    wpList Tryd.prog ops Q (o :: rest) a (w.alloc (.cells #[.int .u8 (byt y 0), .int .u8 (byt y 1), .int .u8 (byt y 2), .int .u8 (byt y 3), .int .u8 (byt y 4), .int .u8 (byt y 5), .int .u8 (byt y 6), .int .u8 (byt y 7)] 26)) := by
  obtain ⟨i0, hi, hz0, hz1, hz2⟩ := info_parts infoD
  refine wpList_append_own _ hgd s x 23 ho B 26 i0 _ 8 8 Tryd.underlying23 hi hz0 hz1 hz2 rfl (by omega) _ n (DD xs) hs (hown.row.alloc _) ⟨w.heap.size, 0, none⟩ 1 1 (DD [y]) hx (DD_length [y]) (fun j u hu => ?_) (DD_one _) (by simp only [maxLen]; omega) (by omega) (by simp; omega) ?_
  · rw [Addr.add_lit]
    have e := cell_of_row (w.alloc (.cells (digA y) 26)) w.heap.size (0 + j) (digA y) _ _ (Go.heap_alloc_new w _)
    have e2 : (w.alloc (.cells (digA y) 26)).cell? ⟨w.heap.size, 0 + j, none⟩ = some u := by
      rw [e, Nat.zero_add, ← Array.getElem?_toList]
      simpa [DD] using hu
    exact e2
  · intro v' w' ho' hg' _
    have hb := Below.grown ((Below.refl B w).alloc hB (.cells #[.int .u8 (byt y 0), .int .u8 (byt y 1), .int .u8 (byt y 2), .int .u8 (byt y 3), .int .u8 (byt y 4), .int .u8 (byt y 5), .int .u8 (byt y 6), .int .u8 (byt y 7)] 26)) hg' (by simp; omega) (fun k hk => (hown.row.lt k hk).1)
    rcases ho'.2 with ⟨rfl, h0⟩ | ⟨g, cap, cur, rfl, _⟩
    · omega
    · exact h _ _ w' ⟨by rw [List.length_append, hown.len]; rfl, by rw [DD_append]; exact ho', fun z hz => by
        rcases List.mem_append.1 hz with hz | hz
        · exact hown.small z hz
        · simp at hz; rw [hz]; exact hy⟩ hb

section
variable {H : Type} {enc : TypeId × Value → H}
set_option maxRecDepth 100000 in
theorem dig_cells {e u : TypeId} (he : Tryd.prog.underlying e = some (.array 8 u)) (hu : Tryd.prog.underlying u = some (.int .u8)) (hcu : Tryd.prog.cellsOf u = 1) {W : World} {base fuel : Nat} {sp : Nat → Bool} {held : Bool} {l : List Value} {x : DataW H × List MemPlace} (hl8 : l.length = 8)
    (h : DataW.trod enc Tryd.prog W base sp held fuel e l = some x) : ∃ n : Nat, n < 18446744073709551616 ∧ l = (digA n).toList := by
  obtain ⟨xs, m, _, _, hl, hx, hi⟩ := DataW.trod_array he h
  have key : ∀ i, i < 8 → ∃ b : Int, l[i]? = some (.int .u8 b) ∧ 0 ≤ b ∧ b < 256 := fun i hi8 => by
    have h1 := hi i hi8
    rw [hcu, Nat.mul_one] at h1
    have hsome : xs[i]? = some (xs[i]'(by omega)) := List.getElem?_eq_getElem (by omega)
    rw [hsome] at h1
    obtain ⟨b, hb, _, hw⟩ := DataW.trod_int hu h1
    simp [Lit.wf, IntKind.min, IntKind.max, IntKind.signed, IntKind.bits] at hw
    refine ⟨b, ?_, by omega, by omega⟩
    rw [List.drop_eq_getElem_cons (by omega)] at hb
    injection hb with hb
    rw [List.getElem?_eq_getElem (by omega), hb]
  match l, hl8, key with
  | [c0, c1, c2, c3, c4, c5, c6, c7], _, key =>
    obtain ⟨b0, g0, l0⟩ := key 0 (by omega)
    obtain ⟨b1, g1, l1⟩ := key 1 (by omega)
    obtain ⟨b2, g2, l2⟩ := key 2 (by omega)
    obtain ⟨b3, g3, l3⟩ := key 3 (by omega)
    obtain ⟨b4, g4, l4⟩ := key 4 (by omega)
    obtain ⟨b5, g5, l5⟩ := key 5 (by omega)
    obtain ⟨b6, g6, l6⟩ := key 6 (by omega)
    obtain ⟨b7, g7, l7⟩ := key 7 (by omega)
    obtain rfl : c0 = .int .u8 b0 := Option.some.inj g0
    obtain rfl : c1 = .int .u8 b1 := Option.some.inj g1
    obtain rfl : c2 = .int .u8 b2 := Option.some.inj g2
    obtain rfl : c3 = .int .u8 b3 := Option.some.inj g3
    obtain rfl : c4 = .int .u8 b4 := Option.some.inj g4
    obtain rfl : c5 = .int .u8 b5 := Option.some.inj g5
    obtain rfl : c6 = .int .u8 b6 := Option.some.inj g6
    obtain rfl : c7 = .int .u8 b7 := Option.some.inj g7
    obtain ⟨n, hn, hlt⟩ := dig_of l0 l1 l2 l3 l4 l5 l6 l7
    refine ⟨n, hlt, ?_⟩
    have : digV n = .agg (digA n) := rfl
    rw [this] at hn
    injection hn with hn
    rw [← hn]

set_option maxRecDepth 100000 in
theorem open_digs {t e u : TypeId} (ht : Tryd.prog.underlying t = some (.slice e)) (he : Tryd.prog.underlying e = some (.array 8 u)) (hu : Tryd.prog.underlying u = some (.int .u8)) (hcu : Tryd.prog.cellsOf u = 1) (hce : Tryd.prog.cellsOf e = 8) {W : World} {base : Nat} {v : Value} {d : DataW H} {p : List MemPlace}
    (hv : Value.okWide Tryd.prog W .any base t v) (h : DataW.Trod enc Tryd.prog W 0 (fun _ => true) true t v d p) : ∃ A n c xs, v = .slice A n c ∧ RdD W A n c xs := by
  obtain ⟨A, n, c, rfl⟩ := okWide_slice ht hv
  obtain ⟨fuel, hf⟩ := h
  rcases open_slice ht hf with ⟨hcs, _⟩ | ⟨a, len, cap, m, k, D, Pl, hcs, _, hl, hm, hmm, _, hi⟩
  · simp [Value.cells] at hcs
    obtain ⟨rfl, rfl, rfl⟩ := hcs
    exact ⟨none, 0, 0, [], rfl, rfl, Nat.le_refl _, by omega, fun h => by omega, fun _ => rfl, by simp⟩
  · simp [Value.cells] at hcs
    obtain ⟨rfl, rfl, rfl⟩ := hcs
    simp only [if_true] at hmm
    have hm' : c ≤ 9223372036854775807 := by simp only [maxLen] at hm; omega
    have ex : ∀ i, ∃ x : Nat, i < n → x < 18446744073709551616 ∧ ∀ j, j < 8 → W.cell? ((a.add (i * 8)).add j) = some (.int .u8 (byt x j)) := fun i => by
      by_cases hin : i < n
      · obtain ⟨cs', h1, h2⟩ := hi i (by omega)
        rw [hce] at h1
        obtain ⟨_, hcl, hat⟩ := World.cells?_some h1
        obtain ⟨x, hx, hl'⟩ := dig_cells he hu hcu hcl h2
        refine ⟨x, fun _ => ⟨hx, fun j hj => ?_⟩⟩
        rw [hat j hj, hl', Array.getElem?_toList]
        have := digA_at x j hj
        rw [Nat.mul_one] at this
        exact this
      · exact ⟨0, fun h => absurd h hin⟩
    obtain ⟨f, hf'⟩ := Classical.axiomOfChoice ex
    refine ⟨some a, n, c, (List.range n).map f, rfl, by simp, hl, hm', fun h0 => ?_, fun h => (by cases h), fun x hx => ?_⟩
    · obtain ⟨b, off, spot⟩ := a
      have h00 := (hf' 0 h0).2 0 (by omega)
      have hspot : spot = none := by simpa [Addr.add] using World.cell?_spot h00
      subst hspot
      have hblk := World.block_lt_of_cell? _ _ h00
      refine ⟨b, off, rfl, by simpa [Addr.add] using hblk, fun j hj i hi8 => ?_⟩
      have h2 := (hf' j hj).2 i hi8
      rw [Addr.add_lit, Addr.add_lit, Nat.add_assoc] at h2
      rw [h2]
      simp [hj]
    · obtain ⟨i, hi', rfl⟩ := List.mem_map.1 hx
      exact (hf' i (by simpa using hi')).1
end
#print axioms open_digs
#print axioms wpList_pushD
end Go.Proofs.YtbejjmmopdcjoaaDoor
