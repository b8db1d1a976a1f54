/-
  slices of numbers: read (RdI), of the call's own (OwnI), appended to; a text as bytes.
-/
import Derived.Test.YtbeileihbhooaaaDoorMem
import Derived.Test.YtbeileihbhooaaaDoorProg
import Derived.Laws.OwnMore
import Derived.Lib.Hide
import Derived.Laws.IdiomStrings
import Derived.IntWalk
import Derived.Deep.Draws
import Derived.RegionTactic
namespace Go.Proofs.YtbeileihbhooaaaDoor
open Go.RowKit

/-- a slice that reads as these numbers; it may be nil -/
structure RdI (w : World) (A : Option Addr) (n c : Nat) (xs : List Int) : Prop where
  len : xs.length = n
  le : n ≤ c
  max : c ≤ 9223372036854775807
  cells : 0 < n → ∃ b o, A = some ⟨b, o, none⟩ ∧ b < w.heap.size ∧ ∀ j, j < n → w.cell? ⟨b, o + j, none⟩ = some (.int .i64 (xs.getD j 0))
  none_ : A = none → c = 0

theorem RdI.ext {w w' : World} {A : Option Addr} {n c : Nat} {xs : List Int} (h : RdI w A n c xs) (k : Below w.heap.size w w') : RdI w' A n c xs :=
  ⟨h.len, h.le, h.max, fun hn => by
    obtain ⟨b, o, hA, hb, hc⟩ := h.cells hn
    exact ⟨b, o, hA, Nat.lt_of_lt_of_le hb k.size, fun j hj => (k.cell (p := ⟨b, o + j, none⟩) hb).trans (hc j hj)⟩, h.none_⟩

/-- numbers, as cells -/
def I64 (xs : List Int) : List Value := xs.map (Value.int .i64)
theorem I64_length (bs : List Int) : (I64 bs).length = bs.length := by simp [I64]
theorem I64_append (a b : List Int) : I64 (a ++ b) = I64 a ++ I64 b := by simp [I64]
theorem I64_one (bs : List Int) : ∀ u ∈ I64 bs, u.oneCell' = true := by
  intro u hu
  obtain ⟨_, _, rfl⟩ := List.mem_map.1 hu
  rfl
theorem I64_getD {bs : List Int} {j : Nat} (h : j < bs.length) : (I64 bs)[j]? = some (.int .i64 (bs.getD j 0)) := by
  simp [I64, h]

/-- a slice of the call's own, from block B on, that holds these bytes -/
structure OwnI (w : World) (E : TypeId) (B : Nat) (A : Option Addr) (n c : Nat) (bs : List Int) : Prop where
  len : bs.length = n
  max : c ≤ 9223372036854775807
  row : w.ownsRow B E 1 (.slice A n c) n (I64 bs)

theorem OwnI.ext {w w' : World} {E : TypeId} {B : Nat} {A : Option Addr} {n c : Nat} {bs : List Int} (h : OwnI w E B A n c bs) (k : Below w.heap.size w w') : OwnI w' E B A n c bs :=
  ⟨h.len, h.max, h.row.kept (grown_of_below k) (by cases A <;> simp [Value.ownBlock])⟩


theorem OwnI.empty (w : World) (E : TypeId) : OwnI (w.alloc (.cells #[] E)) E w.heap.size (some ⟨w.heap.size, 0, none⟩) 0 0 [] :=
  ⟨rfl, by omega, World.ownsRow_made w #[] 0 (Nat.le_refl _) (by unfold maxLen; omega) rfl⟩
theorem OwnI.rd {w : World} {E : TypeId} {B : Nat} {A : Option Addr} {n c : Nat} {bs : List Int} (h : OwnI w E B A n c bs) : RdI w A n c bs := by
  obtain ⟨A', c', hv, hle, hn⟩ := ownsRow_form h.row
  injection hv with e1 e2 e3
  subst e1 e3
  refine ⟨h.len, hle, h.max, fun h0 => ?_, hn⟩
  rcases h.row.2 with ⟨hv, h1⟩ | ⟨g, cap, cur, hv, hb, hg, h1, h2, h3, h4⟩
  · omega
  · injection hv with e1 e2 e3
    subst e1 e3
    refine ⟨g, 0, rfl, (Array.getElem?_eq_some_iff.1 hg).1, fun j hj => ?_⟩
    have := h.row.cells (g := g) rfl j (.int .i64 (bs.getD j 0)) (I64_getD (by rw [h.len]; exact hj))
    rw [Addr.add_lit] at this
    exact this

theorem RdI.src {P : Program} {w : World} {t e : TypeId} (ht : P.underlying t = some (.slice e)) {A : Option Addr} {n c : Nat} {bs : List Int} (h : RdI w A n c bs) : Src P 1 t (.slice A n c) n (I64 bs) w := by
  have hl := h.len
  cases A with
  | none =>
    obtain rfl := h.none_ rfl
    obtain rfl : n = 0 := by have := h.le; omega
    obtain rfl : bs = [] := List.eq_nil_of_length_eq_zero hl
    exact Src.ofNil w ht 0
  | some a =>
    refine Src.ofSlice w ht a n c (I64 bs) (by rw [I64_length, hl, Nat.mul_one]) (fun j u hu => ?_) (I64_one bs)
    have hj : j < n := by rw [← hl, ← I64_length]; exact (List.getElem?_eq_some_iff.1 hu).1
    obtain ⟨b, o, hA, _, hc⟩ := h.cells (by omega)
    obtain rfl := Option.some.inj hA
    rw [I64_getD (by rw [hl]; exact hj)] at hu
    obtain rfl := Option.some.inj hu
    rw [Addr.add_lit]
    exact hc j hj

theorem wpList_pushI_all {P : Program} {w : World} {ops : Array Oper} {rest : List Oper} {o : Oper} {a : Act} {Q : Exit → Act → World → Prop} (hgd : o.guard = none) (s x : Operand) (t tx : TypeId)
    (ho : o.op = .call { callee := .builtin .append, args := #[s, x], argTypes := #[t, tx] }) (E : TypeId) (ht : P.underlying t = some (.slice E)) (hinfo : (P.info? E).map (fun i => (i.zero, i.size, i.bytes)) = some (some (.int .i64 0), 1, 8))
    (B : Nat) (A : Option Addr) (n c : Nat) (bs : List Int) (hs : a.eval s = .slice A n c) (hown : OwnI w E B A n c bs) (y : Value) (m : Nat) (cs : List Int) (hx : a.eval x = y) (hsrc : Src P 1 tx y m (I64 cs) w)
    (hn : n + m ≤ 1000000000000) (hB : B ≤ w.heap.size)
    (h : ∀ A' c' w', OwnI w' E B A' (n + m) c' (bs ++ cs) → Below B w w' → wpList P ops Q rest (a.put o.dst (.slice A' (n + m) c')) w') : wpList P ops Q (o :: rest) a w := by
  obtain ⟨i0, hi, hz0, hz1, hz2⟩ := info_parts hinfo
  have hm : cs.length = m := by have := hsrc.newsLen; rw [I64_length] at this; omega
  refine wpList_append_own_src _ hgd s x t tx ho B E i0 (.int .i64 0) 8 ht hi hz0 hz1 hz2 rfl _ n (I64 bs) hs hown.row y m (I64 cs) hx hsrc (by omega) (by omega) hB ?_
  intro v' w' ho' hg'
  obtain ⟨A', c', rfl, _, _⟩ := ownsRow_form ho'
  have hc := ownsRow_cap ho'
  exact h A' c' w' ⟨by rw [List.length_append, hown.len, hm], hc.2, by rw [I64_append]; exact ho'⟩ ((Below.refl B w).grown hg' hB (fun k hk => (hown.row.lt k hk).1))

theorem wpList_pushI {P : Program} {w : World} {ops : Array Oper} {rest : List Oper} {o : Oper} {a : Act} {Q : Exit → Act → World → Prop} (hgd : o.guard = Option.none) (s x : Operand) (t : TypeId)
    (ho : o.op = .call { callee := .builtin .append, args := #[s, x], argTypes := #[t, t] }) (E : TypeId) (ht : P.underlying t = some (.slice E)) (hinfo : (P.info? E).map (fun i => (i.zero, i.size, i.bytes)) = some (some (.int .i64 0), 1, 8))
    (B : Nat) (A : Option Addr) (n c : Nat) (bs : List Int) (hs : a.eval s = .slice A n c) (hown : OwnI w E B A n c bs) (X : Int)
    (hx : a.eval x = .slice (some ⟨w.heap.size, 0, Option.none⟩) 1 1) (hn : n < 100000000000) (hB : B ≤ w.heap.size)
    (h : ∀ A' c' w', OwnI w' E B A' (n + 1) c' (bs ++ [X]) → Below B w w' → wpList P ops Q rest (a.put o.dst (.slice A' (n + 1) c')) w') : wpList P ops Q (o :: rest) a (w.alloc (.cells #[.int .i64 X] E)) := by
  refine wpList_pushI_all hgd s x t t ho E ht hinfo B A n c bs hs (hown.ext (ext_alloc _ _)) _ 1 [X] hx
    (Src.ofSlice _ ht ⟨w.heap.size, 0, Option.none⟩ 1 1 (I64 [X]) rfl (fun j u hu => ?_) (I64_one _)) (by omega) (by simp; omega) ?_
  · have hj : j = 0 := by
      have := (List.getElem?_eq_some_iff.1 hu).1
      simp [I64] at this
      exact this
    subst hj
    rw [Addr.add_lit]
    simp [I64] at hu
    subst hu
    simp
  · intro A' c' w' ho' hb'
    exact h A' c' w' ho' (((Below.refl B w).alloc hB _).trans hb')

theorem infoI : (Tryd.prog.info? 3).map (fun i => (i.zero, i.size, i.bytes)) = some (some (.int .i64 0), 1, 8) := by kernel_rfl

theorem OwnI.blockless {w : World} {E : TypeId} {B : Nat} {A : Option Addr} {n c : Nat} {bs : List Int} (h : OwnI w E B A n c bs) (hn : 0 < n) : ∃ g, A = some ⟨g, 0, none⟩ ∧ B ≤ g ∧ g < w.heap.size := by
  rcases h.row.2 with ⟨hv, h1⟩ | ⟨g, cap, cur, hv, hb, hg, _⟩
  · omega
  · injection hv with e1 e2 e3
    exact ⟨g, e1, hb, (Array.getElem?_eq_some_iff.1 hg).1⟩

theorem OwnI.get {w : World} {E : TypeId} {B g n c : Nat} {bs : List Int} (h : OwnI w E B (some ⟨g, 0, none⟩) n c bs) {j : Nat} (hj : j < n) : w.cell? ⟨g, j, none⟩ = some (.int .i64 (bs.getD j 0)) := by
  rw [h.row.cellAt j (by omega), I64_getD (by rw [h.len]; exact hj)]

theorem OwnI.set {w : World} {E : TypeId} {B g n c : Nat} {bs : List Int} (h : OwnI w E B (some ⟨g, 0, none⟩) n c bs) (j : Nat) (x : Int) :
    OwnI (w.setCell ⟨g, j, none⟩ (.int .i64 x)) E B (some ⟨g, 0, none⟩) n c (bs.set j x) ∧ w.grownBy (w.setCell ⟨g, j, none⟩ (.int .i64 x)) (some g) := by
  obtain ⟨h1, h2⟩ := h.row.stored j (.int .i64 x)
  refine ⟨⟨by rw [List.length_set]; exact h.len, h.max, ?_⟩, h2⟩
  rw [show I64 (bs.set j x) = (I64 bs).set j (.int .i64 x) by simp [I64, List.map_set]]
  exact h1

theorem OwnI.kept {w w' : World} {E : TypeId} {B : Nat} {A : Option Addr} {n c : Nat} {bs : List Int} (h : OwnI w E B A n c bs) {row : Option Nat} (k : w.grownBy w' row) (hr : ∀ g, row = some g → g < B) : OwnI w' E B A n c bs :=
  ⟨h.len, h.max, h.row.kept k (by
    cases hv : (Value.slice A n c).ownBlock with
    | none => exact .inl rfl
    | some g =>
      refine .inr fun e => ?_
      have h1 := (h.row.lt g hv).1
      have h2 := hr g e.symm
      omega)⟩

theorem OwnI.row_ge {w : World} {E : TypeId} {B : Nat} {A : Option Addr} {n c : Nat} {bs : List Int} (h : OwnI w E B A n c bs) : ∀ k, (Value.slice A n c).ownBlock = some k → B ≤ k ∧ k < w.heap.size := h.row.lt

theorem grown_stepI {a b c : World} {row : Option Nat} (h : a.grownBy b row) (k : b.grownBy c row) : a.grownBy c row :=
  ⟨k.os.trans h.os, k.tape.trans h.tape, k.output.trans h.output, Nat.le_trans h.size k.size, fun i hi hk => (k.block i (Nat.lt_of_lt_of_le hi h.size) hk).trans (h.block i hi hk)⟩

theorem heap_alloc_newestG {w : World} {c : Nat} {x : Obj} (hc : c = w.heap.size) : (w.alloc x).heap[c]? = some x := by subst hc; exact Go.heap_alloc_new w x
theorem str_convG (v : World) (s : ByteArray) (hs : s.size ≤ maxLen) : ∃ c' v', (convert 9 85 (.string s)).run Tryd.prog v = .ok (.slice (some ⟨v.heap.size, 0, none⟩) s.size c') v' ∧ Rd v' (some ⟨v.heap.size, 0, none⟩) s.size c' s.data.toList ∧ v.heap.size < v'.heap.size ∧ Below v.heap.size v v' := by
  refine ⟨_, _, run_bytes_of_string v 9 85 5 s Tryd.underlying9 Tryd.underlying85 Tryd.underlying5, ⟨by rw [Array.length_toList]; rfl, grownCap_ge v s.size 0 _, ?_, fun _ => ⟨v.heap.size, 0, rfl, ?_, fun j hj => ?_⟩, fun e => by cases e⟩, by simp, ext_trans (ext_drew v) (ext_alloc v.drew _)⟩
  · have := grownCap_le_maxLen v s.size 0 5 hs
    unfold maxLen at this
    omega
  · simp
  · have hj' : j < s.data.size := hj
    rw [Nat.zero_add, cell_of_row _ _ j _ _ _ (heap_alloc_newestG (w := v.drew) (by simp)), bytesRow_at _ _ _ hj']
    simp [List.getD]
    rw [Array.getElem?_eq_getElem hj']
    rfl

/-- a call that answers a slice of these numbers -/
def Ints (w : World) (l : List Int) (e : Ending) (w' : World) : Prop := ∃ A n c, e = .returned (.slice A n c) ∧ RdI w' A n c l ∧ Below w.heap.size w w'
theorem RdI.nil (w : World) : RdI w none 0 0 [] := ⟨rfl, Nat.le_refl _, by omega, fun h => absurd h (by omega), fun _ => rfl⟩
theorem OwnI.nil (w : World) (E : TypeId) (B : Nat) : OwnI w E B none 0 0 [] := ⟨rfl, by omega, World.ownsRow_nil w B E 1⟩
/-- a literal of numbers -/
theorem RdI.lit {w : World} {E : TypeId} {n : Nat} {xs : List Int} {vs : Array Value} (hn : xs.length = n) (hv : vs.toList = I64 xs) (hs : n ≤ 9223372036854775807) : RdI (w.alloc (.cells vs E)) (some ⟨w.heap.size, 0, Option.none⟩) n n xs :=
  ⟨hn, Nat.le_refl _, hs, fun _ => ⟨w.heap.size, 0, rfl, by simp, fun j hj => by
    rw [cell_of_row _ w.heap.size (0 + j) vs E (0, 0) (Go.heap_alloc_new w _), ← Array.getElem?_toList, hv, Nat.zero_add]
    exact I64_getD (by omega)⟩, fun h => by cases h⟩
theorem RdI.at {w : World} {A : Option Addr} {n c : Nat} {xs : List Int} (h : RdI w A n c xs) {k : Nat} (hk : k < n) : ∃ b o, A = some ⟨b, o, Option.none⟩ ∧ b < w.heap.size ∧ w.cell? ⟨b, o + k, Option.none⟩ = some (.int .i64 (xs.getD k 0)) := by
  obtain ⟨b, o, hA, hb, hc⟩ := h.cells (by omega)
  exact ⟨b, o, hA, hb, hc k hk⟩
theorem full3i {w : World} {b : Nat} {T : TypeId} {x0 x1 x2 : Value} (h : w.heap[b]? = some (.cells #[x0, x1, x2] T (0, 0))) : w.cell? ⟨b, 0, Option.none⟩ = some x0 ∧ w.cell? ⟨b, 1, Option.none⟩ = some x1 ∧ w.cell? ⟨b, 2, Option.none⟩ = some x2 :=
  ⟨by rw [cell_of_row w _ 0 _ _ _ h]; rfl, by rw [cell_of_row w _ 1 _ _ _ h]; rfl, by rw [cell_of_row w _ 2 _ _ _ h]; rfl⟩
theorem full4i {w : World} {b : Nat} {T : TypeId} {x0 x1 x2 x3 : Value} (h : w.heap[b]? = some (.cells #[x0, x1, x2, x3] T (0, 0))) : w.cell? ⟨b, 0, Option.none⟩ = some x0 ∧ w.cell? ⟨b, 1, Option.none⟩ = some x1 ∧ w.cell? ⟨b, 2, Option.none⟩ = some x2 ∧ w.cell? ⟨b, 3, Option.none⟩ = some x3 :=
  ⟨by rw [cell_of_row w _ 0 _ _ _ h]; rfl, by rw [cell_of_row w _ 1 _ _ _ h]; rfl, by rw [cell_of_row w _ 2 _ _ _ h]; rfl, by rw [cell_of_row w _ 3 _ _ _ h]; rfl⟩
theorem below_keep {B : Nat} {w w' : World} {b : Nat} {o : Obj} (hb : Below B w w') (hB : b < B) (h : w.heap[b]? = some o) : w'.heap[b]? = some o := (hb.block b hB).trans h
#print axioms wpList_pushI
end Go.Proofs.YtbeileihbhooaaaDoor
