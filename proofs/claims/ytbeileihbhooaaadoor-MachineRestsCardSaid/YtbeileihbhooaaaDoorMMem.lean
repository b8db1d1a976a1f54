/-
  machine: slices of words (int32): read (RdW), of the call's own (OwnW), appended to.
-/
import Derived.Test.YtbeileihbhooaaaDoorGMem
import Derived.Test.YtbeileihbhooaaaDoorGIns
namespace Go.Proofs.YtbeileihbhooaaaDoor
open Go.RowKit

/-- a slice that reads as these numbers; it may be nil -/
structure RdW (w : World) (A : Option Addr) (n c : Nat) (xs : List Int) : Prop where
  len : xs.length = n
  le : n ≤ c
  max : c ≤ 9223372036854775807
  cells : 0 < n → ∃ b o, A = some ⟨b, o, none⟩ ∧ b < w.heap.size ∧ ∀ j, j < n → w.cell? ⟨b, o + j, none⟩ = some (.int .i32 (xs.getD j 0))
  none_ : A = none → c = 0

theorem RdW.ext {w w' : World} {A : Option Addr} {n c : Nat} {xs : List Int} (h : RdW w A n c xs) (k : Below w.heap.size w w') : RdW w' A n c xs :=
  ⟨h.len, h.le, h.max, fun hn => by
    obtain ⟨b, o, hA, hb, hc⟩ := h.cells hn
    exact ⟨b, o, hA, Nat.lt_of_lt_of_le hb k.size, fun j hj => (k.cell (p := ⟨b, o + j, none⟩) hb).trans (hc j hj)⟩, h.none_⟩

/-- numbers, as cells -/
def I32W (xs : List Int) : List Value := xs.map (Value.int .i32)
theorem I32W_length (bs : List Int) : (I32W bs).length = bs.length := by simp [I32W]
theorem I32W_append (a b : List Int) : I32W (a ++ b) = I32W a ++ I32W b := by simp [I32W]
theorem I32W_one (bs : List Int) : ∀ u ∈ I32W bs, u.oneCell' = true := by
  intro u hu
  obtain ⟨_, _, rfl⟩ := List.mem_map.1 hu
  rfl
theorem I32W_getD {bs : List Int} {j : Nat} (h : j < bs.length) : (I32W bs)[j]? = some (.int .i32 (bs.getD j 0)) := by
  simp [I32W, h]

/-- a slice of the call's own, from block B on, that holds these bytes -/
structure OwnW (w : World) (E : TypeId) (B : Nat) (A : Option Addr) (n c : Nat) (bs : List Int) : Prop where
  len : bs.length = n
  max : c ≤ 9223372036854775807
  row : w.ownsRow B E 1 (.slice A n c) n (I32W bs)

theorem OwnW.ext {w w' : World} {E : TypeId} {B : Nat} {A : Option Addr} {n c : Nat} {bs : List Int} (h : OwnW w E B A n c bs) (k : Below w.heap.size w w') : OwnW w' E B A n c bs :=
  ⟨h.len, h.max, h.row.kept (grown_of_below k) (by cases A <;> simp [Value.ownBlock])⟩


theorem OwnW.empty (w : World) (E : TypeId) : OwnW (w.alloc (.cells #[] E)) E w.heap.size (some ⟨w.heap.size, 0, none⟩) 0 0 [] :=
  ⟨rfl, by omega, World.ownsRow_made w #[] 0 (Nat.le_refl _) (by unfold maxLen; omega) rfl⟩
theorem OwnW.rd {w : World} {E : TypeId} {B : Nat} {A : Option Addr} {n c : Nat} {bs : List Int} (h : OwnW w E B A n c bs) : RdW w A n c bs := by
  obtain ⟨A', c', hv, hle, hn⟩ := ownsRow_form h.row
  injection hv with e1 e2 e3
  subst e1 e3
  refine ⟨h.len, hle, h.max, fun h0 => ?_, hn⟩
  rcases h.row.2 with ⟨hv, h1⟩ | ⟨g, cap, cur, hv, hb, hg, h1, h2, h3, h4⟩
  · omega
  · injection hv with e1 e2 e3
    subst e1 e3
    refine ⟨g, 0, rfl, (Array.getElem?_eq_some_iff.1 hg).1, fun j hj => ?_⟩
    have := h.row.cells (g := g) rfl j (.int .i32 (bs.getD j 0)) (I32W_getD (by rw [h.len]; exact hj))
    rw [Addr.add_lit] at this
    exact this

theorem RdW.src {P : Program} {w : World} {t e : TypeId} (ht : P.underlying t = some (.slice e)) {A : Option Addr} {n c : Nat} {bs : List Int} (h : RdW w A n c bs) : Src P 1 t (.slice A n c) n (I32W bs) w := by
  have hl := h.len
  cases A with
  | none =>
    obtain rfl := h.none_ rfl
    obtain rfl : n = 0 := by have := h.le; omega
    obtain rfl : bs = [] := List.eq_nil_of_length_eq_zero hl
    exact Src.ofNil w ht 0
  | some a =>
    refine Src.ofSlice w ht a n c (I32W bs) (by rw [I32W_length, hl, Nat.mul_one]) (fun j u hu => ?_) (I32W_one bs)
    have hj : j < n := by rw [← hl, ← I32W_length]; exact (List.getElem?_eq_some_iff.1 hu).1
    obtain ⟨b, o, hA, _, hc⟩ := h.cells (by omega)
    obtain rfl := Option.some.inj hA
    rw [I32W_getD (by rw [hl]; exact hj)] at hu
    obtain rfl := Option.some.inj hu
    rw [Addr.add_lit]
    exact hc j hj

theorem wpList_pushW_all {P : Program} {w : World} {ops : Array Oper} {rest : List Oper} {o : Oper} {a : Act} {Q : Exit → Act → World → Prop} (hgd : o.guard = none) (s x : Operand) (t tx : TypeId)
    (ho : o.op = .call { callee := .builtin .append, args := #[s, x], argTypes := #[t, tx] }) (E : TypeId) (ht : P.underlying t = some (.slice E)) (hinfo : (P.info? E).map (fun i => (i.zero, i.size, i.bytes)) = some (some (.int .i32 0), 1, 4))
    (B : Nat) (A : Option Addr) (n c : Nat) (bs : List Int) (hs : a.eval s = .slice A n c) (hown : OwnW w E B A n c bs) (y : Value) (m : Nat) (cs : List Int) (hx : a.eval x = y) (hsrc : Src P 1 tx y m (I32W cs) w)
    (hn : n + m ≤ 1000000000000) (hB : B ≤ w.heap.size)
    (h : ∀ A' c' w', OwnW w' E B A' (n + m) c' (bs ++ cs) → Below B w w' → wpList P ops Q rest (a.put o.dst (.slice A' (n + m) c')) w') : wpList P ops Q (o :: rest) a w := by
  obtain ⟨i0, hi, hz0, hz1, hz2⟩ := info_parts hinfo
  have hm : cs.length = m := by have := hsrc.newsLen; rw [I32W_length] at this; omega
  refine wpList_append_own_src _ hgd s x t tx ho B E i0 (.int .i32 0) 4 ht hi hz0 hz1 hz2 rfl _ n (I32W bs) hs hown.row y m (I32W cs) hx hsrc (by omega) (by omega) hB ?_
  intro v' w' ho' hg'
  obtain ⟨A', c', rfl, _, _⟩ := ownsRow_form ho'
  have hc := ownsRow_cap ho'
  exact h A' c' w' ⟨by rw [List.length_append, hown.len, hm], hc.2, by rw [I32W_append]; exact ho'⟩ ((Below.refl B w).grown hg' hB (fun k hk => (hown.row.lt k hk).1))

theorem wpList_pushW {P : Program} {w : World} {ops : Array Oper} {rest : List Oper} {o : Oper} {a : Act} {Q : Exit → Act → World → Prop} (hgd : o.guard = Option.none) (s x : Operand) (t : TypeId)
    (ho : o.op = .call { callee := .builtin .append, args := #[s, x], argTypes := #[t, t] }) (E : TypeId) (ht : P.underlying t = some (.slice E)) (hinfo : (P.info? E).map (fun i => (i.zero, i.size, i.bytes)) = some (some (.int .i32 0), 1, 4))
    (B : Nat) (A : Option Addr) (n c : Nat) (bs : List Int) (hs : a.eval s = .slice A n c) (hown : OwnW w E B A n c bs) (X : Int)
    (hx : a.eval x = .slice (some ⟨w.heap.size, 0, Option.none⟩) 1 1) (hn : n < 100000000000) (hB : B ≤ w.heap.size)
    (h : ∀ A' c' w', OwnW w' E B A' (n + 1) c' (bs ++ [X]) → Below B w w' → wpList P ops Q rest (a.put o.dst (.slice A' (n + 1) c')) w') : wpList P ops Q (o :: rest) a (w.alloc (.cells #[.int .i32 X] E)) := by
  refine wpList_pushW_all hgd s x t t ho E ht hinfo B A n c bs hs (hown.ext (ext_alloc _ _)) _ 1 [X] hx
    (Src.ofSlice _ ht ⟨w.heap.size, 0, Option.none⟩ 1 1 (I32W [X]) rfl (fun j u hu => ?_) (I32W_one _)) (by omega) (by simp; omega) ?_
  · have hj : j = 0 := by
      have := (List.getElem?_eq_some_iff.1 hu).1
      simp [I32W] at this
      exact this
    subst hj
    rw [Addr.add_lit]
    simp [I32W] at hu
    subst hu
    simp
  · intro A' c' w' ho' hb'
    exact h A' c' w' ho' (((Below.refl B w).alloc hB _).trans hb')

theorem OwnW.blockless {w : World} {E : TypeId} {B : Nat} {A : Option Addr} {n c : Nat} {bs : List Int} (h : OwnW w E B A n c bs) (hn : 0 < n) : ∃ g, A = some ⟨g, 0, none⟩ ∧ B ≤ g ∧ g < w.heap.size := by
  rcases h.row.2 with ⟨hv, h1⟩ | ⟨g, cap, cur, hv, hb, hg, _⟩
  · omega
  · injection hv with e1 e2 e3
    exact ⟨g, e1, hb, (Array.getElem?_eq_some_iff.1 hg).1⟩

theorem OwnW.get {w : World} {E : TypeId} {B g n c : Nat} {bs : List Int} (h : OwnW w E B (some ⟨g, 0, none⟩) n c bs) {j : Nat} (hj : j < n) : w.cell? ⟨g, j, none⟩ = some (.int .i32 (bs.getD j 0)) := by
  rw [h.row.cellAt j (by omega), I32W_getD (by rw [h.len]; exact hj)]

theorem OwnW.set {w : World} {E : TypeId} {B g n c : Nat} {bs : List Int} (h : OwnW w E B (some ⟨g, 0, none⟩) n c bs) (j : Nat) (x : Int) :
    OwnW (w.setCell ⟨g, j, none⟩ (.int .i32 x)) E B (some ⟨g, 0, none⟩) n c (bs.set j x) ∧ w.grownBy (w.setCell ⟨g, j, none⟩ (.int .i32 x)) (some g) := by
  obtain ⟨h1, h2⟩ := h.row.stored j (.int .i32 x)
  refine ⟨⟨by rw [List.length_set]; exact h.len, h.max, ?_⟩, h2⟩
  rw [show I32W (bs.set j x) = (I32W bs).set j (.int .i32 x) by simp [I32W, List.map_set]]
  exact h1

theorem OwnW.kept {w w' : World} {E : TypeId} {B : Nat} {A : Option Addr} {n c : Nat} {bs : List Int} (h : OwnW w E B A n c bs) {row : Option Nat} (k : w.grownBy w' row) (hr : ∀ g, row = some g → g < B) : OwnW w' E B A n c bs :=
  ⟨h.len, h.max, h.row.kept k (by
    cases hv : (Value.slice A n c).ownBlock with
    | none => exact .inl rfl
    | some g =>
      refine .inr fun e => ?_
      have h1 := (h.row.lt g hv).1
      have h2 := hr g e.symm
      omega)⟩

theorem OwnW.row_ge {w : World} {E : TypeId} {B : Nat} {A : Option Addr} {n c : Nat} {bs : List Int} (h : OwnW w E B A n c bs) : ∀ k, (Value.slice A n c).ownBlock = some k → B ≤ k ∧ k < w.heap.size := h.row.lt

theorem RdW.nil (w : World) : RdW w none 0 0 [] := ⟨rfl, Nat.le_refl _, by omega, fun h => absurd h (by omega), fun _ => rfl⟩
theorem OwnW.nil (w : World) (E : TypeId) (B : Nat) : OwnW w E B none 0 0 [] := ⟨rfl, by omega, World.ownsRow_nil w B E 1⟩
/-- a literal of numbers -/
theorem RdW.lit {w : World} {E : TypeId} {n : Nat} {xs : List Int} {vs : Array Value} (hn : xs.length = n) (hv : vs.toList = I32W xs) (hs : n ≤ 9223372036854775807) : RdW (w.alloc (.cells vs E)) (some ⟨w.heap.size, 0, Option.none⟩) n n xs :=
  ⟨hn, Nat.le_refl _, hs, fun _ => ⟨w.heap.size, 0, rfl, by simp, fun j hj => by
    rw [cell_of_row _ w.heap.size (0 + j) vs E (0, 0) (Go.heap_alloc_new w _), ← Array.getElem?_toList, hv, Nat.zero_add]
    exact I32W_getD (by omega)⟩, fun h => by cases h⟩
theorem RdW.at {w : World} {A : Option Addr} {n c : Nat} {xs : List Int} (h : RdW w A n c xs) {k : Nat} (hk : k < n) : ∃ b o, A = some ⟨b, o, Option.none⟩ ∧ b < w.heap.size ∧ w.cell? ⟨b, o + k, Option.none⟩ = some (.int .i32 (xs.getD k 0)) := by
  obtain ⟨b, o, hA, hb, hc⟩ := h.cells (by omega)
  exact ⟨b, o, hA, hb, hc k hk⟩

theorem infoW : (Tryd.prog.info? 21).map (fun i => (i.zero, i.size, i.bytes)) = some (some (.int .i32 0), 1, 4) := by kernel_rfl
#print axioms wpList_pushW
end Go.Proofs.YtbeileihbhooaaaDoor
