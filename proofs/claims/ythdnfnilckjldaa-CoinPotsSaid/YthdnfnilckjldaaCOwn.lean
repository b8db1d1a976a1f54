/-
  rows of numbers: one of the call's own (OwnI), what an append yields that is fed by a slice of numbers.
-/
import Derived.Test.YthdnfnilckjldaaCSum2
import Derived.Laws.OwnMore
namespace Go.Proofs.Ythdnfnilckjldaa
open Go.RowKit

/-- numbers, as cells -/
def I64 (xs : List Int) : List Value := xs.map (Value.int .i64)
theorem I64_length (bs : List Int) : (I64 bs).length = bs.length := by simp [I64]
theorem I64_append (a b : List Int) : I64 (a ++ b) = I64 a ++ I64 b := by simp [I64]
theorem I64_one (bs : List Int) : ∀ u ∈ I64 bs, u.oneCell' = true := by
  intro u hu
  obtain ⟨_, _, rfl⟩ := List.mem_map.1 hu
  rfl
theorem I64_getD {bs : List Int} {j : Nat} (h : j < bs.length) : (I64 bs)[j]? = some (.int .i64 (bs.getD j 0)) := by
  simp [I64, h]

/-- a slice of the call's own, from block B on, that holds these bytes -/
structure OwnI (w : World) (E : TypeId) (B : Nat) (A : Option Addr) (n c : Nat) (bs : List Int) : Prop where
  len : bs.length = n
  max : c ≤ 9223372036854775807
  row : w.ownsRow B E 1 (.slice A n c) n (I64 bs)

theorem OwnI.ext {w w' : World} {E : TypeId} {B : Nat} {A : Option Addr} {n c : Nat} {bs : List Int} (h : OwnI w E B A n c bs) (k : Below w.heap.size w w') : OwnI w' E B A n c bs :=
  ⟨h.len, h.max, h.row.kept (grown_of_below k) (by cases A <;> simp [Value.ownBlock])⟩


theorem OwnI.empty (w : World) (E : TypeId) : OwnI (w.alloc (.cells #[] E)) E w.heap.size (some ⟨w.heap.size, 0, none⟩) 0 0 [] :=
  ⟨rfl, by omega, World.ownsRow_made w #[] 0 (Nat.le_refl _) (by unfold maxLen; omega) rfl⟩
theorem OwnI.rd {w : World} {E : TypeId} {B : Nat} {A : Option Addr} {n c : Nat} {bs : List Int} (h : OwnI w E B A n c bs) : RdI w A n c bs := by
  obtain ⟨A', c', hv, hle, hn⟩ := ownsRow_form h.row
  injection hv with e1 e2 e3
  subst e1 e3
  refine ⟨h.len, hle, h.max, fun h0 => ?_, hn⟩
  rcases h.row.2 with ⟨hv, h1⟩ | ⟨g, cap, cur, hv, hb, hg, h1, h2, h3, h4⟩
  · omega
  · injection hv with e1 e2 e3
    subst e1 e3
    refine ⟨g, 0, rfl, (Array.getElem?_eq_some_iff.1 hg).1, fun j hj => ?_⟩
    have := h.row.cells (g := g) rfl j (.int .i64 (bs.getD j 0)) (I64_getD (by rw [h.len]; exact hj))
    rw [Addr.add_lit] at this
    exact this

theorem RdI.src {P : Program} {w : World} {t e : TypeId} (ht : P.underlying t = some (.slice e)) {A : Option Addr} {n c : Nat} {bs : List Int} (h : RdI w A n c bs) : Src P 1 t (.slice A n c) n (I64 bs) w := by
  have hl := h.len
  cases A with
  | none =>
    obtain rfl := h.none_ rfl
    obtain rfl : n = 0 := by have := h.le; omega
    obtain rfl : bs = [] := List.eq_nil_of_length_eq_zero hl
    exact Src.ofNil w ht 0
  | some a =>
    refine Src.ofSlice w ht a n c (I64 bs) (by rw [I64_length, hl, Nat.mul_one]) (fun j u hu => ?_) (I64_one bs)
    have hj : j < n := by rw [← hl, ← I64_length]; exact (List.getElem?_eq_some_iff.1 hu).1
    obtain ⟨b, o, hA, _, hc⟩ := h.cells (by omega)
    obtain rfl := Option.some.inj hA
    rw [I64_getD (by rw [hl]; exact hj)] at hu
    obtain rfl := Option.some.inj hu
    rw [Addr.add_lit]
    exact hc j hj

theorem wpList_pushI_all {P : Program} {w : World} {ops : Array Oper} {rest : List Oper} {o : Oper} {a : Act} {Q : Exit → Act → World → Prop} (hgd : o.guard = none) (s x : Operand) (t tx : TypeId)
    (ho : o.op = .call { callee := .builtin .append, args := #[s, x], argTypes := #[t, tx] }) (E : TypeId) (ht : P.underlying t = some (.slice E)) (hinfo : (P.info? E).map (fun i => (i.zero, i.size, i.bytes)) = some (some (.int .i64 0), 1, 8))
    (B : Nat) (A : Option Addr) (n c : Nat) (bs : List Int) (hs : a.eval s = .slice A n c) (hown : OwnI w E B A n c bs) (y : Value) (m : Nat) (cs : List Int) (hx : a.eval x = y) (hsrc : Src P 1 tx y m (I64 cs) w)
    (hn : n + m ≤ 1000000000000) (hB : B ≤ w.heap.size)
    (h : ∀ A' c' w', OwnI w' E B A' (n + m) c' (bs ++ cs) → Below B w w' → wpList P ops Q rest (a.put o.dst (.slice A' (n + m) c')) w') : wpList P ops Q (o :: rest) a w := by
  obtain ⟨i0, hi, hz0, hz1, hz2⟩ := info_parts hinfo
  have hm : cs.length = m := by have := hsrc.newsLen; rw [I64_length] at this; omega
  refine wpList_append_own_src _ hgd s x t tx ho B E i0 (.int .i64 0) 8 ht hi hz0 hz1 hz2 rfl _ n (I64 bs) hs hown.row y m (I64 cs) hx hsrc (by omega) (by omega) hB ?_
  intro v' w' ho' hg'
  obtain ⟨A', c', rfl, _, _⟩ := ownsRow_form ho'
  have hc := ownsRow_cap ho'
  exact h A' c' w' ⟨by rw [List.length_append, hown.len, hm], hc.2, by rw [I64_append]; exact ho'⟩ ((Below.refl B w).grown hg' hB (fun k hk => (hown.row.lt k hk).1))

#print axioms wpList_pushI_all
end Go.Proofs.Ythdnfnilckjldaa
