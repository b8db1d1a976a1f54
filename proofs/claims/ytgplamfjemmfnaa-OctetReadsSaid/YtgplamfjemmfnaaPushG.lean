/-
  append of a slice of bytes by a guarded operation that is wanted.
-/
import Derived.Test.YtgplamfjemmfnaaPuts2
namespace Go.Proofs.Ytgplamfjemmfnaa
open Go.RowKit

theorem wpList_wanted {P : Program} {w : World} {ops : Array Oper} {rest : List Oper} {o : Oper} {a : Act} {Q : Exit → Act → World → Prop} (hw : Region.wanted o (yielded ops a.tmps) = true)
    (h : ∀ K : Act → World → Prop, (∀ a w, wpList P ops Q rest a w → K a w) → o.wp P a w K Q) : wpList P ops Q (o :: rest) a w :=
  wpList_step fun K hK => by simp only [hw, if_true]; exact h K hK

theorem wpList_push_g {P : Program} {w : World} {ops : Array Oper} {rest : List Oper} {o : Oper} {a : Act} {Q : Exit → Act → World → Prop} (hw : Region.wanted o (yielded ops a.tmps) = true) (s x : Operand) (t tx : TypeId)
    (ho : o.op = .call { callee := .builtin .append, args := #[s, x], argTypes := #[t, tx] }) (E : TypeId) (ht : P.underlying t = some (.slice E)) (hinfo : (P.info? E).map (fun i => (i.zero, i.size, i.bytes)) = some (some (.int .u8 0), 1, 1))
    (B : Nat) (A : Option Addr) (n c : Nat) (bs : List UInt8) (hs : a.eval s = .slice A n c) (hown : Own w E B A n c bs) (y : Value) (m : Nat) (cs : List UInt8) (hx : a.eval x = y) (hsrc : Src P 1 tx y m (U8 cs) w)
    (hn : n + m ≤ 140737488355328) (hB : B ≤ w.heap.size)
    (h : ∀ A' c' w', Own w' E B A' (n + m) c' (bs ++ cs) → Below B w w' → wpList P ops Q rest (a.put o.dst (.slice A' (n + m) c')) w') : wpList P ops Q (o :: rest) a w := by
  obtain ⟨i0, hi, hz0, hz1, hz2⟩ := info_parts hinfo
  have hm : cs.length = m := by have := hsrc.newsLen; rw [U8_length] at this; omega
  refine wpList_wanted hw fun K hK => ?_
  obtain ⟨v', w', hr, h2, h3⟩ := run_append_own_src (P := P) w B t tx o.type E i0 (.int .u8 0) 1 ht hi hz0 hz1 hz2 rfl (.slice A n c) n (U8 bs) hown.row y m (U8 cs) hsrc (by omega) (by omega) hB
  obtain ⟨A', c', rfl, _, _⟩ := ownsRow_form h2
  have hc := ownsRow_cap h2
  unfold Oper.wp execOp
  simp only [ho, resolve, invoke, builtin, Sem.run_bind, Sem.run_pure, Result.andThen_ok, List.map_toArray, List.map_cons, List.map_nil, hs, hx, hr]
  exact hK _ _ (h A' c' w' ⟨by rw [List.length_append, hown.len, hm], hc.2, by rw [U8_append]; exact h2⟩ ((Below.refl B w).grown h3 hB (fun k hk => (hown.row.lt k hk).1)))
#print axioms wpList_push_g
end Go.Proofs.Ytgplamfjemmfnaa
