/-
  code: an instruction read: the program's contract.
-/
import Derived.Test.YtibmkihehaedjaaDoorGDecP
import Derived.Test.YtibmkihehaedjaaDoorARFail
namespace Go.Proofs.YtibmkihehaedjaaDoor
open Go.RowKit

theorem build_c (w : World) (o a b c : Int) : Calls Tryd.prog 67 #[.int .i64 o, .agg #[.int .i64 a, .int .i64 b, .int .i64 c]] w (Gives (.agg #[.int .i64 o, .int .i64 a, .int .i64 b, .int .i64 c]) w) := by
  go_enter Tryd.func67, Tryd.ntmps67
  go_wp2_with fail
  refine bodyPost_ret (v := .agg #[.int .i64 o, .int .i64 a, .int .i64 b, .int .i64 c]) (by simp [results, Tryd.results67, go_sem]) rfl ⟨rfl, ?_⟩
  exact ext_trans (ext_alloc w _) (ext_alloc _ _)

/-- where the numbers' reading stands: behind k of them -/
def St (bs : List UInt8) (err : Int) (k : Nat) (t : Nat → Int) (bk : List UInt8) (ek : Int) : Prop :=
  (ek ≠ 0 ∧ (err ≠ 0 → ek = err) ∧ (err = 0 → (insR bs).2.2 = ek)) ∨
  (ek = 0 ∧ err = 0 ∧ (rnum bs 0 21).2.2 = 0 ∧ numR (hasB (rnum bs 0 21).1).length (rnum bs 0 21).2.1 = ((List.range k).map t ++ (numR ((hasB (rnum bs 0 21).1).length - k) bk).1, (numR ((hasB (rnum bs 0 21).1).length - k) bk).2) ∧ ∀ j, k ≤ j → t j = 0)
def upd (t : Nat → Int) (k : Nat) (v : Int) (j : Nat) : Int := if j = k then v else t j
theorem St.start (bs : List UInt8) (err : Int) : St bs err 0 (fun _ => 0) (rnum bs err 21).2.1 (rnum bs err 21).2.2 := by
  by_cases he : err = 0
  · subst he
    by_cases h : (rnum bs 0 21).2.2 = 0
    · refine .inr ⟨h, rfl, h, ?_, fun _ _ => rfl⟩
      simp
    · refine .inl ⟨h, fun h => absurd rfl h, fun _ => ?_⟩
      unfold insR
      rw [if_pos h]
  · refine .inl ⟨?_, fun _ => ?_, fun h => absurd h he⟩ <;> rw [rnum_stuck he]
    exact he
theorem map_upd (t : Nat → Int) (k : Nat) (v : Int) : (List.range (k + 1)).map (upd t k v) = (List.range k).map t ++ [v] := by
  rw [List.range_succ, List.map_append, List.map_singleton]
  congr 1
  · refine List.map_congr_left (fun j hj => ?_)
    have := List.mem_range.1 hj
    unfold upd
    rw [if_neg (by omega)]
  · unfold upd
    rw [if_pos rfl]
theorem insR_err {bs : List UInt8} (h : (rnum bs 0 21).2.2 = 0) : (insR bs).2 = (numR (hasB (rnum bs 0 21).1).length (rnum bs 0 21).2.1).2 := by
  unfold insR
  rw [if_neg (fun h2 => h2 h)]
theorem St.stay {bs : List UInt8} {err : Int} {k : Nat} {t : Nat → Int} {bk : List UInt8} {ek : Int} (h : St bs err k t bk ek) (hk : k < (hasB (rnum bs err 21).1).length) (v : Int) (hv : v = unfold_ (rnum bk ek 18446744073709551615).1) (hr : -2147483648 ≤ v ∧ v ≤ 2147483647) :
    St bs err (k + 1) (upd t k v) (rnum bk ek 18446744073709551615).2.1 (rnum bk ek 18446744073709551615).2.2 := by
  rcases h with ⟨h1, h2, h3⟩ | ⟨h1, h2, h3, h4, h5⟩
  · rw [rnum_stuck h1]
    exact .inl ⟨h1, h2, h3⟩
  · subst h1 h2
    obtain ⟨m, hm⟩ : ∃ m, (hasB (rnum bs 0 21).1).length - k = m + 1 := ⟨(hasB (rnum bs 0 21).1).length - k - 1, by omega⟩
    rw [hm] at h4
    by_cases hp : (rnum bk 0 18446744073709551615).2.2 = 0
    · refine .inr ⟨hp, rfl, h3, ?_, fun j hj => ?_⟩
      · rw [h4, map_upd, show (hasB (rnum bs 0 21).1).length - (k + 1) = m by omega]
        conv => lhs; rw [numR]
        rw [if_neg (fun h => h hp), if_neg (fun h => h (by rw [← hv]; exact hr)), ← hv]
        simp
      · unfold upd
        rw [if_neg (by omega)]
        exact h5 j (by omega)
    · refine .inl ⟨hp, fun h => absurd rfl h, fun _ => ?_⟩
      rw [insR_err h3, h4]
      conv => lhs; rw [numR]
      rw [if_pos hp]
theorem St.out {bs : List UInt8} {err : Int} {k : Nat} {t : Nat → Int} {bk : List UInt8} {ek : Int} (h : St bs err k t bk ek) (hk : k < (hasB (rnum bs err 21).1).length) (v : Int) (hv : v = unfold_ (rnum bk ek 18446744073709551615).1) (hr : ¬ (-2147483648 ≤ v ∧ v ≤ 2147483647)) :
    err = 0 ∧ (insR bs).2.2 = 2 := by
  rcases h with ⟨h1, h2, h3⟩ | ⟨h1, h2, h3, h4, h5⟩
  · rw [rnum_stuck h1] at hv
    rw [show v = 0 from hv.trans unfold_0] at hr
    exact absurd (by omega) hr
  · subst h1 h2
    obtain ⟨m, hm⟩ : ∃ m, (hasB (rnum bs 0 21).1).length - k = m + 1 := ⟨(hasB (rnum bs 0 21).1).length - k - 1, by omega⟩
    rw [hm] at h4
    by_cases hp : (rnum bk 0 18446744073709551615).2.2 = 0
    · refine ⟨rfl, ?_⟩
      rw [insR_err h3, h4]
      conv => lhs; rw [numR]
      rw [if_neg (fun h => h hp), if_pos (fun h => hr (by rw [hv]; exact h))]
    · rw [(rnum_bad hp).1] at hv
      rw [show v = 0 from hv.trans unfold_0] at hr
      exact absurd (by omega) hr
/-- what comes of an instruction's reading -/
def ReadI (bs : List UInt8) (err : Int) (i : Ins) (rest : List UInt8) (err' r : Int) : Prop :=
  (err ≠ 0 → r = 0 ∧ err' = err) ∧ (err = 0 → (r = 0 ∧ err' = 0 ∧ insR bs = (i, rest, 0)) ∨ (r = 2 ∧ (insR bs).2.2 = 2) ∨ (r = 0 ∧ err' ≠ 0 ∧ (insR bs).2.2 = err'))
theorem St.fin {bs : List UInt8} {err : Int} {t : Nat → Int} {bk : List UInt8} {ek : Int} (h : St bs err (hasB (rnum bs err 21).1).length t bk ek) : ReadI bs err ⟨(rnum bs err 21).1, t 0, t 1, t 2⟩ bk ek 0 := by
  rcases h with ⟨h1, h2, h3⟩ | ⟨h1, h2, h3, h4, h5⟩
  · exact ⟨fun h => ⟨rfl, h2 h⟩, fun h => .inr (.inr ⟨rfl, h1, h3 h⟩)⟩
  · subst h1 h2
    refine ⟨fun h => absurd rfl h, fun _ => .inl ⟨rfl, rfl, ?_⟩⟩
    obtain ⟨q, hq⟩ : ∃ q, q = (hasB (rnum bs 0 21).1).length := ⟨_, rfl⟩
    unfold insR
    rw [if_neg (fun h => h h3), h4, ← hq, Nat.sub_self]
    show (insOf (rnum bs 0 21).1 ((List.range q).map t ++ (numR 0 bk).1), (numR 0 bk).2) = _
    rw [show numR 0 bk = ([], bk, 0) from rfl]
    have g : ∀ j, ((List.range q).map t ++ []).getD j 0 = t j := by
      intro j
      rw [List.append_nil]
      by_cases hj : j < q
      · simp [List.getD, hj]
      · rw [h5 j (by omega)]
        simp [List.getD, List.getElem?_eq_none (by simp; omega : ((List.range q).map t).length ≤ j)]
    unfold insOf
    rw [g, g, g]

theorem grow_blk {w w' : World} {b g : Nat} {o : Obj} (h : w.grownBy w' (some b)) (hg : w.heap[g]? = some o) (hne : b ≠ g) : w'.heap[g]? = some o :=
  (h.block g (Array.getElem?_eq_some_iff.1 hg).1 (fun e => hne (by injection e with e; exact e.symm))).trans hg
theorem Forms.grown {w w' : World} {b : Nat} (h : Forms w) (k : w.grownBy w' (some b)) (hb : b ≠ 0) : Forms w' := by
  have hk : w'.heap[0]? = w.heap[0]? := k.block 0 h.lt (fun e => hb (by injection e with e; exact e.symm))
  refine ⟨Nat.lt_of_lt_of_le h.lt k.size, fun o ho => ?_, fun o ho => ?_⟩
  · rw [World.cell?_of_block (a := ⟨0, o * 2, none⟩) hk]; exact h.name o ho
  · rw [World.cell?_of_block (a := ⟨0, o * 2 + 1, none⟩) hk]; exact h.has o ho
theorem three_upd {w : World} {g k : Nat} {t : Nat → Int} {v : Int} (hk : k < 3) (h : w.heap[g]? = some (.cells #[.int .i64 (t 0), .int .i64 (t 1), .int .i64 (t 2)] 70 (0, 0))) :
    (w.setCell ⟨g, k, none⟩ (.int .i64 v)).heap[g]? = some (.cells #[.int .i64 (upd t k v 0), .int .i64 (upd t k v 1), .int .i64 (upd t k v 2)] 70 (0, 0)) := by
  rw [setC_same w g k _ _ _ h]
  rcases (by omega : k = 0 ∨ k = 1 ∨ k = 2) with rfl | rfl | rfl <;> rfl
theorem three_cell {w : World} {g k : Nat} {t : Nat → Int} (hk : k < 3) (h : w.heap[g]? = some (.cells #[.int .i64 (t 0), .int .i64 (t 1), .int .i64 (t 2)] 70 (0, 0))) :
    w.cell? ⟨g, k, none⟩ = some (.int .i64 (t k)) ∧ w.frozen? ⟨g, k, none⟩ = false := by
  refine ⟨?_, by simp [World.frozen?, h]⟩
  rw [cell_of_row w g k _ _ _ h]
  rcases (by omega : k = 0 ∨ k = 1 ∨ k = 2) with rfl | rfl | rfl <;> rfl
theorem grow_set {w w' : World} {b g k : Nat} {v : Value} (h : w.grownBy w' (some b)) (hg : w.heap.size ≤ g) : w.grownBy (w'.setCell ⟨g, k, none⟩ v) (some b) :=
  ⟨h.os, h.tape, h.output, by simpa [World.setCell] using h.size, fun i hi hk => by
    rw [Below.heap_setCell _ _ _ _ (fun e => by have e2 : i = g := e; omega)]
    exact h.block i hi hk⟩
theorem Rdr.setAway {w : World} {b g k : Nat} {A : Option Addr} {n c : Nat} {bs : List UInt8} {err : Int} {u : Value} {cs : Array Value} {T : TypeId} (h : Rdr w b A n c bs err) (hb : g ≠ b) (hg : w.heap[g]? = some (.cells cs T (0, 0))) (hT : ∀ (j : Nat) (v : Value), cs[j]? = some v → ∃ x : Int, v = Value.int .i64 x) : Rdr (w.setCell ⟨g, k, none⟩ u) b A n c bs err := by
  refine ⟨(Below.heap_setCell _ _ _ _ (fun e => hb e.symm)).trans h.blk, ⟨h.rd.len, h.rd.le, h.rd.max, fun hn => ?_, h.rd.none_⟩⟩
  obtain ⟨b2, o2, hA, hb2, hc⟩ := h.rd.cells hn
  have hne : b2 ≠ g := by
    intro e
    subst e
    have h0 := hc 0 hn
    rw [cell_of_row w b2 _ _ _ _ hg] at h0
    obtain ⟨x, hx⟩ := hT _ _ h0
    cases hx
  refine ⟨b2, o2, hA, by simpa [World.setCell] using hb2, fun j hj => ?_⟩
  rw [World.cell?_setCell_other w _ _ u (by intro e; have := congrArg Addr.block e; simp at this; omega)]
  exact hc j hj
#print axioms St.fin
end Go.Proofs.YtibmkihehaedjaaDoor
