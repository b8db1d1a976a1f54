/-
  tree: a tree in memory.
-/
import Derived.Test.YtbejjmmopdcjoaaDoorTLow
import Derived.Deep.AppendLies
namespace Go.Proofs.YtbejjmmopdcjoaaDoor
open Go.RowKit Go.Deep

/-- what stands on a level: behind the last node of an odd number, and below the top, one more -/
def levX (l : List Nat) (h : Nat) : List Nat := if h < hgt l.length then levelP l h else level l h
theorem levX_low {l : List Nat} {h : Nat} (hh : h < hgt l.length) : levX l h = levelP l h := by unfold levX; rw [if_pos hh]
theorem levX_top (l : List Nat) : levX l (hgt l.length) = level l (hgt l.length) := by unfold levX; rw [if_neg (by omega)]
theorem levX_small {l : List Nat} (hl : Small l) (h : Nat) : Small (levX l h) := by
  unfold levX
  split
  · exact levelP_small hl h
  · exact level_small hl h

/-- the first k levels of a tree stand in memory; the blocks of X are none of theirs -/
structure Part (w : World) (X : Nat → Prop) (Lo T k : Nat) (l : List Nat) : Prop where
  lo : Lo ≤ T
  xt : ¬ X T
  ex : ∃ (cur : Array Value) (g0 c0 : Nat) (g c : Nat → Nat), w.heap[T]? = some (.cells cur 80 (0, 0)) ∧ cur.size = 14 ∧ cur[0]? = some (.slice (some ⟨g0, 0, none⟩) l.length c0) ∧ OwnD w 26 Lo (some ⟨g0, 0, none⟩) l.length c0 l ∧ g0 ≠ T ∧ ¬ X g0 ∧ (∀ h, h < k → cur[1 + h]? = some (.slice (some ⟨g h, 0, none⟩) (levX l h).length (c h)) ∧ OwnD w 26 Lo (some ⟨g h, 0, none⟩) (levX l h).length (c h) (levX l h) ∧ g h ≠ T ∧ g h ≠ g0 ∧ ¬ X (g h)) ∧ (∀ h h', h < k → h' < k → h ≠ h' → g h ≠ g h')
theorem OwnD.at_lt {w : World} {E : TypeId} {B b n c : Nat} {xs : List Nat} (h : OwnD w E B (some ⟨b, 0, none⟩) n c xs) : b < w.heap.size := h.rowK.1.lt
theorem Part.tlt {w : World} {X : Nat → Prop} {Lo T k : Nat} {l : List Nat} (h : Part w X Lo T k l) : T < w.heap.size := by
  obtain ⟨cur, g0, c0, g, c, h1, _⟩ := h.ex
  exact (Array.getElem?_eq_some_iff.1 h1).1
theorem Part.keep {w w' : World} {X : Nat → Prop} {Lo T k : Nat} {l : List Nat} (h : Part w X Lo T k l) (hb : ∀ b, b < w.heap.size → ¬ X b → w'.heap[b]? = w.heap[b]?) : Part w' X Lo T k l := by
  obtain ⟨cur, g0, c0, g, c, h1, h2, h3, h4, h5, h6, h7, h8⟩ := h.ex
  refine ⟨h.lo, h.xt, cur, g0, c0, g, c, (hb T h.tlt h.xt).trans h1, h2, h3, h4.keep (hb g0 h4.at_lt h6), h5, h6, fun j hj => ?_, h8⟩
  obtain ⟨k1, k2, k3, k4, k5⟩ := h7 j hj
  exact ⟨k1, k2.keep (hb _ k2.at_lt k5), k3, k4, k5⟩
theorem Part.ext {w w' : World} {X : Nat → Prop} {Lo T k : Nat} {l : List Nat} (h : Part w X Lo T k l) (hb : Below w.heap.size w w') : Part w' X Lo T k l := h.keep fun b hb' _ => hb.block b hb'
theorem Part.other {w : World} {X X' : Nat → Prop} {Lo T k : Nat} {l : List Nat} (h : Part w X Lo T k l) (hx : ∀ b, b < w.heap.size → X' b → X b) : Part w X' Lo T k l := by
  obtain ⟨cur, g0, c0, g, c, h1, h2, h3, h4, h5, h6, h7, h8⟩ := h.ex
  refine ⟨h.lo, fun e => h.xt (hx T h.tlt e), cur, g0, c0, g, c, h1, h2, h3, h4, h5, fun e => h6 (hx _ h4.at_lt e), fun j hj => ?_, h8⟩
  obtain ⟨k1, k2, k3, k4, k5⟩ := h7 j hj
  exact ⟨k1, k2, k3, k4, fun e => k5 (hx _ k2.at_lt e)⟩
theorem Part.store {w : World} {X X' : Nat → Prop} {Lo T k : Nat} {l : List Nat} (h : Part w X Lo T k l) (hk : k < 13) {gl n c : Nat} (hn : n = (levX l k).length) (ho : OwnD w 26 Lo (some ⟨gl, 0, none⟩) n c (levX l k)) (hgl : X gl) (hx : ∀ b, X' b → X b ∧ b ≠ gl) {q : Nat} (hq : q = 1 + k) :
    Part (w.setCell ⟨T, q, none⟩ (.slice (some ⟨gl, 0, none⟩) n c)) X' Lo T (k + 1) l := by
  subst hn hq
  obtain ⟨cur, g0, c0, g, c', h1, h2, h3, h4, h5, h6, h7, h8⟩ := h.ex
  have hT : T ≠ gl := fun e => h.xt (e ▸ hgl)
  have hg0 : g0 ≠ gl := fun e => h6 (e ▸ hgl)
  have hkeep : ∀ b, b ≠ T → (w.setCell ⟨T, 1 + k, none⟩ (.slice (some ⟨gl, 0, none⟩) (levX l k).length c)).heap[b]? = w.heap[b]? := fun b hb => Below.heap_setCell _ _ _ _ hb
  refine ⟨h.lo, fun e => h.xt (hx T e).1, cur.setIfInBounds (1 + k) (.slice (some ⟨gl, 0, none⟩) (levX l k).length c), g0, c0, fun j => if j = k then gl else g j, fun j => if j = k then c else c' j, heap_set_same _ h1, by simpa using h2, ?_, h4.keep (hkeep _ h5), h5, fun e => h6 (hx _ e).1, fun j hj => ?_, fun j j' hj hj' hne => ?_⟩
  · rw [Array.getElem?_setIfInBounds, if_neg (by omega)]
    exact h3
  · by_cases hjk : j = k
    · subst hjk
      simp only [if_true]
      refine ⟨by rw [Array.getElem?_setIfInBounds, if_pos rfl, if_pos (by omega)], ho.keep (hkeep _ hT.symm), hT.symm, hg0.symm, fun e => (hx _ e).2 rfl⟩
    · obtain ⟨k1, k2, k3, k4, k5⟩ := h7 j (by omega)
      simp only [if_neg hjk]
      refine ⟨by rw [Array.getElem?_setIfInBounds, if_neg (by omega)]; exact k1, k2.keep (hkeep _ k3), k3, k4, fun e => k5 (hx _ e).1⟩
  · by_cases e1 : j = k
    · by_cases e2 : j' = k
      · omega
      · obtain ⟨_, _, _, _, k5⟩ := h7 j' (by omega)
        simp only [if_pos e1, if_neg e2]
        exact fun e => k5 (e ▸ hgl)
    · by_cases e2 : j' = k
      · obtain ⟨_, _, _, _, k5⟩ := h7 j (by omega)
        simp only [if_neg e1, if_pos e2]
        exact fun e => k5 (e ▸ hgl)
      · simp only [if_neg e1, if_neg e2]
        exact h8 j j' (by omega) (by omega) hne
/-- a cell of the tree itself -/
theorem Part.cell {w : World} {X : Nat → Prop} {Lo T k : Nat} {l : List Nat} (h : Part w X Lo T k l) {i : Nat} (hi : i < 14) : (∃ v, w.cell? ⟨T, i, none⟩ = some v) ∧ w.frozen? ⟨T, i, none⟩ = false := by
  obtain ⟨cur, g0, c0, g, c, h1, h2, _⟩ := h.ex
  exact ⟨⟨cur[i]'(by omega), by rw [cell_of_row w T i _ _ _ h1]; exact Array.getElem?_eq_getElem _⟩, by simp [World.frozen?, h1]⟩

/-- a tree in memory -/
structure TrAt (w : World) (Lo T : Nat) (l : List Nat) : Prop where
  small : Small l
  n1 : 1 ≤ l.length
  n2 : l.length ≤ 4096
  part : Part w (fun _ => False) Lo T (hgt l.length + 1) l
theorem TrAt.ext {w w' : World} {Lo T : Nat} {l : List Nat} (h : TrAt w Lo T l) (hb : Below w.heap.size w w') : TrAt w' Lo T l := ⟨h.small, h.n1, h.n2, h.part.ext hb⟩
theorem TrAt.leaves {w : World} {Lo T : Nat} {l : List Nat} (h : TrAt w Lo T l) : ∃ g0 c0, w.cell? ⟨T, 0, none⟩ = some (.slice (some ⟨g0, 0, none⟩) l.length c0) ∧ RowK w 26 g0 c0 (fun j => l.getD j 0) l.length ∧ l.length ≤ c0 := by
  obtain ⟨cur, g0, c0, g, c, h1, h2, h3, h4, _⟩ := h.part.ex
  exact ⟨g0, c0, by rw [cell_of_row w T 0 _ _ _ h1]; exact h3, h4.rowK.1, h4.rowK.2.2⟩
theorem TrAt.row {w : World} {Lo T : Nat} {l : List Nat} (h : TrAt w Lo T l) {k : Nat} (hk : k ≤ hgt l.length) : ∃ g c, w.cell? ⟨T, 1 + k, none⟩ = some (.slice (some ⟨g, 0, none⟩) (levX l k).length c) ∧ RdD w (some ⟨g, 0, none⟩) (levX l k).length c (levX l k) := by
  obtain ⟨cur, g0, c0, g, c, h1, h2, h3, h4, h5, h6, h7, _⟩ := h.part.ex
  obtain ⟨k1, k2, _⟩ := h7 k (by omega)
  exact ⟨g k, c k, by rw [cell_of_row w T _ _ _ _ h1]; exact k1, k2.rd⟩

/-- append of one digest, saying in which block the row lies then -/
theorem wpList_pushL {w : World} {ops : Array Oper} {rest : List Oper} {o : Oper} {a : Act} {Q : Exit → Act → World → Prop} (hgd : o.guard = none) (s x : Operand)
    (ho : o.op = .call { callee := .builtin .append, args := #[s, x], argTypes := #[23, 23] })
    (B gl n c : Nat) (xs : List Nat) (hs : a.eval s = .slice (some ⟨gl, 0, none⟩) n c) (hown : OwnD w 26 B (some ⟨gl, 0, none⟩) n c xs) (y : Nat) (hy : y < 18446744073709551616)
    (hx : a.eval x = .slice (some ⟨w.heap.size, 0, none⟩) 1 1) (hn : n < 1000000000) (hB : B ≤ w.heap.size)
    (h : ∀ g' c' w', OwnD w' 26 B (some ⟨g', 0, none⟩) (n + 1) c' (xs ++ [y]) → (w.alloc (.cells #[.int .u8 (byt y 0), .int .u8 (byt y 1), .int .u8 (byt y 2), .int .u8 (byt y 3), .int .u8 (byt y 4), .int .u8 (byt y 5), .int .u8 (byt y 6), .int .u8 (byt y 7)] 26)).grownBy w' (some gl) → (gl = g' ∨ g' = w.heap.size + 1) → wpList Tryd.prog ops Q rest (a.put o.dst (.slice (some ⟨g', 0, none⟩) (n + 1) c')) w') :
    wpList Tryd.prog ops Q (o :: rest) a (w.alloc (.cells #[.int .u8 (byt y 0), .int .u8 (byt y 1), .int .u8 (byt y 2), .int .u8 (byt y 3), .int .u8 (byt y 4), .int .u8 (byt y 5), .int .u8 (byt y 6), .int .u8 (byt y 7)] 26)) := by
  obtain ⟨i0, hi, hz0, hz1, hz2⟩ := info_parts infoD
  refine wpList_append_lies _ hgd s x 23 ho B 26 i0 _ 8 8 Tryd.underlying23 hi hz0 hz1 hz2 rfl (by omega) _ n (DD xs) hs (hown.row.alloc _) ⟨w.heap.size, 0, none⟩ 1 1 (DD [y]) hx (DD_length [y]) (fun j u hu => ?_) (DD_one _) (by omega) (by simp only [maxLen]; omega) (by omega) (by simp; omega) (w.heap.size + 1) (by simp) ?_
  · rw [Addr.add_lit]
    have e1 := cell_of_row (w.alloc (.cells (digA y) 26)) w.heap.size (0 + j) (digA y) _ _ (Go.heap_alloc_new w _)
    have e2 : (w.alloc (.cells (digA y) 26)).cell? ⟨w.heap.size, 0 + j, none⟩ = some u := by
      rw [e1, Nat.zero_add, ← Array.getElem?_toList]
      simpa [DD] using hu
    exact e2
  · intro g' c' w' ho' hg' hl' _
    refine h g' c' w' ⟨by rw [List.length_append, hown.len]; rfl, by rw [DD_append]; exact ho', fun z hz => ?_⟩ (by simpa [Value.ownBlock] using hg') (by rcases hl' with e | e; exact .inl (by simpa [Value.ownBlock] using e); exact .inr e)
    rcases List.mem_append.1 hz with hz | hz
    · exact hown.small z hz
    · simp at hz; rw [hz]; exact hy
set_option maxRecDepth 100000 in
set_option maxHeartbeats 1000000 in
theorem cloneD_c (w : World) (b o n c : Nat) (xs : List Nat) (h : Hid (RdD w (some ⟨b, o, none⟩) n c xs)) (hn0 : 0 < n) (hn : n ≤ 100000) : Calls Tryd.prog 41 #[.slice (some ⟨b, o, none⟩) n c] w (fun e w' => ∃ g c', e = .returned (.slice (some ⟨g, 0, none⟩) n c') ∧ w.heap.size ≤ g ∧ OwnD w' 26 w.heap.size (some ⟨g, 0, none⟩) n c' xs ∧ Below w.heap.size w w') := by
  have hle := h.out.le
  have hmx := h.out.max
  have HL := Lib.hid h.out.len
  have HSm := Lib.hid h.out.small
  have HC : Hid (b < w.heap.size ∧ ∀ j, j < n → ∀ i, i < 8 → w.cell? ⟨b, o + (j * 8 + i), none⟩ = some (.int .u8 (byt (xs.getD j 0) i))) := by
    obtain ⟨b', o', hA, hb, hc⟩ := h.out.cells hn0
    injection hA with hA
    injection hA with e1 e2 _
    subst e1 e2
    exact ⟨hb, hc⟩
  clear h
  have heq := fun w => Lib.run_eql_slice_nil (P := Tryd.prog) w 23 26 (some ⟨b, o, none⟩) n c 0 0 Tryd.underlying23
  obtain ⟨i0, hi, hz0, hz1, hz2⟩ := info_parts infoD
  have HI := Lib.hid hi
  have HZ0 := Lib.hid hz0
  have HZ1 := Lib.hid hz1
  have HZ2 := Lib.hid hz2
  clear hi hz0 hz1 hz2
  go_enter Tryd.func41, Tryd.ntmps41
  go_wp2_with (refine wpList_append_own (o := ⟨some 7, _, _, _, _, _⟩) _ rfl (.tmp 5) (.tmp 6) 23 rfl w.heap.size 26 i0 _ 8 8 Tryd.underlying23 HI.out HZ0.out HZ1.out HZ2.out rfl (by omega) _ 0 [] (by rfl) (World.ownsRow_made w #[] 0 (Nat.le_refl _) (Nat.zero_le _) rfl) ⟨b, o, none⟩ n c (DD xs) (by rfl) ?q1 ?q2 (DD_one _) (by simp only [maxLen]; omega) (by omega) (by simp) ?_)
  case q1 => rw [DD_length, HL.out]
  case q2 =>
    intro j u hu
    have hj : j < xs.length * 8 := by rw [← DD_length]; exact (List.getElem?_eq_some_iff.1 hu).1
    rw [Addr.add_lit, (ext_alloc w (.cells #[] 26)).cell (p := ⟨b, o + j, none⟩) HC.out.1]
    have e := HC.out.2 (j / 8) (by rw [← HL.out]; omega) (j % 8) (by omega)
    rw [show j / 8 * 8 + j % 8 = j by omega] at e
    rw [e, ← hu, DD_get xs j hj]
  intro v' w1 hown hgrow _
  have HB : Below w.heap.size w w1 := ((Below.refl _ w).alloc (Nat.le_refl _) _).grown hgrow (by simp) (by intro k hk; simp [Value.ownBlock] at hk; omega)
  rcases hown.2 with ⟨rfl, h0⟩ | ⟨g, cap, cur, rfl, hg, _⟩
  · omega
  have HO : Hid (OwnD w1 26 w.heap.size (some ⟨g, 0, none⟩) n cap xs) := ⟨HL.out, hown, HSm.out⟩
  clear hown
  go_wp2
  go_ret
  exact ⟨g, cap, rfl, hg, HO.out, HB⟩
#print axioms cloneD_c
#print axioms Part.store
end Go.Proofs.YtbejjmmopdcjoaaDoor
