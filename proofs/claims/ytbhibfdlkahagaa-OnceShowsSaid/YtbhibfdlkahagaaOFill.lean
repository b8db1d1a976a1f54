/-
  once: an array of eighteen digests that is filled; no program is named here.
-/
import Derived.Test.YtbhibfdlkahagaaOBegin
import Derived.Test.YtbhibfdlkahagaaHMany
namespace Go.Proofs.Ytbhibfdlkahagaa
open Go.RowKit

/-- the block holds the first digests -/
structure WalkAt (w : World) (T : TypeId) (b : Nat) (f : Nat → Nat) (k : Nat) : Prop where
  blk : ∃ cur : Array Value, w.heap[b]? = some (.cells cur T (0, 0)) ∧ cur.size = 144 ∧ (∀ i, i < 144 → ∃ y : Nat, cur[i]? = some (.int .u8 y)) ∧ ∀ j, j < k → ∀ i, i < 8 → cur[j * 8 + i]? = some (.int .u8 (byt (f j) i))
theorem WalkAt.ext {w w' : World} {T : TypeId} {b : Nat} {f : Nat → Nat} {k : Nat} (h : WalkAt w T b f k) (hb : Below w.heap.size w w') : WalkAt w' T b f k := by
  obtain ⟨cur, h1, h2⟩ := h.blk
  exact ⟨cur, keepB hb h1, h2⟩
theorem WalkAt.lt {w : World} {T : TypeId} {b : Nat} {f : Nat → Nat} {k : Nat} (h : WalkAt w T b f k) : b < w.heap.size := by
  obtain ⟨cur, h1, _⟩ := h.blk
  exact (Array.getElem?_eq_some_iff.1 h1).1
theorem WalkAt.cell {w : World} {T : TypeId} {b : Nat} {f : Nat → Nat} {k : Nat} (h : WalkAt w T b f k) {i : Nat} (hi : i < 144) : ∃ y : Nat, w.cell? ⟨b, i, none⟩ = some (.int .u8 y) := by
  obtain ⟨cur, h1, _, h3, _⟩ := h.blk
  obtain ⟨y, hy⟩ := h3 i hi
  exact ⟨y, by rw [cell_of_row w b i _ _ _ h1]; exact hy⟩
theorem WalkAt.free {w : World} {T : TypeId} {b : Nat} {f : Nat → Nat} {k : Nat} (h : WalkAt w T b f k) (i : Nat) : w.frozen? ⟨b, i, none⟩ = false := by
  obtain ⟨cur, h1, _⟩ := h.blk
  simp [World.frozen?, h1]
theorem WalkAt.on {w : World} {T : TypeId} {b : Nat} {f : Nat → Nat} {j : Nat} (h : WalkAt w T b f j) (hj : j < 18) (x : Nat) (hx : x = f j) : WalkAt (World.setCell (World.setCell (World.setCell (World.setCell (World.setCell (World.setCell (World.setCell (World.setCell w ⟨b, j * 8, none⟩ (.int .u8 (byt x 0))) ⟨b, j * 8 + 1, none⟩ (.int .u8 (byt x 1))) ⟨b, j * 8 + 2, none⟩ (.int .u8 (byt x 2))) ⟨b, j * 8 + 3, none⟩ (.int .u8 (byt x 3))) ⟨b, j * 8 + 4, none⟩ (.int .u8 (byt x 4))) ⟨b, j * 8 + 5, none⟩ (.int .u8 (byt x 5))) ⟨b, j * 8 + 6, none⟩ (.int .u8 (byt x 6))) ⟨b, j * 8 + 7, none⟩ (.int .u8 (byt x 7))) T b f (j + 1) := by
  obtain ⟨cur, h1, h2, h3, h4⟩ := h.blk
  refine ⟨((((((((cur.setIfInBounds (j * 8) (.int .u8 (byt x 0))).setIfInBounds (j * 8 + 1) (.int .u8 (byt x 1))).setIfInBounds (j * 8 + 2) (.int .u8 (byt x 2))).setIfInBounds (j * 8 + 3) (.int .u8 (byt x 3))).setIfInBounds (j * 8 + 4) (.int .u8 (byt x 4))).setIfInBounds (j * 8 + 5) (.int .u8 (byt x 5))).setIfInBounds (j * 8 + 6) (.int .u8 (byt x 6))).setIfInBounds (j * 8 + 7) (.int .u8 (byt x 7))), ?_, by simpa using h2, fun i hi => ?_, fun l hl i hi => ?_⟩
  · exact (heap_set_same _ (heap_set_same _ (heap_set_same _ (heap_set_same _ (heap_set_same _ (heap_set_same _ (heap_set_same _ (heap_set_same _ h1))))))))
  · simp only [Array.getElem?_setIfInBounds, Array.size_setIfInBounds, h2]
    repeat' split
    all_goals first
      | exact ⟨_, rfl⟩
      | exact h3 i hi
      | omega
  · by_cases hlj : l = j
    · subst hlj
      subst hx
      simp only [Array.getElem?_setIfInBounds, Array.size_setIfInBounds, h2]
      match i, hi with
      | 0, _ => simp; omega
      | 1, _ => simp; omega
      | 2, _ => simp; omega
      | 3, _ => simp; omega
      | 4, _ => simp; omega
      | 5, _ => simp; omega
      | 6, _ => simp; omega
      | 7, _ => simp; omega
    · have h5 := h4 l (by omega) i hi
      simp only [Array.getElem?_setIfInBounds, Array.size_setIfInBounds, h2]
      rw [if_neg (by omega), if_neg (by omega), if_neg (by omega), if_neg (by omega), if_neg (by omega), if_neg (by omega), if_neg (by omega), if_neg (by omega)]
      exact h5
theorem WalkAt.rd {w : World} {T : TypeId} {b : Nat} {g st : Nat → Nat} (h : WalkAt w T b (fun c => chainI (g c) (st c)) 18) (hg : ∀ c, c < 18 → g c < 18446744073709551616) : RdD w (some ⟨b, 0, none⟩) 18 18 (walkL g st) := by
  obtain ⟨cur, h1, h2, h3, h4⟩ := h.blk
  refine ⟨walkL_len g st, Nat.le_refl _, by omega, fun _ => ⟨b, 0, rfl, h.lt, fun j hj i hi => ?_⟩, (fun e => by cases e), walkL_lt hg⟩
  rw [cell_of_row w b _ _ _ _ h1, Nat.zero_add, h4 j hj i hi, walkL_get g st hj]
theorem below_set8 {w0 w : World} {B b j : Nat} {x : Nat} (k : Below B w0 w) (hB : B ≤ w0.heap.size) (hb : B ≤ b) : Below B w0 (World.setCell (World.setCell (World.setCell (World.setCell (World.setCell (World.setCell (World.setCell (World.setCell w ⟨b, j * 8, none⟩ (.int .u8 (byt x 0))) ⟨b, j * 8 + 1, none⟩ (.int .u8 (byt x 1))) ⟨b, j * 8 + 2, none⟩ (.int .u8 (byt x 2))) ⟨b, j * 8 + 3, none⟩ (.int .u8 (byt x 3))) ⟨b, j * 8 + 4, none⟩ (.int .u8 (byt x 4))) ⟨b, j * 8 + 5, none⟩ (.int .u8 (byt x 5))) ⟨b, j * 8 + 6, none⟩ (.int .u8 (byt x 6))) ⟨b, j * 8 + 7, none⟩ (.int .u8 (byt x 7))) := (below_set (below_set (below_set (below_set (below_set (below_set (below_set (below_set k hB hb) hB hb) hB hb) hB hb) hB hb) hB hb) hB hb) hB hb)
#print axioms WalkAt.on
#print axioms WalkAt.rd
end Go.Proofs.Ytbhibfdlkahagaa
