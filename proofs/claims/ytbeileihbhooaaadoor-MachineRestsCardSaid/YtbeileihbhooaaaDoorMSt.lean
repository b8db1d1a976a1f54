/-
  machine: a state in memory.
-/
import Derived.Test.YtbeileihbhooaaaDoorMMem
import Derived.Test.YtbeileihbhooaaaDoorMPure
import Derived.Test.YtbeileihbhooaaaDoorGWord
namespace Go.Proofs.YtbeileihbhooaaaDoor
open Go.RowKit

theorem setM {w : World} {b j : Nat} {T : TypeId} {vs : Array Value} (h : w.heap[b]? = some (.cells vs T (0, 0))) (v : Value) : (w.setCell ⟨b, j, none⟩ v).heap[b]? = some (.cells (vs.setIfInBounds j v) T (0, 0)) := heap_setCell_same w b j vs T v h
theorem awayM {w : World} {g x j : Nat} {v : Value} (h : x ≠ g) : (w.setCell ⟨g, j, none⟩ v).heap[x]? = w.heap[x]? := Below.heap_setCell _ _ _ _ h
theorem grownSetM {w : World} {b j : Nat} (u : Value) : w.grownBy (w.setCell ⟨b, j, none⟩ u) (some b) :=
  ⟨rfl, rfl, rfl, by simp [World.setCell], fun k _ hk => Below.heap_setCell _ _ _ _ (fun e => hk (by rw [e]))⟩

/-- a state in block g, its words in block r -/
structure StM (w : World) (g r n c : Nat) (s : MS) : Prop where
  blk : w.heap[g]? = some (.cells #[.int .i64 s.pc, .slice (some ⟨r, 0, none⟩) n c, .int .i64 s.halt] 30 (0, 0))
  row : OwnW w 21 (g + 1) (some ⟨r, 0, none⟩) n c s.mem

theorem StM.lt {w : World} {g r n c : Nat} {s : MS} (h : StM w g r n c s) : g < w.heap.size ∧ g < r ∧ r < w.heap.size ∧ s.mem.length = n ∧ n ≤ c ∧ c ≤ 9223372036854775807 := by
  have h1 := h.row.row_ge r rfl
  exact ⟨(Array.getElem?_eq_some_iff.1 h.blk).1, by omega, h1.2, h.row.len, h.row.rd.le, h.row.max⟩
theorem StM.ext {w w' : World} {g r n c : Nat} {s : MS} (h : StM w g r n c s) (k : Below w.heap.size w w') : StM w' g r n c s := ⟨keepG k h.blk, h.row.ext k⟩
theorem StM.cells {w : World} {g r n c : Nat} {s : MS} (h : StM w g r n c s) : w.cell? ⟨g, 0, none⟩ = some (.int .i64 s.pc) ∧ w.cell? ⟨g, 1, none⟩ = some (.slice (some ⟨r, 0, none⟩) n c) ∧ w.cell? ⟨g, 2, none⟩ = some (.int .i64 s.halt) ∧ w.frozen? ⟨g, 0, none⟩ = false ∧ w.frozen? ⟨g, 2, none⟩ = false :=
  ⟨(full3i h.blk).1, (full3i h.blk).2.1, (full3i h.blk).2.2, by simp [World.frozen?, h.blk], by simp [World.frozen?, h.blk]⟩
theorem StM.word {w : World} {g r n c : Nat} {s : MS} (h : StM w g r n c s) {j : Nat} (hj : j < n) : w.cell? ⟨r, j, none⟩ = some (.int .i32 (getW s.mem j)) := by
  rw [h.row.get hj]
  unfold getW
  rw [Int.toNat_natCast]
theorem StM.free {w : World} {g r n c : Nat} {s : MS} (h : StM w g r n c s) (j : Nat) : w.frozen? ⟨r, j, none⟩ = false := World.ownsRow.frozenAt h.row.row j
theorem StM.setPc {w : World} {g r n c : Nat} {s : MS} (h : StM w g r n c s) (p : Int) : StM (w.setCell ⟨g, 0, none⟩ (.int .i64 p)) g r n c ⟨p, s.mem, s.halt⟩ :=
  ⟨setM h.blk _, h.row.kept (grownSetM _) (fun k e => by injection e with e; omega)⟩
theorem StM.setHalt {w : World} {g r n c : Nat} {s : MS} (h : StM w g r n c s) (p : Int) : StM (w.setCell ⟨g, 2, none⟩ (.int .i64 p)) g r n c ⟨s.pc, s.mem, p⟩ :=
  ⟨setM h.blk _, h.row.kept (grownSetM _) (fun k e => by injection e with e; omega)⟩
theorem StM.setWord {w : World} {g r n c : Nat} {s : MS} (h : StM w g r n c s) (j : Nat) (v : Int) : StM (w.setCell ⟨r, j, none⟩ (.int .i32 v)) g r n c ⟨s.pc, setW s.mem j v, s.halt⟩ := by
  have hl := h.lt
  refine ⟨(awayM (by omega)).trans h.blk, ?_⟩
  have := (h.row.set j v).1
  unfold setW
  rw [Int.toNat_natCast]
  exact this

/-- all blocks but two are as they were -/
structure Kept (w w' : World) (g r : Nat) : Prop where
  os : w'.os = w.os
  tape : w'.tape = w.tape
  output : w'.output = w.output
  size : w.heap.size ≤ w'.heap.size
  block : ∀ k, k < w.heap.size → k ≠ g → k ≠ r → w'.heap[k]? = w.heap[k]?
theorem Kept.refl (w : World) (g r : Nat) : Kept w w g r := ⟨rfl, rfl, rfl, Nat.le_refl _, fun _ _ _ _ => rfl⟩
theorem Kept.trans {a b c : World} {g r : Nat} (h : Kept a b g r) (k : Kept b c g r) : Kept a c g r :=
  ⟨k.os.trans h.os, k.tape.trans h.tape, k.output.trans h.output, Nat.le_trans h.size k.size, fun i hi h1 h2 => (k.block i (Nat.lt_of_lt_of_le hi h.size) h1 h2).trans (h.block i hi h1 h2)⟩
theorem Kept.of {w w' : World} {g r : Nat} (k : Below w.heap.size w w') : Kept w w' g r := ⟨k.os, k.tape, k.output, k.size, fun i hi _ _ => k.block i hi⟩
theorem Kept.setG {w w' : World} {g r j : Nat} (h : Kept w w' g r) (v : Value) : Kept w (w'.setCell ⟨g, j, none⟩ v) g r :=
  h.trans ⟨rfl, rfl, rfl, by simp [World.setCell], fun _ _ h1 _ => awayM h1⟩
theorem Kept.setR {w w' : World} {g r j : Nat} (h : Kept w w' g r) (v : Value) : Kept w (w'.setCell ⟨r, j, none⟩ v) g r :=
  h.trans ⟨rfl, rfl, rfl, by simp [World.setCell], fun _ _ _ h2 => awayM h2⟩
/-- a store into a new block -/
theorem Kept.setN {w w' : World} {g r q j : Nat} (h : Kept w w' g r) (hq : w.heap.size ≤ q) (v : Value) : Kept w (w'.setCell ⟨q, j, none⟩ v) g r :=
  ⟨h.os, h.tape, h.output, by simpa [World.setCell] using h.size, fun i hi h1 h2 => (awayM (by omega)).trans (h.block i hi h1 h2)⟩
theorem Kept.below {w w' : World} {g r B : Nat} (h : Kept w w' g r) (hB : B ≤ w.heap.size) (hg : B ≤ g) (hr : B ≤ r) : Below B w w' := ⟨h.os, h.tape, h.output, h.size, fun i hi => h.block i (by omega) (by omega) (by omega)⟩
#print axioms StM.setWord
#print axioms Kept.below
end Go.Proofs.YtbeileihbhooaaaDoor
