/-
  once: rows of eighteen numbers that are compared.
-/
import Derived.Test.YtbhibfdlkahagaaOReach
namespace Go.Proofs.Ytbhibfdlkahagaa
open Go.RowKit

theorem eqItems_self {P : Program} {e : TypeId} (he : P.plainKey e = true) (hu : P.underlying e = some (.int .i64)) (A B : Array Value) (d : Nat) : ∀ (l : List Nat), (∀ i ∈ l, ∃ x : Int, A[i * 1]? = some (.int .i64 x) ∧ B[i * 1]? = some (.int .i64 x)) → ∀ w : World,
    (Op.eqItems (d + 1) e 1 A B l).run P w = .ok true w
  | [], _, w => by simp [Op.eqItems]
  | i :: l, h, w => by
    obtain ⟨x, h1, h2⟩ := h i (List.mem_cons_self ..)
    have p1 := run_part_plain (w := w) he h1
    have p2 := run_part_plain (w := w) he h2
    have p3 := run_equalIn_int (P := P) w d e .i64 .i64 x x hu
    have p4 := eqItems_self he hu A B d l (fun j hj => h j (List.mem_cons_of_mem _ hj)) w
    simp only [Op.eqItems, Sem.run_bind, p1, p2, p3, Result.andThen_ok]
    simpa using p4
theorem eql_18 {A B : Array Value} (h : ∀ i ∈ List.range 18, ∃ x : Int, A[i * 1]? = some (.int .i64 x) ∧ B[i * 1]? = some (.int .i64 x)) (w : World) :
    (binOp .eql 42 (.agg A) (.agg B)).run Try.prog w = .ok (.bool true) w := by
  obtain ⟨i, hi, _⟩ := info_parts (show (Try.prog.info? 3).map (fun i => (i.zero, i.size, i.bytes)) = some (some (.int .i64 0), 1, 8) by kernel_rfl)
  have h1 := run_equalIn_array (P := Try.prog) (w := w) 9999 A B Try.underlying42 hi
  rw [show Try.prog.cellsOf 3 = 1 by kernel_rfl, eqItems_self (P := Try.prog) (by kernel_rfl) Try.underlying3 A B 9998 (List.range 18) h w] at h1
  have := run_eql_struct (P := Try.prog) w 42 A B
  rw [h1] at this
  exact this
theorem digA18_both (m : Nat) : ∀ i ∈ List.range 18, ∃ x : Int, (digA18 m)[i * 1]? = some (.int .i64 x) ∧ (digA18 m)[i * 1]? = some (.int .i64 x) := by
  intro i hi
  have hi : i < 18 := by simpa using hi
  match i, hi with
  | 0, _ => exact ⟨_, rfl, rfl⟩
  | 1, _ => exact ⟨_, rfl, rfl⟩
  | 2, _ => exact ⟨_, rfl, rfl⟩
  | 3, _ => exact ⟨_, rfl, rfl⟩
  | 4, _ => exact ⟨_, rfl, rfl⟩
  | 5, _ => exact ⟨_, rfl, rfl⟩
  | 6, _ => exact ⟨_, rfl, rfl⟩
  | 7, _ => exact ⟨_, rfl, rfl⟩
  | 8, _ => exact ⟨_, rfl, rfl⟩
  | 9, _ => exact ⟨_, rfl, rfl⟩
  | 10, _ => exact ⟨_, rfl, rfl⟩
  | 11, _ => exact ⟨_, rfl, rfl⟩
  | 12, _ => exact ⟨_, rfl, rfl⟩
  | 13, _ => exact ⟨_, rfl, rfl⟩
  | 14, _ => exact ⟨_, rfl, rfl⟩
  | 15, _ => exact ⟨_, rfl, rfl⟩
  | 16, _ => exact ⟨_, rfl, rfl⟩
  | 17, _ => exact ⟨_, rfl, rfl⟩
  | i + 18, h => exact absurd h (by omega)
theorem digs_zero : digV18 0 = .agg #[.int .i64 0, .int .i64 0, .int .i64 0, .int .i64 0, .int .i64 0, .int .i64 0, .int .i64 0, .int .i64 0, .int .i64 0, .int .i64 0, .int .i64 0, .int .i64 0, .int .i64 0, .int .i64 0, .int .i64 0, .int .i64 0, .int .i64 0, .int .i64 15] := by rfl
theorem digs_full : digV18 18446744073709551615 = .agg #[.int .i64 15, .int .i64 15, .int .i64 15, .int .i64 15, .int .i64 15, .int .i64 15, .int .i64 15, .int .i64 15, .int .i64 15, .int .i64 15, .int .i64 15, .int .i64 15, .int .i64 15, .int .i64 15, .int .i64 15, .int .i64 15, .int .i64 0, .int .i64 0] := by rfl
theorem dig_0 : digV 0 = .agg #[.int .u8 0, .int .u8 0, .int .u8 0, .int .u8 0, .int .u8 0, .int .u8 0, .int .u8 0, .int .u8 0] := by rfl
theorem dig_7 : digV 7 = .agg #[.int .u8 7, .int .u8 0, .int .u8 0, .int .u8 0, .int .u8 0, .int .u8 0, .int .u8 0, .int .u8 0] := by rfl
theorem dig_9 : digV 9 = .agg #[.int .u8 9, .int .u8 0, .int .u8 0, .int .u8 0, .int .u8 0, .int .u8 0, .int .u8 0, .int .u8 0] := by rfl
theorem dig_ff : digV 18446744073709551615 = .agg #[.int .u8 255, .int .u8 255, .int .u8 255, .int .u8 255, .int .u8 255, .int .u8 255, .int .u8 255, .int .u8 255] := by rfl
#print axioms eql_18
#print axioms digs_full
end Go.Proofs.Ytbhibfdlkahagaa
