/-
  hash: digests that are compared.
-/
import Derived.Test.YtbejjmmopdcjoaaDoorHNum
import Derived.ChangeKeysEq
import Derived.Laws.StructEq
namespace Go.Proofs.YtbejjmmopdcjoaaDoor
open Go.RowKit

def digA (n : Nat) : Array Value := #[.int .u8 (byt n 0), .int .u8 (byt n 1), .int .u8 (byt n 2), .int .u8 (byt n 3), .int .u8 (byt n 4), .int .u8 (byt n 5), .int .u8 (byt n 6), .int .u8 (byt n 7)]
theorem digA_at (n : Nat) : ∀ (i : Nat), i < 8 → (digA n)[i * 1]? = some (.int .u8 (byt n i))
  | 0, _ => rfl
  | 1, _ => rfl
  | 2, _ => rfl
  | 3, _ => rfl
  | 4, _ => rfl
  | 5, _ => rfl
  | 6, _ => rfl
  | 7, _ => rfl
  | i + 8, h => absurd h (by omega)
theorem eqItems_dig {P : Program} {e : TypeId} (he : P.plainKey e = true) (hu : P.underlying e = some (.int .u8)) (n m d : Nat) : ∀ (l : List Nat), (∀ i ∈ l, i < 8) → ∀ w : World,
    (Op.eqItems (d + 1) e 1 (digA n) (digA m) l).run P w = .ok (l.all fun i => byt n i == byt m i) w
  | [], _, w => by simp [Op.eqItems]
  | i :: l, h, w => by
    have h1 := digA_at n i (h i (List.mem_cons_self ..))
    have h2 := digA_at m i (h i (List.mem_cons_self ..))
    have p1 := run_part_plain (w := w) he h1
    have p2 := run_part_plain (w := w) he h2
    have p3 := run_equalIn_int (P := P) w d e .u8 .u8 (byt n i : Int) (byt m i : Int) hu
    have p4 := eqItems_dig he hu n m d l (fun j hj => h j (List.mem_cons_of_mem _ hj)) w
    simp only [Op.eqItems, Sem.run_bind, p1, p2, p3, Result.andThen_ok]
    rw [List.all_cons]
    by_cases hb : byt n i = byt m i
    · have e1 : ((byt n i : Int) == (byt m i : Int)) = true := by rw [hb]; simp
      have e2 : (byt n i == byt m i) = true := by rw [hb]; simp
      rw [e1, e2]
      simpa using p4
    · have e1 : ((byt n i : Int) == (byt m i : Int)) = false := by rw [beq_eq_false_iff_ne]; omega
      have e2 : (byt n i == byt m i) = false := by rw [beq_eq_false_iff_ne]; exact hb
      rw [e1, e2]
      simp
theorem all_bytes {n m : Nat} (hn : n < 18446744073709551616) (hm : m < 18446744073709551616) : ((List.range 8).all fun i => byt n i == byt m i) = decide (n = m) := by
  rw [Bool.eq_iff_iff, List.all_eq_true, decide_eq_true_iff]
  refine ⟨fun h => ?_, fun h => by subst h; simp⟩
  have h' : ∀ i, i < 8 → byt n i = byt m i := fun i hi => by simpa using h i (by simpa using hi)
  have e1 := val8 hn
  have e2 := val8 hm
  rw [← e1, ← e2, h' 0 (by omega), h' 1 (by omega), h' 2 (by omega), h' 3 (by omega), h' 4 (by omega), h' 5 (by omega), h' 6 (by omega), h' 7 (by omega)]
theorem run_eq_dig {P : Program} {t e : TypeId} {i : TypeInfo} (ht : P.underlying t = some (.array 8 e)) (hi : P.info? e = some i) (hc : P.cellsOf e = 1) (he : P.plainKey e = true) (hu : P.underlying e = some (.int .u8)) {n m : Nat} (hn : n < 18446744073709551616) (hm : m < 18446744073709551616) (w : World) :
    (Op.equalIn 10000 t (digV n) (digV m)).run P w = .ok (decide (n = m)) w := by
  have h := run_equalIn_array (P := P) (w := w) 9999 (digA n) (digA m) ht hi
  rw [hc, eqItems_dig he hu n m 9998 (List.range 8) (fun j hj => by simpa using hj) w, all_bytes hn hm] at h
  exact h
theorem eql_dig {P : Program} {t e : TypeId} {i : TypeInfo} (ht : P.underlying t = some (.array 8 e)) (hi : P.info? e = some i) (hc : P.cellsOf e = 1) (he : P.plainKey e = true) (hu : P.underlying e = some (.int .u8)) {n m : Nat} (hn : n < 18446744073709551616) (hm : m < 18446744073709551616) (w : World) :
    (binOp .eql t (digV n) (digV m)).run P w = .ok (.bool (decide (n = m))) w := by
  have h := run_eq_dig ht hi hc he hu hn hm w
  have := run_eql_struct (P := P) w t (digA n) (digA m)
  rw [show (.agg (digA n) : Value) = digV n from rfl, show (.agg (digA m) : Value) = digV m from rfl, h] at this
  exact this
theorem neq_dig {P : Program} {t e : TypeId} {i : TypeInfo} (ht : P.underlying t = some (.array 8 e)) (hi : P.info? e = some i) (hc : P.cellsOf e = 1) (he : P.plainKey e = true) (hu : P.underlying e = some (.int .u8)) {n m : Nat} (hn : n < 18446744073709551616) (hm : m < 18446744073709551616) (w : World) :
    (binOp .neq t (digV n) (digV m)).run P w = .ok (.bool (!decide (n = m))) w := by
  have h := run_eq_dig ht hi hc he hu hn hm w
  have := run_neq_struct (P := P) w t (digA n) (digA m)
  rw [show (.agg (digA n) : Value) = digV n from rfl, show (.agg (digA m) : Value) = digV m from rfl, h] at this
  exact this
theorem eql_d {n m : Nat} (hn : n < 18446744073709551616) (hm : m < 18446744073709551616) (w : World) : (binOp .eql 26 (digV n) (digV m)).run Tryd.prog w = .ok (.bool (decide (n = m))) w := by
  obtain ⟨i, hi, _⟩ := info_parts (show (Tryd.prog.info? 5).map (fun i => (i.zero, i.size, i.bytes)) = some (some (.int .u8 0), 1, 1) by kernel_rfl)
  exact eql_dig Tryd.underlying26 hi (by kernel_rfl) (by kernel_rfl) Tryd.underlying5 hn hm w
theorem neq_d {n m : Nat} (hn : n < 18446744073709551616) (hm : m < 18446744073709551616) (w : World) : (binOp .neq 26 (digV n) (digV m)).run Tryd.prog w = .ok (.bool (!decide (n = m))) w := by
  obtain ⟨i, hi, _⟩ := info_parts (show (Tryd.prog.info? 5).map (fun i => (i.zero, i.size, i.bytes)) = some (some (.int .u8 0), 1, 1) by kernel_rfl)
  exact neq_dig Tryd.underlying26 hi (by kernel_rfl) (by kernel_rfl) Tryd.underlying5 hn hm w
theorem eql_r {n m : Nat} (hn : n < 18446744073709551616) (hm : m < 18446744073709551616) (w : World) : (binOp .eql 25 (digV n) (digV m)).run Tryd.prog w = .ok (.bool (decide (n = m))) w := by
  obtain ⟨i, hi, _⟩ := info_parts (show (Tryd.prog.info? 5).map (fun i => (i.zero, i.size, i.bytes)) = some (some (.int .u8 0), 1, 1) by kernel_rfl)
  exact eql_dig Tryd.underlying25 hi (by kernel_rfl) (by kernel_rfl) Tryd.underlying5 hn hm w
theorem neq_r {n m : Nat} (hn : n < 18446744073709551616) (hm : m < 18446744073709551616) (w : World) : (binOp .neq 25 (digV n) (digV m)).run Tryd.prog w = .ok (.bool (!decide (n = m))) w := by
  obtain ⟨i, hi, _⟩ := info_parts (show (Tryd.prog.info? 5).map (fun i => (i.zero, i.size, i.bytes)) = some (some (.int .u8 0), 1, 1) by kernel_rfl)
  exact neq_dig Tryd.underlying25 hi (by kernel_rfl) (by kernel_rfl) Tryd.underlying5 hn hm w
theorem guard_d (op : BinOp) (n m : Nat) (x y : Operand) (w : World) : (eqGuard op 26 x y (digV n) (digV m)).run Tryd.prog w = .ok () w := run_eqGuard_agg w op _ x y (digA n) (digA m) (by kernel_rfl)
theorem guard_r (op : BinOp) (n m : Nat) (x y : Operand) (w : World) : (eqGuard op 25 x y (digV n) (digV m)).run Tryd.prog w = .ok () w := run_eqGuard_agg w op _ x y (digA n) (digA m) (by kernel_rfl)
#print axioms neq_r
end Go.Proofs.YtbejjmmopdcjoaaDoor
