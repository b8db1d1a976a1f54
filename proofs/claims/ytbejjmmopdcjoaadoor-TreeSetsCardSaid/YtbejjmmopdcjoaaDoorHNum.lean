/-
  hash: Num, FromNum, and the document's: contracts.
-/
import Derived.Test.YtbejjmmopdcjoaaDoorHStir
import Derived.Handy
import Derived.ChangeKeysEq
namespace Go.Proofs.YtbejjmmopdcjoaaDoor
open Go.RowKit

/-- a number's byte -/
def byt (n i : Nat) : Nat := n / 256 ^ i % 256
/-- the digest of a number -/
def digV (n : Nat) : Value := .agg #[.int .u8 (byt n 0), .int .u8 (byt n 1), .int .u8 (byt n 2), .int .u8 (byt n 3), .int .u8 (byt n 4), .int .u8 (byt n 5), .int .u8 (byt n 6), .int .u8 (byt n 7)]

theorem run_index_agg {P : Program} {t e : TypeId} {n : Nat} {cs : Array Value} {k : IntKind} {i : Int} {v : Value} (h : P.underlying t = some (.array n e)) (h0 : 0 ≤ i) (hn : i < n) (hs : (P.info? e).map (·.size) = some 1) (hp : P.plainKey e = true)
    (hv : cs[i.toNat]? = some v) (w : World) : (Instr.index t (.agg cs) (.int k i)).run P w = .ok v w := by
  have hi : 0 ≤ i ∧ i < (n : Int) := ⟨h0, hn⟩
  obtain ⟨y, hy, hy2⟩ := Option.map_eq_some_iff.1 hs
  have hz : (sizeOf e).run P w = .ok 1 w := by simp [sizeOf, typeInfo, hy, hy2]
  have hpart := run_part_plain (w := w) hp (xs := cs) (off := i.toNat) hv
  simp [Instr.index, run_underlying h, asIntOf, hi, hz, hpart]

theorem or_put {a x k p : Nat} (hp : p = 2 ^ k) (ha : a < p) (hs : a + x * p < 18446744073709551616) : bits BinOp.or IntKind.u64 (a : Int) ((x : Int) * (p : Int)) = ((a + x * p : Nat) : Int) := by
  have e : (x : Int) * (p : Int) = ((x * p : Nat) : Int) := by simp
  rw [e, bits_or_u64_nat _ _ (by omega) (by omega)]
  congr 1
  subst hp
  have := Nat.shiftLeft_add_eq_or_of_lt ha x
  rw [Nat.shiftLeft_eq] at this
  rw [Nat.or_comm, ← this]
  omega
theorem or_zero {x : Nat} (hs : x < 18446744073709551616) : bits BinOp.or IntKind.u64 0 (x : Int) = (x : Int) := by
  have := bits_or_u64_nat 0 x (by omega) hs
  rw [Nat.zero_or] at this
  exact this
theorem val8 {n : Nat} (h : n < 18446744073709551616) : byt n 0 + byt n 1 * 256 + byt n 2 * 65536 + byt n 3 * 16777216 + byt n 4 * 4294967296 + byt n 5 * 1099511627776 + byt n 6 * 281474976710656 + byt n 7 * 72057594037927936 = n := by
  simp only [byt, Nat.reducePow]
  omega
set_option maxRecDepth 100000 in
set_option maxHeartbeats 1000000 in
theorem num_c (w : World) (n : Nat) (h : n < 18446744073709551616) : Calls Tryd.prog 58 #[digV n] w (Hands (.int .u64 n) w) := by
  unfold digV
  have hb : ∀ i, byt n i < 256 := fun i => Nat.mod_lt _ (by omega)
  have hn := val8 h
  obtain ⟨b0, h0⟩ : ∃ b, b = byt n 0 := ⟨_, rfl⟩
  obtain ⟨b1, h1⟩ : ∃ b, b = byt n 1 := ⟨_, rfl⟩
  obtain ⟨b2, h2⟩ : ∃ b, b = byt n 2 := ⟨_, rfl⟩
  obtain ⟨b3, h3⟩ : ∃ b, b = byt n 3 := ⟨_, rfl⟩
  obtain ⟨b4, h4⟩ : ∃ b, b = byt n 4 := ⟨_, rfl⟩
  obtain ⟨b5, h5⟩ : ∃ b, b = byt n 5 := ⟨_, rfl⟩
  obtain ⟨b6, h6⟩ : ∃ b, b = byt n 6 := ⟨_, rfl⟩
  obtain ⟨b7, h7⟩ : ∃ b, b = byt n 7 := ⟨_, rfl⟩
  rw [← h0, ← h1, ← h2, ← h3, ← h4, ← h5, ← h6, ← h7] at hn ⊢
  have l0 : b0 < 256 := by rw [h0]; exact hb 0
  have l1 : b1 < 256 := by rw [h1]; exact hb 1
  have l2 : b2 < 256 := by rw [h2]; exact hb 2
  have l3 : b3 < 256 := by rw [h3]; exact hb 3
  have l4 : b4 < 256 := by rw [h4]; exact hb 4
  have l5 : b5 < 256 := by rw [h5]; exact hb 5
  have l6 : b6 < 256 := by rw [h6]; exact hb 6
  have l7 : b7 < 256 := by rw [h7]; exact hb 7
  clear h0 h1 h2 h3 h4 h5 h6 h7 hb
  have HN := Lib.hid hn
  clear hn
  have e0 : bits BinOp.or IntKind.u64 0 (b0 : Int) = (b0 : Int) := or_zero (by omega)
  obtain ⟨a1, ha1⟩ : ∃ a, a = b0 + b1 * 256 := ⟨_, rfl⟩
  have m1 : a1 < 65536 := by omega
  have e1 : bits BinOp.or IntKind.u64 (b0 : Int) ((b1 : Int) * 256) = (a1 : Int) := by rw [ha1]; exact or_put (p := 256) (k := 8) (by decide) (by omega) (by omega)
  obtain ⟨a2, ha2⟩ : ∃ a, a = a1 + b2 * 65536 := ⟨_, rfl⟩
  have m2 : a2 < 16777216 := by omega
  have e2 : bits BinOp.or IntKind.u64 (a1 : Int) ((b2 : Int) * 65536) = (a2 : Int) := by rw [ha2]; exact or_put (p := 65536) (k := 16) (by decide) (by omega) (by omega)
  obtain ⟨a3, ha3⟩ : ∃ a, a = a2 + b3 * 16777216 := ⟨_, rfl⟩
  have m3 : a3 < 4294967296 := by omega
  have e3 : bits BinOp.or IntKind.u64 (a2 : Int) ((b3 : Int) * 16777216) = (a3 : Int) := by rw [ha3]; exact or_put (p := 16777216) (k := 24) (by decide) (by omega) (by omega)
  obtain ⟨a4, ha4⟩ : ∃ a, a = a3 + b4 * 4294967296 := ⟨_, rfl⟩
  have m4 : a4 < 1099511627776 := by omega
  have e4 : bits BinOp.or IntKind.u64 (a3 : Int) ((b4 : Int) * 4294967296) = (a4 : Int) := by rw [ha4]; exact or_put (p := 4294967296) (k := 32) (by decide) (by omega) (by omega)
  obtain ⟨a5, ha5⟩ : ∃ a, a = a4 + b5 * 1099511627776 := ⟨_, rfl⟩
  have m5 : a5 < 281474976710656 := by omega
  have e5 : bits BinOp.or IntKind.u64 (a4 : Int) ((b5 : Int) * 1099511627776) = (a5 : Int) := by rw [ha5]; exact or_put (p := 1099511627776) (k := 40) (by decide) (by omega) (by omega)
  obtain ⟨a6, ha6⟩ : ∃ a, a = a5 + b6 * 281474976710656 := ⟨_, rfl⟩
  have m6 : a6 < 72057594037927936 := by omega
  have e6 : bits BinOp.or IntKind.u64 (a5 : Int) ((b6 : Int) * 281474976710656) = (a6 : Int) := by rw [ha6]; exact or_put (p := 281474976710656) (k := 48) (by decide) (by omega) (by omega)
  obtain ⟨a7, ha7⟩ : ∃ a, a = a6 + b7 * 72057594037927936 := ⟨_, rfl⟩
  have m7 : a7 < 18446744073709551616 := by omega
  have e7 : bits BinOp.or IntKind.u64 (a6 : Int) ((b7 : Int) * 72057594037927936) = (a7 : Int) := by rw [ha7]; exact or_put (p := 72057594037927936) (k := 56) (by decide) (by omega) (by omega)
  have HA : Hid (a7 = n) := by show a7 = n; rw [← HN.out]; omega
  clear ha1 ha2 ha3 ha4 ha5 ha6 ha7
  have I0 : ∀ w, (Instr.index 26 (.agg #[.int .u8 b0, .int .u8 b1, .int .u8 b2, .int .u8 b3, .int .u8 b4, .int .u8 b5, .int .u8 b6, .int .u8 b7]) (.int .i64 0)).run Tryd.prog w = .ok (.int .u8 b0) w := run_index_agg Tryd.underlying26 (by omega) (by omega) (by kernel_rfl) (by kernel_rfl) rfl
  have I1 : ∀ w, (Instr.index 26 (.agg #[.int .u8 b0, .int .u8 b1, .int .u8 b2, .int .u8 b3, .int .u8 b4, .int .u8 b5, .int .u8 b6, .int .u8 b7]) (.int .i64 1)).run Tryd.prog w = .ok (.int .u8 b1) w := run_index_agg Tryd.underlying26 (by omega) (by omega) (by kernel_rfl) (by kernel_rfl) rfl
  have I2 : ∀ w, (Instr.index 26 (.agg #[.int .u8 b0, .int .u8 b1, .int .u8 b2, .int .u8 b3, .int .u8 b4, .int .u8 b5, .int .u8 b6, .int .u8 b7]) (.int .i64 2)).run Tryd.prog w = .ok (.int .u8 b2) w := run_index_agg Tryd.underlying26 (by omega) (by omega) (by kernel_rfl) (by kernel_rfl) rfl
  have I3 : ∀ w, (Instr.index 26 (.agg #[.int .u8 b0, .int .u8 b1, .int .u8 b2, .int .u8 b3, .int .u8 b4, .int .u8 b5, .int .u8 b6, .int .u8 b7]) (.int .i64 3)).run Tryd.prog w = .ok (.int .u8 b3) w := run_index_agg Tryd.underlying26 (by omega) (by omega) (by kernel_rfl) (by kernel_rfl) rfl
  have I4 : ∀ w, (Instr.index 26 (.agg #[.int .u8 b0, .int .u8 b1, .int .u8 b2, .int .u8 b3, .int .u8 b4, .int .u8 b5, .int .u8 b6, .int .u8 b7]) (.int .i64 4)).run Tryd.prog w = .ok (.int .u8 b4) w := run_index_agg Tryd.underlying26 (by omega) (by omega) (by kernel_rfl) (by kernel_rfl) rfl
  have I5 : ∀ w, (Instr.index 26 (.agg #[.int .u8 b0, .int .u8 b1, .int .u8 b2, .int .u8 b3, .int .u8 b4, .int .u8 b5, .int .u8 b6, .int .u8 b7]) (.int .i64 5)).run Tryd.prog w = .ok (.int .u8 b5) w := run_index_agg Tryd.underlying26 (by omega) (by omega) (by kernel_rfl) (by kernel_rfl) rfl
  have I6 : ∀ w, (Instr.index 26 (.agg #[.int .u8 b0, .int .u8 b1, .int .u8 b2, .int .u8 b3, .int .u8 b4, .int .u8 b5, .int .u8 b6, .int .u8 b7]) (.int .i64 6)).run Tryd.prog w = .ok (.int .u8 b6) w := run_index_agg Tryd.underlying26 (by omega) (by omega) (by kernel_rfl) (by kernel_rfl) rfl
  have I7 : ∀ w, (Instr.index 26 (.agg #[.int .u8 b0, .int .u8 b1, .int .u8 b2, .int .u8 b3, .int .u8 b4, .int .u8 b5, .int .u8 b6, .int .u8 b7]) (.int .i64 7)).run Tryd.prog w = .ok (.int .u8 b7) w := run_index_agg Tryd.underlying26 (by omega) (by omega) (by kernel_rfl) (by kernel_rfl) rfl
  go_enter Tryd.func58, Tryd.ntmps58
  go_wp2_with fail
  go_rounds 9
  go_ret
  exact ⟨by rw [← HA.out]; rfl, ext_alloc _ _⟩
set_option maxRecDepth 100000 in
set_option maxHeartbeats 1000000 in
theorem rnum_c (w : World) (n : Nat) (h : n < 18446744073709551616) : Calls Tryd.prog 54 #[digV n] w (Hands (.int .u64 n) w) := by
  unfold digV
  have hb : ∀ i, byt n i < 256 := fun i => Nat.mod_lt _ (by omega)
  have hn := val8 h
  obtain ⟨b0, h0⟩ : ∃ b, b = byt n 0 := ⟨_, rfl⟩
  obtain ⟨b1, h1⟩ : ∃ b, b = byt n 1 := ⟨_, rfl⟩
  obtain ⟨b2, h2⟩ : ∃ b, b = byt n 2 := ⟨_, rfl⟩
  obtain ⟨b3, h3⟩ : ∃ b, b = byt n 3 := ⟨_, rfl⟩
  obtain ⟨b4, h4⟩ : ∃ b, b = byt n 4 := ⟨_, rfl⟩
  obtain ⟨b5, h5⟩ : ∃ b, b = byt n 5 := ⟨_, rfl⟩
  obtain ⟨b6, h6⟩ : ∃ b, b = byt n 6 := ⟨_, rfl⟩
  obtain ⟨b7, h7⟩ : ∃ b, b = byt n 7 := ⟨_, rfl⟩
  rw [← h0, ← h1, ← h2, ← h3, ← h4, ← h5, ← h6, ← h7] at hn ⊢
  have l0 : b0 < 256 := by rw [h0]; exact hb 0
  have l1 : b1 < 256 := by rw [h1]; exact hb 1
  have l2 : b2 < 256 := by rw [h2]; exact hb 2
  have l3 : b3 < 256 := by rw [h3]; exact hb 3
  have l4 : b4 < 256 := by rw [h4]; exact hb 4
  have l5 : b5 < 256 := by rw [h5]; exact hb 5
  have l6 : b6 < 256 := by rw [h6]; exact hb 6
  have l7 : b7 < 256 := by rw [h7]; exact hb 7
  clear h0 h1 h2 h3 h4 h5 h6 h7 hb
  have HN := Lib.hid hn
  clear hn
  have HA : Hid ((((((((b7 : Int) * 256 + b6) * 256 + b5) * 256 + b4) * 256 + b3) * 256 + b2) * 256 + b1) * 256 + b0 = (n : Int)) := by show _ = _; rw [← HN.out]; omega
  go_enter Tryd.func54, Tryd.ntmps54
  go_wp2_with fail
  go_rounds 9
  go_ret
  exact ⟨by rw [← HA.out]; rfl, ext_alloc _ _⟩
theorem byt_eq (n : Nat) : ((byt n 0 : Nat) : Int) = (n : Int) % 256 ∧ ((byt n 1 : Nat) : Int) = (n : Int) / 256 % 256 ∧ ((byt n 2 : Nat) : Int) = (n : Int) / 65536 % 256 ∧ ((byt n 3 : Nat) : Int) = (n : Int) / 16777216 % 256 ∧ ((byt n 4 : Nat) : Int) = (n : Int) / 4294967296 % 256 ∧
    ((byt n 5 : Nat) : Int) = (n : Int) / 1099511627776 % 256 ∧ ((byt n 6 : Nat) : Int) = (n : Int) / 281474976710656 % 256 ∧ ((byt n 7 : Nat) : Int) = (n : Int) / 72057594037927936 % 256 := by
  simp only [byt, Nat.reducePow]
  omega
theorem byt_top {n : Nat} (h : n < 18446744073709551616) : (n : Int) / 72057594037927936 % 256 = (n : Int) / 72057594037927936 := by omega
set_option maxRecDepth 100000 in
set_option maxHeartbeats 1000000 in
theorem fromNum_c (w : World) (n : Nat) (h : n < 18446744073709551616) : Calls Tryd.prog 69 #[.int .u64 n] w (Hands (digV n) w) := by
  have B := Lib.hid (byt_eq n)
  have T := Lib.hid (byt_top h)
  go_enter Tryd.func69, Tryd.ntmps69
  go_wp2_with fail
  go_rounds 9
  refine bodyPost_ret (v := digV n) ?_ rfl ⟨rfl, ext_trans (ext_alloc _ _) (ext_alloc _ _)⟩
  unfold digV
  obtain ⟨e0, e1, e2, e3, e4, e5, e6, e7⟩ := B.out
  rw [e0, e1, e2, e3, e4, e5, e6, e7, T.out]
  simp [results, Tryd.results69, go_sem]
set_option maxRecDepth 100000 in
set_option maxHeartbeats 1000000 in
theorem rfromNum_c (w : World) (n : Nat) (h : n < 18446744073709551616) : Calls Tryd.prog 64 #[.int .u64 n] w (Hands (digV n) w) := by
  have B := Lib.hid (byt_eq n)
  go_enter Tryd.func64, Tryd.ntmps64
  go_wp2_with fail
  go_rounds 9
  refine bodyPost_ret (v := digV n) ?_ rfl ⟨rfl, ext_trans (ext_alloc _ _) (ext_alloc _ _)⟩
  have D : (n : Int) / 256 / 256 = n / 65536 ∧ (n : Int) / 65536 / 256 = n / 16777216 ∧ (n : Int) / 16777216 / 256 = n / 4294967296 ∧ (n : Int) / 4294967296 / 256 = n / 1099511627776 ∧ (n : Int) / 1099511627776 / 256 = n / 281474976710656 ∧ (n : Int) / 281474976710656 / 256 = n / 72057594037927936 := by omega
  obtain ⟨d1, d2, d3, d4, d5, d6⟩ := D
  unfold digV
  obtain ⟨e0, e1, e2, e3, e4, e5, e6, e7⟩ := B.out
  rw [e0, e1, e2, e3, e4, e5, e6, e7]
  simp [results, Tryd.results64, go_sem, d1, d2, d3, d4, d5, d6]
#print axioms rfromNum_c
#print axioms rnum_c
end Go.Proofs.YtbejjmmopdcjoaaDoor
