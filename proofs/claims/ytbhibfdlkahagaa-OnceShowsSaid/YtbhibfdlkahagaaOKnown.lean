/-
  once: known: the examples hold.
-/
import Derived.Test.YtbhibfdlkahagaaOEq
import Derived.Test.YtbhibfdlkahagaaOSign
import Derived.Test.YtbhibfdlkahagaaOVer
import Derived.Test.YtbhibfdlkahagaaHPushG
namespace Go.Proofs.Ytbhibfdlkahagaa
open Go.RowKit

theorem digs_one (m : Nat) : ∀ v ∈ (digA18 m).toList, v.oneCell' = true := by
  intro v hv
  simp [digA18] at hv
  rcases hv with rfl | rfl | rfl | rfl | rfl | rfl | rfl | rfl | rfl | rfl | rfl | rfl | rfl | rfl | rfl | rfl | rfl | rfl <;> rfl
theorem heap_setCells_ne {b c : Nat} (hc : c ≠ b) : ∀ (vs : List Value) (o : Nat) (w : World), (w.setCells b o vs).heap[c]? = w.heap[c]?
  | [], _, _ => rfl
  | _ :: vs, o, _ => (heap_setCells_ne hc vs (o + 1) _).trans (Below.heap_setCell _ _ _ _ hc)
theorem rangeAt_keep {w w' : World} {b o : Nat} {L : List Value} (h : w.rangeAt b o L) (hb : w'.heap[b]? = w.heap[b]?) : w'.rangeAt b o L := fun j v hv => by
  rw [← h j v hv]
  simp only [World.cell?, hb]
theorem rangeAt_lt {w : World} {b o : Nat} {L : List Value} (h : w.rangeAt b o L) (hl : 0 < L.length) : b < w.heap.size := by
  have h0 := h 0 L[0] (by simp)
  rcases Nat.lt_or_ge b w.heap.size with h1 | h1
  · exact h1
  · simp [World.cell?, Array.getElem?_eq_none h1] at h0
/-- a row of zeros of eighteen is stored over -/
theorem store18 {w0 w : World} {b : Nat} {L : List Value} (hl : L.length = 18) (h1 : ∀ v ∈ L, v.oneCell' = true) (hz : w.heap[b]? = some (.cells #[.int .i64 0, .int .i64 0, .int .i64 0, .int .i64 0, .int .i64 0, .int .i64 0, .int .i64 0, .int .i64 0, .int .i64 0, .int .i64 0, .int .i64 0, .int .i64 0, .int .i64 0, .int .i64 0, .int .i64 0, .int .i64 0, .int .i64 0, .int .i64 0] 42 (0, 0))) (hb : w0.heap.size ≤ b) (hB : Below w0.heap.size w0 w) :
    ∃ w', (storeCells ⟨b, 0, none⟩ L).run Try.prog w = .ok () w' ∧ w'.rangeAt b 0 L ∧ Below w0.heap.size w0 w' ∧ (∀ c, c ≠ b → w'.heap[c]? = w.heap[c]?) := by
  have TH : w.there b 0 18 := fun j hj => ⟨by rw [cell_of_row w _ _ _ _ _ hz, Nat.zero_add]; simp [hj], by simp [World.frozen?, hz]⟩
  refine ⟨_, run_storeCells_cells (P := Try.prog) b 0 L 0 w (fun j hj => by have := (TH j (by omega)).1; simpa using this) (fun j hj => by have := (TH j (by omega)).2; simpa using this) h1, ?_, ?_, ?_⟩
  · exact World.rangeAt_setCells_same _ _ _ _ (by rw [hl]; exact TH)
  · exact below_setCells hb L _ _ hB
  · intro c hc
    exact heap_setCells_ne hc L _ _

theorem wpList_load_g {P : Program} {ops : Array Oper} {rest : List Oper} {op : Oper} {a : Act} {w : World} {Q : Exit → Act → World → Prop} (hw : Region.wanted op (yielded ops a.tmps) = true) (ty : TypeId) (x : Operand) (ho : op.op = .load ty x)
    (b o : Nat) (hx : a.eval x = .pointer (some ⟨b, o, none⟩)) (cs : List Value) (d : TypeDesc) (hc : w.rangeAt b o cs)
    (hu : P.underlying ty = some d) (hd : d.isRow = true) (hi : (P.info? ty).map (·.size) = some cs.length)
    (h : wpList P ops Q rest (a.put op.dst (.agg cs.toArray)) w) : wpList P ops Q (op :: rest) a w :=
  wpList_wanted hw fun _ hK => wp_load_mid ty x ho b o hx cs d hc hu hd hi (hK _ _ h)

set_option maxRecDepth 100000 in
set_option maxHeartbeats 4000000 in
theorem known_c (w : World) : Calls Try.prog 23 #[] w (fun e w' => e = .returned (.bool true) ∧ Below w.heap.size w w') := by
  obtain ⟨DL0, hDL0⟩ : ∃ l : List Value, l = (digA18 0).toList := ⟨_, rfl⟩
  have HV0 : Hid (digV18 0 = .agg DL0.toArray) := by rw [hDL0]; exact rfl
  have LN0 : DL0.length = 18 := by rw [hDL0]; rfl
  have ONE0 : Hid (∀ v ∈ DL0, v.oneCell' = true) := by rw [hDL0]; exact digs_one 0
  have EQ0 : ∀ w : World, (binOp .eql 42 (.agg DL0.toArray) (.agg DL0.toArray)).run Try.prog w = .ok (.bool true) w := by rw [hDL0]; exact eql_18 (digA18_both 0)
  have GD0 : ∀ (x y : Operand) (w : World), (eqGuard .eql 42 x y (.agg DL0.toArray) (.agg DL0.toArray)).run Try.prog w = .ok () w := fun x y w => run_eqGuard_agg w .eql _ x y _ _ (by kernel_rfl)
  clear hDL0
  obtain ⟨DL1, hDL1⟩ : ∃ l : List Value, l = (digA18 18446744073709551615).toList := ⟨_, rfl⟩
  have HV1 : Hid (digV18 18446744073709551615 = .agg DL1.toArray) := by rw [hDL1]; exact rfl
  have LN1 : DL1.length = 18 := by rw [hDL1]; rfl
  have ONE1 : Hid (∀ v ∈ DL1, v.oneCell' = true) := by rw [hDL1]; exact digs_one 18446744073709551615
  have EQ1 : ∀ w : World, (binOp .eql 42 (.agg DL1.toArray) (.agg DL1.toArray)).run Try.prog w = .ok (.bool true) w := by rw [hDL1]; exact eql_18 (digA18_both 18446744073709551615)
  have GD1 : ∀ (x y : Operand) (w : World), (eqGuard .eql 42 x y (.agg DL1.toArray) (.agg DL1.toArray)).run Try.prog w = .ok () w := fun x y w => run_eqGuard_agg w .eql _ x y _ _ (by kernel_rfl)
  clear hDL1
  have Z0 := Lib.hid (HV0.out.symm.trans digs_zero)
  have Z1 := Lib.hid (HV1.out.symm.trans digs_full)
  have L7 : 7 < 18446744073709551616 := by omega
  have VS : verR (pubN 7) 9 (signB 7 9) = true := ver_sign L7
  have SL : (signB 7 9).length = 144 := signB_len 7 9
  have LP : pubN 7 < 18446744073709551616 := pubN_lt L7
  obtain ⟨SB, hSB⟩ : ∃ x, x = signB 7 9 := ⟨_, rfl⟩
  obtain ⟨PK, hPK⟩ : ∃ x, x = pubN 7 := ⟨_, rfl⟩
  have HSB := Lib.hid hSB
  have HPK := Lib.hid hPK
  rw [← hSB] at SL VS
  rw [← hPK] at VS LP
  clear hSB hPK
  go_enter Try.func23, Try.ntmps23
  go_wp2_with fail
  rw [← dig_0]
  refine (reach_c _ 0).mono ?_
  rw [HV0.out]
  rintro e w1 ⟨rfl, hb1⟩
  go_wp2_with fail
  rw [← dig_ff]
  refine (reach_c _ 18446744073709551615).mono ?_
  rw [HV1.out]
  rintro e w2 ⟨rfl, hb2⟩
  have B2 := Lib.hid (ext_trans hb1 hb2)
  clear hb1 hb2
  have HA : Hid ((World.alloc (World.alloc w2 (.cells #[.int .i64 0, .int .i64 0, .int .i64 0, .int .i64 0, .int .i64 0, .int .i64 0, .int .i64 0, .int .i64 0, .int .i64 0, .int .i64 0, .int .i64 0, .int .i64 0, .int .i64 0, .int .i64 0, .int .i64 0, .int .i64 0, .int .i64 0, .int .i64 0] 42)) (.cells #[.int .i64 0, .int .i64 0, .int .i64 0, .int .i64 0, .int .i64 0, .int .i64 0, .int .i64 0, .int .i64 0, .int .i64 0, .int .i64 0, .int .i64 0, .int .i64 0, .int .i64 0, .int .i64 0, .int .i64 0, .int .i64 0, .int .i64 0, .int .i64 0] 42)).heap[w2.heap.size]? = some (.cells #[.int .i64 0, .int .i64 0, .int .i64 0, .int .i64 0, .int .i64 0, .int .i64 0, .int .i64 0, .int .i64 0, .int .i64 0, .int .i64 0, .int .i64 0, .int .i64 0, .int .i64 0, .int .i64 0, .int .i64 0, .int .i64 0, .int .i64 0, .int .i64 0] 42 (0, 0))) := keepA (Go.heap_alloc_new w2 _)
  have HB : Hid ((World.alloc (World.alloc w2 (.cells #[.int .i64 0, .int .i64 0, .int .i64 0, .int .i64 0, .int .i64 0, .int .i64 0, .int .i64 0, .int .i64 0, .int .i64 0, .int .i64 0, .int .i64 0, .int .i64 0, .int .i64 0, .int .i64 0, .int .i64 0, .int .i64 0, .int .i64 0, .int .i64 0] 42)) (.cells #[.int .i64 0, .int .i64 0, .int .i64 0, .int .i64 0, .int .i64 0, .int .i64 0, .int .i64 0, .int .i64 0, .int .i64 0, .int .i64 0, .int .i64 0, .int .i64 0, .int .i64 0, .int .i64 0, .int .i64 0, .int .i64 0, .int .i64 0, .int .i64 0] 42)).heap[w2.heap.size + 1]? = some (.cells #[.int .i64 0, .int .i64 0, .int .i64 0, .int .i64 0, .int .i64 0, .int .i64 0, .int .i64 0, .int .i64 0, .int .i64 0, .int .i64 0, .int .i64 0, .int .i64 0, .int .i64 0, .int .i64 0, .int .i64 0, .int .i64 0, .int .i64 0, .int .i64 0] 42 (0, 0))) := heap_alloc_newest (w := World.alloc _ _) (by simp)
  have BB : Hid (Below w2.heap.size w2 (World.alloc (World.alloc w2 (.cells #[.int .i64 0, .int .i64 0, .int .i64 0, .int .i64 0, .int .i64 0, .int .i64 0, .int .i64 0, .int .i64 0, .int .i64 0, .int .i64 0, .int .i64 0, .int .i64 0, .int .i64 0, .int .i64 0, .int .i64 0, .int .i64 0, .int .i64 0, .int .i64 0] 42)) (.cells #[.int .i64 0, .int .i64 0, .int .i64 0, .int .i64 0, .int .i64 0, .int .i64 0, .int .i64 0, .int .i64 0, .int .i64 0, .int .i64 0, .int .i64 0, .int .i64 0, .int .i64 0, .int .i64 0, .int .i64 0, .int .i64 0, .int .i64 0, .int .i64 0] 42))) := ext_trans (ext_alloc _ _) (ext_alloc _ _)
  obtain ⟨w3, hs3, R3', B3', K3⟩ := store18 (w0 := w2) LN0 ONE0.out HA.out (Nat.le_refl _) BB.out
  obtain ⟨w4, hs4, R4', B4', K4⟩ := store18 (w0 := w2) (w := w3) LN1 ONE1.out ((K3 _ (Nat.succ_ne_self _)).trans HB.out) (Nat.le_succ _) B3'
  have RA := Lib.hid (rangeAt_keep R3' (K4 _ (Nat.succ_ne_self _).symm))
  have RB := Lib.hid R4'
  have B4 := Lib.hid (ext_trans B2.out B4')
  clear R3' R4' B3' B4' K3 K4 HA HB BB
  go_wp2_with fail
  rw [← dig_7, ← dig_9]
  refine (sign_c _ 7 9 L7).mono ?_
  rw [← HSB.out]
  unfold Rows8
  rintro e w5 ⟨A, n, c, rfl, hO, hb5⟩
  have SZ0 := rangeAt_lt RA.out (by omega)
  have SZ1 := rangeAt_lt RB.out (by omega)
  have RA5 := Lib.hid (rangeAt_keep RA.out (hb5.block _ SZ0))
  have RB5 := Lib.hid (rangeAt_keep RB.out (hb5.block _ SZ1))
  have B5 := Lib.hid (ext_trans B4.out hb5)
  clear RA RB B4 hb5
  have E0 : ∀ w : World, (binOp .eql 42 (.agg DL0.toArray) (.agg #[.int .i64 0, .int .i64 0, .int .i64 0, .int .i64 0, .int .i64 0, .int .i64 0, .int .i64 0, .int .i64 0, .int .i64 0, .int .i64 0, .int .i64 0, .int .i64 0, .int .i64 0, .int .i64 0, .int .i64 0, .int .i64 0, .int .i64 0, .int .i64 15])).run Try.prog w = .ok (.bool true) w := by rw [← Z0.out]; exact EQ0
  have E1 : ∀ w : World, (binOp .eql 42 (.agg DL1.toArray) (.agg #[.int .i64 15, .int .i64 15, .int .i64 15, .int .i64 15, .int .i64 15, .int .i64 15, .int .i64 15, .int .i64 15, .int .i64 15, .int .i64 15, .int .i64 15, .int .i64 15, .int .i64 15, .int .i64 15, .int .i64 15, .int .i64 15, .int .i64 0, .int .i64 0])).run Try.prog w = .ok (.bool true) w := by rw [← Z1.out]; exact EQ1
  have G0 : ∀ (x y : Operand) (w : World), (eqGuard .eql 42 x y (.agg DL0.toArray) (.agg #[.int .i64 0, .int .i64 0, .int .i64 0, .int .i64 0, .int .i64 0, .int .i64 0, .int .i64 0, .int .i64 0, .int .i64 0, .int .i64 0, .int .i64 0, .int .i64 0, .int .i64 0, .int .i64 0, .int .i64 0, .int .i64 0, .int .i64 0, .int .i64 15])).run Try.prog w = .ok () w := by rw [← Z0.out]; exact GD0
  have G1 : ∀ (x y : Operand) (w : World), (eqGuard .eql 42 x y (.agg DL1.toArray) (.agg #[.int .i64 15, .int .i64 15, .int .i64 15, .int .i64 15, .int .i64 15, .int .i64 15, .int .i64 15, .int .i64 15, .int .i64 15, .int .i64 15, .int .i64 15, .int .i64 15, .int .i64 15, .int .i64 15, .int .i64 15, .int .i64 15, .int .i64 0, .int .i64 0])).run Try.prog w = .ok () w := by rw [← Z1.out]; exact GD1
  have RO := Lib.hid hO.rd
  obtain rfl : n = 144 := by have := hO.len; omega
  clear EQ0 EQ1 GD0 GD1 hs3 hs4 hO
  go_wp2_with (first | (refine wpList_load_g (op := ⟨some 11, _, _, _, _, _⟩) (by rfl) 42 (.tmp 1) rfl w2.heap.size 0 (by rfl) DL0 _ RA5.out Try.underlying42 rfl (by rw [LN0]; kernel_rfl) ?_; go_simp) | (refine wpList_load_g (op := ⟨some 15, _, _, _, _, _⟩) (by rfl) 42 (.tmp 2) rfl (w2.heap.size + 1) 0 (by rfl) DL1 _ RB5.out Try.underlying42 rfl (by rw [LN1]; kernel_rfl) ?_; go_simp))
  rw [← dig_7]
  refine (public_c _ 7 L7).mono ?_
  rw [← HPK.out]
  rintro e w6 ⟨rfl, hb6⟩
  have B6 := Lib.hid (ext_trans B5.out hb6)
  have RO6 := Lib.hid (RO.out.ext hb6)
  go_wp2_with fail
  rw [← dig_9]
  refine (verify_c _ PK 9 LP A 144 c SB RO6).mono ?_
  rw [VS]
  rintro e w7 ⟨rfl, hb7⟩
  have B7 := Lib.hid (ext_trans B6.out hb7)
  go_wp2_with fail
  go_ret
  exact ⟨rfl, B7.out⟩
#print axioms known_c
end Go.Proofs.Ytbhibfdlkahagaa
