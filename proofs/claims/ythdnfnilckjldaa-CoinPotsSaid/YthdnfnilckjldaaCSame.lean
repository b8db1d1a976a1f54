/-
  coin: Clone, Same of pots: contracts.
-/
import Derived.Test.YthdnfnilckjldaaCPays
import Derived.Test.YthdnfnilckjldaaCNil
import Derived.Test.YthdnfnilckjldaaCAsk
import Derived.Test.YthdnfnilckjldaaSchedC
import Derived.ChangeKeysEq
import Derived.Laws.StructEq
import Derived.Deep.DeepCutAuto
namespace Go.Proofs.Ythdnfnilckjldaa
open Go.RowKit

theorem eqItems_self64 {P : Program} {e : TypeId} (he : P.plainKey e = true) (hu : P.underlying e = some (.int .i64)) (A B : Array Value) (d : Nat) : ∀ (l : List Nat), (∀ i ∈ l, ∃ x : Int, A[i * 1]? = some (.int .i64 x) ∧ B[i * 1]? = some (.int .i64 x)) → ∀ w : World,
    (Op.eqItems (d + 1) e 1 A B l).run P w = .ok true w
  | [], _, w => by simp [Op.eqItems]
  | i :: l, h, w => by
    obtain ⟨x, h1, h2⟩ := h i (List.mem_cons_self ..)
    have p1 := run_part_plain (w := w) he h1
    have p2 := run_part_plain (w := w) he h2
    have p3 := run_equalIn_int (P := P) w d e .i64 .i64 x x hu
    have p4 := eqItems_self64 he hu A B d l (fun j hj => h j (List.mem_cons_of_mem _ hj)) w
    simp only [Op.eqItems, Sem.run_bind, p1, p2, p3, Result.andThen_ok]
    simpa using p4
theorem fieldsPot : ∃ f0 f1 f2 : Field, (Try.prog.fieldsOf 66).toList = [f0, f1, f2] ∧ (f0.name ≠ "_" ∧ f1.name ≠ "_" ∧ f2.name ≠ "_") ∧ (f0.type = 3 ∧ f1.type = 3 ∧ f2.type = 64) ∧ f0.offset = 0 ∧ f1.offset = 1 ∧ f2.offset = 2 := by
  unfold Program.fieldsOf
  rw [Try.underlying66]
  exact ⟨_, _, _, rfl, ⟨by decide, by decide, by decide⟩, ⟨rfl, rfl, rfl⟩, rfl, rfl, rfl⟩
theorem stPot : Try.prog.underlying 66 = some (.struct (Try.prog.fieldsOf 66)) := by
  unfold Program.fieldsOf
  rw [Try.underlying66]
theorem eql_pot (l s h0 h1 h2 h3 h4 h5 h6 h7 : Int) (w : World) : (binOp .eql 66 (.agg #[.int .i64 l, .int .i64 s, .int .i64 h0, .int .i64 h1, .int .i64 h2, .int .i64 h3, .int .i64 h4, .int .i64 h5, .int .i64 h6, .int .i64 h7]) (.agg #[.int .i64 l, .int .i64 s, .int .i64 h0, .int .i64 h1, .int .i64 h2, .int .i64 h3, .int .i64 h4, .int .i64 h5, .int .i64 h6, .int .i64 h7])).run Try.prog w = .ok (.bool true) w := by
  obtain ⟨f0, f1, f2, hf, ⟨n0, n1, n2⟩, ⟨t0, t1, t2⟩, o0, o1, o2⟩ := fieldsPot
  obtain ⟨i, hi, _⟩ := info_parts (show (Try.prog.info? 3).map (fun i => (i.zero, i.size, i.bytes)) = some (some (.int .i64 0), 1, 8) by kernel_rfl)
  have p0 : (part 3 #[.int .i64 l, .int .i64 s, .int .i64 h0, .int .i64 h1, .int .i64 h2, .int .i64 h3, .int .i64 h4, .int .i64 h5, .int .i64 h6, .int .i64 h7] 0).run Try.prog w = .ok (.int .i64 l) w := run_part_plain w (by kernel_rfl) rfl
  have p1 : (part 3 #[.int .i64 l, .int .i64 s, .int .i64 h0, .int .i64 h1, .int .i64 h2, .int .i64 h3, .int .i64 h4, .int .i64 h5, .int .i64 h6, .int .i64 h7] 1).run Try.prog w = .ok (.int .i64 s) w := run_part_plain w (by kernel_rfl) rfl
  have p2 : (part 64 #[.int .i64 l, .int .i64 s, .int .i64 h0, .int .i64 h1, .int .i64 h2, .int .i64 h3, .int .i64 h4, .int .i64 h5, .int .i64 h6, .int .i64 h7] 2).run Try.prog w = .ok (.agg #[.int .i64 h0, .int .i64 h1, .int .i64 h2, .int .i64 h3, .int .i64 h4, .int .i64 h5, .int .i64 h6, .int .i64 h7]) w := by
    simp only [part, isAgg, Sem.run_bind, run_underlying Try.underlying64, Result.andThen_ok]
    rfl
  have q0 := fun x : Int => run_equalIn_int (P := Try.prog) w 9998 3 .i64 .i64 x x Try.underlying3
  have q2 := run_equalIn_array (P := Try.prog) (w := w) 9998 #[.int .i64 h0, .int .i64 h1, .int .i64 h2, .int .i64 h3, .int .i64 h4, .int .i64 h5, .int .i64 h6, .int .i64 h7] #[.int .i64 h0, .int .i64 h1, .int .i64 h2, .int .i64 h3, .int .i64 h4, .int .i64 h5, .int .i64 h6, .int .i64 h7] Try.underlying64 hi
  rw [show Try.prog.cellsOf 3 = 1 by kernel_rfl, eqItems_self64 (P := Try.prog) (by kernel_rfl) Try.underlying3 _ _ 9997 (List.range 8) (fun j hj => by
    have hj : j < 8 := by simpa using hj
    match j, hj with
    | 0, _ => exact ⟨_, rfl, rfl⟩
    | 1, _ => exact ⟨_, rfl, rfl⟩
    | 2, _ => exact ⟨_, rfl, rfl⟩
    | 3, _ => exact ⟨_, rfl, rfl⟩
    | 4, _ => exact ⟨_, rfl, rfl⟩
    | 5, _ => exact ⟨_, rfl, rfl⟩
    | 6, _ => exact ⟨_, rfl, rfl⟩
    | 7, _ => exact ⟨_, rfl, rfl⟩
    | j + 8, h => exact absurd h (by omega)) w] at q2
  rw [run_eql_struct, run_equalIn_struct w 9999 _ _ _ stPot (by kernel_rfl), hf]
  simp [Op.eqFields, n0, n1, n2, t0, t1, t2, o0, o1, o2, p0, p1, p2, q0, q2]
theorem neql_pot (l s h0 h1 h2 h3 h4 h5 h6 h7 l2 s2 g0 g1 g2 g3 g4 g5 g6 g7 : Int) (hn : l ≠ l2) (w : World) : (binOp .eql 66 (.agg #[.int .i64 l, .int .i64 s, .int .i64 h0, .int .i64 h1, .int .i64 h2, .int .i64 h3, .int .i64 h4, .int .i64 h5, .int .i64 h6, .int .i64 h7]) (.agg #[.int .i64 l2, .int .i64 s2, .int .i64 g0, .int .i64 g1, .int .i64 g2, .int .i64 g3, .int .i64 g4, .int .i64 g5, .int .i64 g6, .int .i64 g7])).run Try.prog w = .ok (.bool false) w := by
  obtain ⟨f0, f1, f2, hf, ⟨n0, n1, n2⟩, ⟨t0, t1, t2⟩, o0, o1, o2⟩ := fieldsPot
  have p0 : (part 3 #[.int .i64 l, .int .i64 s, .int .i64 h0, .int .i64 h1, .int .i64 h2, .int .i64 h3, .int .i64 h4, .int .i64 h5, .int .i64 h6, .int .i64 h7] 0).run Try.prog w = .ok (.int .i64 l) w := run_part_plain w (by kernel_rfl) rfl
  have p1 : (part 3 #[.int .i64 l2, .int .i64 s2, .int .i64 g0, .int .i64 g1, .int .i64 g2, .int .i64 g3, .int .i64 g4, .int .i64 g5, .int .i64 g6, .int .i64 g7] 0).run Try.prog w = .ok (.int .i64 l2) w := run_part_plain w (by kernel_rfl) rfl
  have q0 := run_equalIn_int (P := Try.prog) w 9998 3 .i64 .i64 l l2 Try.underlying3
  have e1 : (l == l2) = false := by rw [beq_eq_false_iff_ne]; exact hn
  rw [run_eql_struct, run_equalIn_struct w 9999 _ _ _ stPot (by kernel_rfl), hf]
  simp [Op.eqFields, n0, t0, o0, p0, p1, q0, e1]
/-- a pot's ten cells -/
theorem Pot.full {w : World} {b : Nat} {left seats : Int} {hs : List Int} (h : Pot w b left seats hs) : ∃ h0 h1 h2 h3 h4 h5 h6 h7, hs = [h0, h1, h2, h3, h4, h5, h6, h7] ∧ w.heap[b]? = some (.cells #[.int .i64 left, .int .i64 seats, .int .i64 h0, .int .i64 h1, .int .i64 h2, .int .i64 h3, .int .i64 h4, .int .i64 h5, .int .i64 h6, .int .i64 h7] 66 (0, 0)) := by
  obtain ⟨⟨cur⟩, hk, hq⟩ := h.blk
  have hl := h.len
  match hs, hl, hq with
  | [h0, h1, h2, h3, h4, h5, h6, h7], _, hc =>
    refine ⟨h0, h1, h2, h3, h4, h5, h6, h7, rfl, ?_⟩
    have hr : cur = .int .i64 left :: .int .i64 seats :: [.int .i64 h0, .int .i64 h1, .int .i64 h2, .int .i64 h3, .int .i64 h4, .int .i64 h5, .int .i64 h6, .int .i64 h7] := hc
    rw [hk, hr]
theorem full10 {w : World} {b : Nat} {T : TypeId} {x0 x1 x2 x3 x4 x5 x6 x7 x8 x9 : Value} (h : w.heap[b]? = some (.cells #[x0, x1, x2, x3, x4, x5, x6, x7, x8, x9] T (0, 0))) :
    w.cell? ⟨b, 0, none⟩ = some x0 ∧ w.cell? ⟨b, 1, none⟩ = some x1 ∧ w.cell? ⟨b, 2, none⟩ = some x2 ∧ w.cell? ⟨b, 3, none⟩ = some x3 ∧ w.cell? ⟨b, 4, none⟩ = some x4 ∧ w.cell? ⟨b, 5, none⟩ = some x5 ∧ w.cell? ⟨b, 6, none⟩ = some x6 ∧ w.cell? ⟨b, 7, none⟩ = some x7 ∧ w.cell? ⟨b, 8, none⟩ = some x8 ∧ w.cell? ⟨b, 9, none⟩ = some x9 :=
  ⟨by rw [cell_of_row w _ 0 _ _ _ h]; rfl, by rw [cell_of_row w _ 1 _ _ _ h]; rfl, by rw [cell_of_row w _ 2 _ _ _ h]; rfl, by rw [cell_of_row w _ 3 _ _ _ h]; rfl, by rw [cell_of_row w _ 4 _ _ _ h]; rfl, by rw [cell_of_row w _ 5 _ _ _ h]; rfl, by rw [cell_of_row w _ 6 _ _ _ h]; rfl, by rw [cell_of_row w _ 7 _ _ _ h]; rfl, by rw [cell_of_row w _ 8 _ _ _ h]; rfl, by rw [cell_of_row w _ 9 _ _ _ h]; rfl⟩

set_option maxRecDepth 100000 in
theorem clone_c (w : World) (b : Nat) (left seats : Int) (hs : List Int) (h : Hid (Pot w b left seats hs)) : Calls Try.prog 30 #[.pointer (some ⟨b, 0, none⟩)] w (fun e w' => ∃ b', e = .returned (.pointer (some ⟨b', 0, none⟩)) ∧ Pot w' b' left seats hs ∧ w.heap.size ≤ b' ∧ Below w.heap.size w w') := by
  have F := Lib.hid h.out.fits
  obtain ⟨h0, h1, h2, h3, h4, h5, h6, h7, rfl, hb⟩ := h.out.full
  obtain ⟨c0, c1, c2, c3, c4, c5, c6, c7, c8, c9⟩ := full10 hb
  clear hb h
  go_enter Try.func30, Try.ntmps30
  go_wp2_with fail
  go_ret
  exact ⟨w.heap.size, rfl, ⟨⟨_, Go.heap_alloc_new w _, rfl⟩, rfl, F.out⟩, Nat.le_refl _, ext_alloc _ _⟩
#print axioms clone_c

set_option maxRecDepth 100000 in
set_option maxHeartbeats 1000000 in
theorem same_c (w : World) (b2 b : Nat) (l2 left S : Int) (gs hs : List Int) (mv : Bool) (PO : Hid (Pot w b2 l2 S gs)) (PP : Hid (Pot w b left S hs)) (D : Hid ((mv = false ∧ l2 = left ∧ gs = hs) ∨ (mv = true ∧ l2 ≠ left))) :
    Calls Try.prog 31 #[.pointer (some ⟨b2, 0, none⟩), .pointer (some ⟨b, 0, none⟩)] w (fun e w' => e = .returned (.bool (!mv)) ∧ Below w.heap.size w w') := by
  have z2 := PO.out.lt
  have z1 := PP.out.lt
  obtain ⟨h0, h1, h2, h3, h4, h5, h6, h7, rfl, hb⟩ := PP.out.full
  obtain ⟨g0, g1, g2, g3, g4, g5, g6, g7, rfl, hb2⟩ := PO.out.full
  have E : ∀ v : World, (binOp .eql 66 (.agg #[.int .i64 l2, .int .i64 S, .int .i64 g0, .int .i64 g1, .int .i64 g2, .int .i64 g3, .int .i64 g4, .int .i64 g5, .int .i64 g6, .int .i64 g7]) (.agg #[.int .i64 left, .int .i64 S, .int .i64 h0, .int .i64 h1, .int .i64 h2, .int .i64 h3, .int .i64 h4, .int .i64 h5, .int .i64 h6, .int .i64 h7])).run Try.prog v = .ok (.bool (!mv)) v := by
    rcases D.out with ⟨h1, h2, h3⟩ | ⟨h1, h2⟩
    · injection h3 with e0 h3
      injection h3 with e1 h3
      injection h3 with e2 h3
      injection h3 with e3 h3
      injection h3 with e4 h3
      injection h3 with e5 h3
      injection h3 with e6 h3
      injection h3 with e7 h3
      subst h1 h2 e0 e1 e2 e3 e4 e5 e6 e7
      exact eql_pot _ _ _ _ _ _ _ _ _ _
    · subst h1
      exact neql_pot _ _ _ _ _ _ _ _ _ _ _ _ _ _ _ _ _ _ _ _ h2
  have G : ∀ (x y : Operand) (v : World), (eqGuard .eql 66 x y (.agg #[.int .i64 l2, .int .i64 S, .int .i64 g0, .int .i64 g1, .int .i64 g2, .int .i64 g3, .int .i64 g4, .int .i64 g5, .int .i64 g6, .int .i64 g7]) (.agg #[.int .i64 left, .int .i64 S, .int .i64 h0, .int .i64 h1, .int .i64 h2, .int .i64 h3, .int .i64 h4, .int .i64 h5, .int .i64 h6, .int .i64 h7])).run Try.prog v = .ok () v := fun x y v => run_eqGuard_agg v .eql _ x y _ _ (by kernel_rfl)
  have HB := Lib.hid hb
  have HB2 := Lib.hid hb2
  clear hb hb2 D PO PP
  go_enter Try.func31, Try.ntmps31
  go_upto_region 3 with fail
  refine wp_region_schedC (fun v => Below w.heap.size w v) [(true, 0), (true, 1), (true, 2), (true, 3), (true, 4), (true, 5), (true, 6), (true, 7)] (by kernel_rfl) rfl (by kernel_rfl) (by kernel_rfl) (fun _ _ d _ _ h => by cases d <;> exact h) (ext_drew w) ?_
  intro J0 hJ0
  iterate 8 (refine schedC_pure (v := ?_) rfl (by rfl) ?_ ?_; rotate_left; (focus (intro v hC; obtain ⟨c0, c1, c2, c3, c4, c5, c6, c7, c8, c9⟩ := full10 (keepB hC HB.out); obtain ⟨d0, d1, d2, d3, d4, d5, d6, d7, d8, d9⟩ := full10 (keepB hC HB2.out); go_simp; try with_reducible rfl)); try go_simp)
  refine schedC_nil (hJ0 _ _ ?_)
  go_wp2_with fail
  go_ret
  exact ⟨rfl, ext_drew w⟩
#print axioms same_c
end Go.Proofs.Ythdnfnilckjldaa
