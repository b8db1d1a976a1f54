/-
  machine: the instruction at a state's place: contract.
-/
import Derived.Test.YtbeileihbhooaaaDoorMSt
import Derived.Test.YtbeileihbhooaaaDoorGRight
import Derived.Test.YtbeileihbhooaaaDoorSchedC
namespace Go.Proofs.YtbeileihbhooaaaDoor
open Go.RowKit

theorem schedC_none {P : Program} {ops : Array Oper} {C : World → Prop} {K : Act → World → Prop} {i : Nat} {s : List (Bool × Nat)} {o : Oper} {a : Act} {w : World} (hi : ops[i]? = some o) (hw : Region.wanted o (yielded ops a.tmps) = false)
    (h : wpSchedC P ops C K s (a.put o.dst undef) w) : wpSchedC P ops C K ((true, i) :: s) a w := ⟨o, undef, hi, .inr ⟨hw, rfl⟩, h⟩
theorem set4M {w : World} {b : Nat} {T : TypeId} {x0 x1 x2 x3 : Value} (h : w.heap[b]? = some (.cells #[x0, x1, x2, x3] T (0, 0))) (y0 y1 y2 y3 : Value) :
    ((((w.setCell ⟨b, 0, none⟩ y0).setCell ⟨b, 1, none⟩ y1).setCell ⟨b, 2, none⟩ y2).setCell ⟨b, 3, none⟩ y3).heap[b]? = some (.cells #[y0, y1, y2, y3] T (0, 0)) :=
  setM (j := 3) (setM (j := 2) (setM (j := 1) (setM (j := 0) h y0) y1) y2) y3
theorem full4m {w : World} {b : Nat} {T : TypeId} {x0 x1 x2 x3 : Value} (h : w.heap[b]? = some (.cells #[x0, x1, x2, x3] T (0, 0))) : w.cell? ⟨b, 0, none⟩ = some x0 ∧ w.cell? ⟨b, 1, none⟩ = some x1 ∧ w.cell? ⟨b, 2, none⟩ = some x2 ∧ w.cell? ⟨b, 3, none⟩ = some x3 ∧ w.frozen? ⟨b, 0, none⟩ = false ∧ w.frozen? ⟨b, 1, none⟩ = false ∧ w.frozen? ⟨b, 2, none⟩ = false ∧ w.frozen? ⟨b, 3, none⟩ = false :=
  ⟨(full4i h).1, (full4i h).2.1, (full4i h).2.2.1, (full4i h).2.2.2, by simp [World.frozen?, h], by simp [World.frozen?, h], by simp [World.frozen?, h], by simp [World.frozen?, h]⟩
theorem bel4M {w0 w : World} {b : Nat} (k : Below w0.heap.size w0 w) (hb : w0.heap.size ≤ b) (y0 y1 y2 y3 : Value) : Below w0.heap.size w0 ((((w.setCell ⟨b, 0, none⟩ y0).setCell ⟨b, 1, none⟩ y1).setCell ⟨b, 2, none⟩ y2).setCell ⟨b, 3, none⟩ y3) :=
  (((k.setCell (p := ⟨b, 0, none⟩) hb y0).setCell (p := ⟨b, 1, none⟩) hb y1).setCell (p := ⟨b, 2, none⟩) hb y2).setCell (p := ⟨b, 3, none⟩) hb y3

/-- what named answers -/
def NamedI (l : List Ins) (pc : Int) (n : Nat) : Ins := if namedV l pc n = true then insAt l pc else noIns

set_option maxRecDepth 100000 in
set_option maxHeartbeats 2000000 in
theorem named_far (w : World) (A : Option Addr) (n d : Nat) (l : List Ins) (h : Hid (RdS w A n d l)) (pc : Int) (M : Option Addr) (mn mc : Nat) (halt : Int) (h1 : 2048 < n) : Calls Tryd.prog 33 #[.slice A n d, .agg #[.int .i64 pc, .slice M mn mc, .int .i64 halt]] w (Gives (.tuple #[insV (NamedI l pc mn).o (NamedI l pc mn).a (NamedI l pc mn).b (NamedI l pc mn).c, .bool (namedV l pc mn)]) w) := by
  have HL := Lib.hid h.out.len
  have HV : Hid (namedV l pc mn = false) := by
    show _ = _
    unfold namedV
    rw [decide_eq_false (by rw [HL.out]; omega)]
    rfl
  have HI : Hid (NamedI l pc mn = noIns) := by show _ = _; unfold NamedI; rw [HV.out]; rfl
  rw [HI.out]
  have hle := h.out.le
  have hmx := h.out.max
  clear h HI HL
  have h1I : (2048 : Int) < (n : Int) := by omega
  clear h1
  go_enter Tryd.func33, Tryd.ntmps33
  go_upto_region 1 with fail
  obtain ⟨g1, hg1⟩ : ∃ g, g = w.heap.size := ⟨_, rfl⟩
  obtain ⟨W1, hW1⟩ : ∃ W1, W1 = World.alloc w (.cells #[.int .i64 pc, .slice M mn mc, .int .i64 halt] 30) := ⟨_, rfl⟩
  have C3 : Hid (W1.heap[g1]? = some (.cells #[.int .i64 pc, .slice M mn mc, .int .i64 halt] 30 (0, 0))) := by rw [hW1, hg1]; exact Go.heap_alloc_new w _
  have B : Hid (Below w.heap.size w W1) := by rw [hW1]; exact ext_alloc w _
  obtain ⟨g2, hg2⟩ : ∃ g, g = g1 + 1 := ⟨_, rfl⟩
  have hs2 : W1.heap.size = g2 := by rw [hW1, hg2, hg1]; simp
  rw [← hW1, ← hg1, ← hg2]
  clear hW1 hg1 hg2
  obtain ⟨U, hU⟩ : ∃ U, U = World.alloc W1 (.cells #[.int .i64 0, .int .i64 0, .int .i64 0, .int .i64 0] 57) := ⟨_, rfl⟩
  have C4 : Hid (U.heap[g2]? = some (.cells #[.int .i64 0, .int .i64 0, .int .i64 0, .int .i64 0] 57 (0, 0))) := by rw [hU, ← hs2]; exact Go.heap_alloc_new W1 _
  have HG2 : Hid (w.heap.size ≤ g2) := by show _ ≤ _; rw [← hs2]; exact B.out.size
  replace C3 : Hid (U.heap[g1]? = some (.cells #[.int .i64 pc, .slice M mn mc, .int .i64 halt] 30 (0, 0))) := by show _ = _; rw [hU]; exact keepG (ext_alloc W1 _) C3.out
  replace B : Hid (Below w.heap.size w U) := by rw [hU]; exact ext_trans B.out (ext_alloc W1 _)
  rw [← hU]
  clear hU hs2
  refine wp_region_schedC (fun u => Below U.heap.size U u) [(true, 0), (true, 1), (true, 2), (true, 3), (true, 4), (true, 5), (true, 6), (true, 7), (true, 8), (true, 9), (true, 10), (true, 11), (true, 12), (true, 13), (true, 14), (true, 15), (true, 16), (true, 17), (true, 18), (true, 19), (true, 20), (true, 21), (true, 22), (true, 23)] (by kernel_rfl) rfl (by kernel_rfl) (by kernel_rfl) (fun _ _ d _ _ h => by cases d <;> exact h) (ext_drew U) ?_
  intro J0 hJ0
  iterate 24 (first | (refine schedC_none rfl (by rfl) ?_; try go_simp) | (refine schedC_pure (v := ?_) rfl (by rfl) ?_ ?_; rotate_left; (focus (intro u hC; obtain ⟨z0, z1, z2⟩ := full3i (keepG hC C3.out); go_simp; try with_reducible rfl)); try go_simp))
  refine schedC_nil (hJ0 _ _ ?_)
  clear hJ0
  have Q : Hid (Below U.heap.size U U.drew) := ext_drew U
  generalize U.drew = V at Q ⊢
  obtain ⟨q0, q1, q2, q3, f0, f1, f2, f3⟩ := full4m (keepG Q.out C4.out)
  go_wp2_with fail
  have R := Lib.hid (set4M (keepG Q.out C4.out) (.int .i64 0) (.int .i64 0) (.int .i64 0) (.int .i64 0))
  obtain ⟨e0, e1, e2, e3, _, _, _, _⟩ := full4m R.out
  refine bodyPost_ret (v := .tuple #[.agg #[.int .i64 0, .int .i64 0, .int .i64 0, .int .i64 0], .bool false]) (by simp only [results, Tryd.results33]; simp [go_sem, e0, e1, e2, e3]) rfl ⟨by rw [HV.out]; rfl, ?_⟩
  exact bel4M (ext_trans B.out Q.out) HG2.out _ _ _ _

set_option maxRecDepth 100000 in
set_option maxHeartbeats 2000000 in
theorem named_out (w : World) (A : Option Addr) (n d : Nat) (l : List Ins) (h : Hid (RdS w A n d l)) (pc : Int) (M : Option Addr) (mn mc : Nat) (halt : Int) (h1 : n ≤ 2048) (h2 : (n : Int) ≤ pc) : Calls Tryd.prog 33 #[.slice A n d, .agg #[.int .i64 pc, .slice M mn mc, .int .i64 halt]] w (Gives (.tuple #[insV (NamedI l pc mn).o (NamedI l pc mn).a (NamedI l pc mn).b (NamedI l pc mn).c, .bool (namedV l pc mn)]) w) := by
  have HL := Lib.hid h.out.len
  have HV : Hid (namedV l pc mn = false) := by
    show _ = _
    unfold namedV
    rw [decide_eq_false (by rw [HL.out]; omega)]
    rfl
  have HI : Hid (NamedI l pc mn = noIns) := by show _ = _; unfold NamedI; rw [HV.out]; rfl
  rw [HI.out]
  have hle := h.out.le
  have hmx := h.out.max
  clear h HI HL
  have h1I : ¬ (2048 : Int) < (n : Int) := by omega
  have H1 := Lib.hid h1I
  clear h1 h1I
  go_enter Tryd.func33, Tryd.ntmps33
  go_upto_region 1 with fail
  obtain ⟨g1, hg1⟩ : ∃ g, g = w.heap.size := ⟨_, rfl⟩
  obtain ⟨W1, hW1⟩ : ∃ W1, W1 = World.alloc w (.cells #[.int .i64 pc, .slice M mn mc, .int .i64 halt] 30) := ⟨_, rfl⟩
  have C3 : Hid (W1.heap[g1]? = some (.cells #[.int .i64 pc, .slice M mn mc, .int .i64 halt] 30 (0, 0))) := by rw [hW1, hg1]; exact Go.heap_alloc_new w _
  have B : Hid (Below w.heap.size w W1) := by rw [hW1]; exact ext_alloc w _
  obtain ⟨g2, hg2⟩ : ∃ g, g = g1 + 1 := ⟨_, rfl⟩
  have hs2 : W1.heap.size = g2 := by rw [hW1, hg2, hg1]; simp
  rw [← hW1, ← hg1, ← hg2]
  clear hW1 hg1 hg2
  obtain ⟨U, hU⟩ : ∃ U, U = World.alloc W1 (.cells #[.int .i64 0, .int .i64 0, .int .i64 0, .int .i64 0] 57) := ⟨_, rfl⟩
  have C4 : Hid (U.heap[g2]? = some (.cells #[.int .i64 0, .int .i64 0, .int .i64 0, .int .i64 0] 57 (0, 0))) := by rw [hU, ← hs2]; exact Go.heap_alloc_new W1 _
  have HG2 : Hid (w.heap.size ≤ g2) := by show _ ≤ _; rw [← hs2]; exact B.out.size
  replace C3 : Hid (U.heap[g1]? = some (.cells #[.int .i64 pc, .slice M mn mc, .int .i64 halt] 30 (0, 0))) := by show _ = _; rw [hU]; exact keepG (ext_alloc W1 _) C3.out
  replace B : Hid (Below w.heap.size w U) := by rw [hU]; exact ext_trans B.out (ext_alloc W1 _)
  rw [← hU]
  clear hU hs2
  refine wp_region_schedC (fun u => Below U.heap.size U u) [(true, 0), (true, 1), (true, 2), (true, 3), (true, 4), (true, 5), (true, 6), (true, 7), (true, 8), (true, 9), (true, 10), (true, 11), (true, 12), (true, 13), (true, 14), (true, 15), (true, 16), (true, 17), (true, 18), (true, 19), (true, 20), (true, 21), (true, 22), (true, 23)] (by kernel_rfl) rfl (by kernel_rfl) (by kernel_rfl) (fun _ _ d _ _ h => by cases d <;> exact h) (ext_drew U) ?_
  intro J0 hJ0
  iterate 24 (first | (refine schedC_none rfl (by rfl) ?_; try go_simp) | (refine schedC_pure (v := ?_) rfl (by rfl) ?_ ?_; rotate_left; (focus (intro u hC; obtain ⟨z0, z1, z2⟩ := full3i (keepG hC C3.out); have g1 := H1.out; go_simp; try with_reducible rfl)); try go_simp))
  refine schedC_nil (hJ0 _ _ ?_)
  clear hJ0
  have Q : Hid (Below U.heap.size U U.drew) := ext_drew U
  generalize U.drew = V at Q ⊢
  obtain ⟨q0, q1, q2, q3, f0, f1, f2, f3⟩ := full4m (keepG Q.out C4.out)
  go_wp2_with fail
  have R := Lib.hid (set4M (keepG Q.out C4.out) (.int .i64 0) (.int .i64 0) (.int .i64 0) (.int .i64 0))
  obtain ⟨e0, e1, e2, e3, _, _, _, _⟩ := full4m R.out
  refine bodyPost_ret (v := .tuple #[.agg #[.int .i64 0, .int .i64 0, .int .i64 0, .int .i64 0], .bool false]) (by simp only [results, Tryd.results33]; simp [go_sem, e0, e1, e2, e3]) rfl ⟨by rw [HV.out]; rfl, ?_⟩
  exact bel4M (ext_trans B.out Q.out) HG2.out _ _ _ _

set_option maxRecDepth 100000 in
set_option maxHeartbeats 4000000 in
theorem named_in (w : World) (hf : Hid (Forms w)) (A : Option Addr) (n d : Nat) (l : List Ins) (h : Hid (RdS w A n d l)) (k : Nat) (M : Option Addr) (mn mc : Nat) (halt : Int) (h1 : n ≤ 2048) (h2 : k < n) : Calls Tryd.prog 33 #[.slice A n d, .agg #[.int .i64 k, .slice M mn mc, .int .i64 halt]] w (Gives (.tuple #[insV (NamedI l k mn).o (NamedI l k mn).a (NamedI l k mn).b (NamedI l k mn).c, .bool (namedV l k mn)]) w) := by
  have HL := Lib.hid h.out.len
  obtain ⟨y, hy⟩ : ∃ y, y = l.getD k noIns := ⟨_, rfl⟩
  obtain ⟨R, hR⟩ : ∃ R, R = rightV y.o y.a y.b y.c n mn := ⟨_, rfl⟩
  have HY : Hid (insAt l k = y) := by show _ = _; unfold insAt; rw [Int.toNat_natCast, hy]
  have HV : Hid (namedV l k mn = R) := by
    show _ = _
    unfold namedV
    rw [decide_eq_true (by rw [HL.out]; omega), HY.out, HL.out, hR]
    rfl
  have HI : Hid (NamedI l k mn = if R = true then y else noIns) := by show _ = _; unfold NamedI; rw [HV.out, HY.out]
  rw [HI.out, HV.out]
  have HR := Lib.hid hR
  have HD := Lib.hid hy
  obtain ⟨b, o, rfl, _, _⟩ := h.out.at h2
  have hle := h.out.le
  have hmx := h.out.max
  have h1I : ¬ (2048 : Int) < (n : Int) := by omega
  have h2I : ¬ (n : Int) ≤ (k : Int) := by omega
  have h3I : (k : Int) < (n : Int) := by omega
  have hk0 : (0 : Int) ≤ (k : Int) := by omega
  have H1 := Lib.hid h1I
  have H2 := Lib.hid h2I
  clear h1 h1I h2I HI HV HL hR hy
  obtain ⟨pc, hpc⟩ : ∃ pc : Int, pc = (k : Int) := ⟨_, rfl⟩
  have HP := Lib.hid hpc
  clear hpc
  go_enter Tryd.func33, Tryd.ntmps33
  go_upto_region 1 with fail
  obtain ⟨g1, hg1⟩ : ∃ g, g = w.heap.size := ⟨_, rfl⟩
  obtain ⟨W1, hW1⟩ : ∃ W1, W1 = World.alloc w (.cells #[.int .i64 k, .slice M mn mc, .int .i64 halt] 30) := ⟨_, rfl⟩
  have C3 : Hid (W1.heap[g1]? = some (.cells #[.int .i64 k, .slice M mn mc, .int .i64 halt] 30 (0, 0))) := by rw [hW1, hg1]; exact Go.heap_alloc_new w _
  have B : Hid (Below w.heap.size w W1) := by rw [hW1]; exact ext_alloc w _
  obtain ⟨g2, hg2⟩ : ∃ g, g = g1 + 1 := ⟨_, rfl⟩
  have hs2 : W1.heap.size = g2 := by rw [hW1, hg2, hg1]; simp
  rw [← hW1, ← hg1, ← hg2]
  clear hW1 hg1 hg2
  obtain ⟨U, hU⟩ : ∃ U, U = World.alloc W1 (.cells #[.int .i64 0, .int .i64 0, .int .i64 0, .int .i64 0] 57) := ⟨_, rfl⟩
  have C4 : Hid (U.heap[g2]? = some (.cells #[.int .i64 0, .int .i64 0, .int .i64 0, .int .i64 0] 57 (0, 0))) := by rw [hU, ← hs2]; exact Go.heap_alloc_new W1 _
  have HG2 : Hid (w.heap.size ≤ g2) := by show _ ≤ _; rw [← hs2]; exact B.out.size
  replace C3 : Hid (U.heap[g1]? = some (.cells #[.int .i64 k, .slice M mn mc, .int .i64 halt] 30 (0, 0))) := by show _ = _; rw [hU]; exact keepG (ext_alloc W1 _) C3.out
  replace B : Hid (Below w.heap.size w U) := by rw [hU]; exact ext_trans B.out (ext_alloc W1 _)
  rw [← hU]
  clear hU hs2
  have HF := Lib.hid (hf.out.ext B.out)
  have RS := Lib.hid (h.out.ext B.out)
  clear hf h
  refine wp_region_schedC (fun u => Below U.heap.size U u) [(true, 0), (true, 1), (true, 2), (true, 3), (true, 4), (true, 5), (true, 6), (true, 7), (true, 8), (true, 9), (true, 10), (true, 11), (true, 12), (true, 13), (true, 14), (true, 15), (true, 16), (true, 17), (true, 18), (true, 19), (true, 20), (false, 21), (true, 22), (true, 23)] (by kernel_rfl) rfl (by kernel_rfl) (by kernel_rfl) (fun _ _ d _ _ h => by cases d <;> exact h) (ext_drew U) ?_
  intro J0 hJ0
  iterate 21 (first | (refine schedC_none rfl (by rfl) ?_; try go_simp) | (refine schedC_pure (v := ?_) rfl (by rfl) ?_ ?_; rotate_left; (focus (intro u hC; obtain ⟨z0, z1, z2⟩ := full3i (keepG hC C3.out); have g1 := H1.out; have g2 := H2.out; obtain ⟨b9, o9, hA9, _, c0, c1, c2, c3⟩ := (RS.out.ext hC).at h2; injection hA9 with hA9; injection hA9 with e1 e2 _; subst e1 e2; rw [← HD.out] at c0 c1 c2 c3; go_simp; try with_reducible rfl)); try go_simp))
  refine schedC_eff rfl ?_
  intro J hJ
  go_wp2_with fail
  refine (right_c _ (Lib.hid (HF.out.ext (ext_drew U))) y.o y.a y.b y.c n mn).mono ?_
  rw [show rightV y.o y.a y.b y.c n mn = R from HR.out.symm]
  rintro e v ⟨rfl, hb⟩
  have Q := Lib.hid (ext_trans (ext_drew U) hb)
  clear hb
  go_wp2_with fail
  refine ⟨Q.out, ?_⟩
  cases R
  all_goals
    iterate 2 (first | (refine schedC_none rfl (by rfl) ?_; try go_simp) | (refine schedC_pure (v := ?_) rfl (by rfl) ?_ ?_; rotate_left; (focus (intro u hC; obtain ⟨z0, z1, z2⟩ := full3i (keepG hC C3.out); have g1 := H1.out; have g2 := H2.out; go_simp; try with_reducible rfl)); try go_simp))
    refine schedC_nil (hJ0 _ _ ?_)
    clear hJ0
  · obtain ⟨q0, q1, q2, q3, f0, f1, f2, f3⟩ := full4m (keepG Q.out C4.out)
    go_wp2_with fail
    have R := Lib.hid (set4M (keepG Q.out C4.out) (.int .i64 0) (.int .i64 0) (.int .i64 0) (.int .i64 0))
    obtain ⟨e0, e1, e2, e3, _, _, _, _⟩ := full4m R.out
    refine bodyPost_ret (v := .tuple #[.agg #[.int .i64 0, .int .i64 0, .int .i64 0, .int .i64 0], .bool false]) (by simp only [results, Tryd.results33]; simp [go_sem, e0, e1, e2, e3]) rfl ⟨rfl, ?_⟩
    exact bel4M (ext_trans B.out Q.out) HG2.out _ _ _ _
  · obtain ⟨q0, q1, q2, q3, f0, f1, f2, f3⟩ := full4m (keepG Q.out C4.out)
    obtain ⟨z0, z1, z2⟩ := full3i (keepG Q.out C3.out)
    obtain ⟨b9, o9, hA9, _, c0, c1, c2, c3⟩ := (RS.out.ext Q.out).at h2
    injection hA9 with hA9
    injection hA9 with e1 e2 _
    subst e1 e2
    rw [← HD.out] at c0 c1 c2 c3
    go_wp2_with fail
    have R := Lib.hid (set4M (keepG Q.out C4.out) (.int .i64 y.o) (.int .i64 y.a) (.int .i64 y.b) (.int .i64 y.c))
    obtain ⟨e0, e1, e2, e3, _, _, _, _⟩ := full4m R.out
    refine bodyPost_ret (v := .tuple #[.agg #[.int .i64 y.o, .int .i64 y.a, .int .i64 y.b, .int .i64 y.c], .bool true]) (by simp only [results, Tryd.results33]; simp [go_sem, e0, e1, e2, e3]) rfl ⟨rfl, ?_⟩
    exact bel4M (ext_trans B.out Q.out) HG2.out _ _ _ _
theorem named_c (w : World) (hf : Hid (Forms w)) (A : Option Addr) (n d : Nat) (l : List Ins) (h : Hid (RdS w A n d l)) (pc : Int) (hp : 0 ≤ pc) (M : Option Addr) (mn mc : Nat) (halt : Int) : Calls Tryd.prog 33 #[.slice A n d, .agg #[.int .i64 pc, .slice M mn mc, .int .i64 halt]] w (Gives (.tuple #[insV (NamedI l pc mn).o (NamedI l pc mn).a (NamedI l pc mn).b (NamedI l pc mn).c, .bool (namedV l pc mn)]) w) := by
  by_cases h1 : 2048 < n
  · exact named_far w A n d l h pc M mn mc halt h1
  by_cases h2 : (n : Int) ≤ pc
  · exact named_out w A n d l h pc M mn mc halt (by omega) h2
  obtain ⟨k, rfl⟩ : ∃ k : Nat, pc = (k : Int) := ⟨pc.toNat, by omega⟩
  exact named_in w hf A n d l h k M mn mc halt (by omega) (by omega)
#print axioms named_c
end Go.Proofs.YtbeileihbhooaaaDoor
