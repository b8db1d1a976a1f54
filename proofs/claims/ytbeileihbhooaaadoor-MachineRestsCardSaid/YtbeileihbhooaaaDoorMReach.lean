/-
  machine: the place of a load or a store; whether a jump is done: contracts.
-/
import Derived.Test.YtbeileihbhooaaaDoorMNamed
namespace Go.Proofs.YtbeileihbhooaaaDoor
open Go.RowKit

def Reaches (i : Ins) (m : List Int) (w : World) (e : Ending) (w' : World) : Prop := e = .returned (.tuple #[.int .i64 (placeV i m), .bool (thereV i m)]) ∧ Below w.heap.size w w'
theorem there_t {i : Ins} {m : List Int} {n : Nat} (hl : m.length = n) (h0 : 0 ≤ placeV i m) (h1 : placeV i m < n) : thereV i m = true := decide_eq_true ⟨h0, by omega⟩
theorem there_f {i : Ins} {m : List Int} {n : Nat} (hl : m.length = n) (h : ¬ (0 ≤ placeV i m ∧ placeV i m < n)) : thereV i m = false := decide_eq_false (by rw [hl]; exact h)

set_option maxRecDepth 100000 in
set_option maxHeartbeats 1000000 in
theorem reached_no (w : World) (o a b c : Int) (M : Option Addr) (n mc : Nat) (m : List Int) (h : Hid (RdW w M n mc m)) (_hin : Hid (∀ x ∈ m, In32 x)) (h15 : ¬ o = 15) (h16 : ¬ o = 16) : Calls Tryd.prog 36 #[insV o a b c, .slice M n mc] w (Reaches ⟨o, a, b, c⟩ m w) := by
  obtain ⟨P, hP⟩ : ∃ P, P = placeV ⟨o, a, b, c⟩ m := ⟨_, rfl⟩
  have HTT : Hid (0 ≤ P ∧ P < (n : Int) → thereV ⟨o, a, b, c⟩ m = true) := fun k => there_t h.out.len (by rw [← hP]; exact k.1) (by rw [← hP]; exact k.2)
  have HTF : Hid (¬ (0 ≤ P ∧ P < (n : Int)) → thereV ⟨o, a, b, c⟩ m = false) := fun k => there_f h.out.len (by rw [← hP]; exact k)
  unfold Reaches
  rw [← hP]
  have hle := h.out.le
  have hmx := h.out.max
  have hP0 : P = 0 := by rw [hP]; unfold placeV; rw [if_neg h15, if_neg h16]
  subst hP0
  have e1 : (o == 15) = false := by rw [beq_eq_false_iff_ne]; exact h15
  have e2 : (o == 16) = false := by rw [beq_eq_false_iff_ne]; exact h16
  clear hP h15 h16 h
  go_enter Tryd.func36, Tryd.ntmps36
  by_cases p1 : (0 : Int) < (n : Int)
  · have HT := Lib.hid (HTT.out ⟨by omega, p1⟩)
    have hdn : decide (0 < n) = true := decide_eq_true (by omega)
    go_wp2_with fail
    go_ret2
    exact ⟨by rw [HT.out]; rfl, ext_alloc w _⟩
  · have HT := Lib.hid (HTF.out (fun h => p1 h.2))
    obtain rfl : n = 0 := by omega
    clear p1
    go_wp2_with fail
    go_ret2
    exact ⟨by rw [HT.out]; rfl, ext_alloc w _⟩

set_option maxRecDepth 100000 in
set_option maxHeartbeats 1000000 in
theorem reached_load (w : World) (o a b c : Int) (M : Option Addr) (n mc : Nat) (m : List Int) (h : Hid (RdW w M n mc m)) (_hin : Hid (∀ x ∈ m, In32 x)) (ho : o = 15) (k : Nat) (hk : k < n) (hc : c = (k : Int)) (hb0 : 0 ≤ b) (hb1 : b < 100000) : Calls Tryd.prog 36 #[insV o a b c, .slice M n mc] w (Reaches ⟨o, a, b, c⟩ m w) := by
  obtain ⟨P, hP⟩ : ∃ P, P = placeV ⟨o, a, b, c⟩ m := ⟨_, rfl⟩
  have HTT : Hid (0 ≤ P ∧ P < (n : Int) → thereV ⟨o, a, b, c⟩ m = true) := fun k => there_t h.out.len (by rw [← hP]; exact k.1) (by rw [← hP]; exact k.2)
  have HTF : Hid (¬ (0 ≤ P ∧ P < (n : Int)) → thereV ⟨o, a, b, c⟩ m = false) := fun k => there_f h.out.len (by rw [← hP]; exact k)
  unfold Reaches
  rw [← hP]
  have hle := h.out.le
  have hmx := h.out.max
  subst ho hc
  obtain ⟨x, hx⟩ : ∃ x, x = getW m (k : Int) := ⟨_, rfl⟩
  have hxi : In32 x := by rw [hx]; exact getW_in _hin.out _
  obtain ⟨hx1, hx2⟩ := hxi
  have HX : Hid (m.getD k 0 = x) := by show _ = _; rw [hx]; unfold getW; rw [Int.toNat_natCast]
  have HP : Hid (P = b + x) := by show _ = _; rw [hP, hx]; rfl
  have hkI : (k : Int) < (n : Int) := by omega
  have hk0 : (0 : Int) ≤ (k : Int) := by omega
  obtain ⟨r, off, rfl, hrb, hcell⟩ := h.out.at hk
  rw [HX.out] at hcell
  clear hP hx h HX
  go_enter Tryd.func36, Tryd.ntmps36
  go_upto_region 4 with fail
  obtain ⟨g1, hg1⟩ : ∃ g, g = w.heap.size := ⟨_, rfl⟩
  obtain ⟨U, hU⟩ : ∃ U, U = World.alloc w (.cells #[.int .i64 15, .int .i64 a, .int .i64 b, .int .i64 k] 57) := ⟨_, rfl⟩
  have C4 : Hid (U.heap[g1]? = some (.cells #[.int .i64 15, .int .i64 a, .int .i64 b, .int .i64 k] 57 (0, 0))) := by rw [hU, hg1]; exact Go.heap_alloc_new w _
  have B : Hid (Below w.heap.size w U) := by rw [hU]; exact ext_alloc w _
  rw [← hU, ← hg1]
  clear hU hg1
  replace hcell := (B.out.cell (p := ⟨r, off + k, none⟩) hrb).trans hcell
  obtain ⟨z0, z1, z2, z3⟩ := full4i C4.out
  have w1 : IntKind.i64.wrap x = x := IntWalk.i64_in _ (by omega)
  have w2 : IntKind.i64.wrap (b + x) = b + x := IntWalk.i64_in _ (by omega)
  refine wp_region_schedC (fun u => Below U.heap.size U u) [(true, 0), (true, 1), (true, 2), (true, 3), (true, 4), (true, 5), (true, 6), (true, 7), (true, 8), (true, 9)] (by kernel_rfl) rfl (by kernel_rfl) (by kernel_rfl) (fun _ _ d _ _ h => by cases d <;> exact h) (ext_drew U) ?_
  intro J0 hJ0
  have HC := Lib.hid hcell
  have hrU : r < U.heap.size := World.block_lt_of_cell? _ _ hcell
  clear hcell z0 z1 z2 z3
  iterate 10 (first | (refine schedC_none rfl (by rfl) ?_; try go_simp) | (refine schedC_pure (v := ?_) rfl (by rfl) ?_ ?_; rotate_left; (focus (intro u hC; obtain ⟨z0, z1, z2, z3⟩ := full4i (keepG hC C4.out); have hc2 := (hC.cell (p := ⟨r, off + k, none⟩) hrU).trans HC.out; go_simp; try with_reducible rfl)); try go_simp))
  refine schedC_nil (hJ0 _ _ ?_)
  clear hJ0
  clear w1 w2
  rw [← HP.out]
  clear HP hb0 hb1 hx1 hx2
  replace B : Hid (Below w.heap.size w U.drew) := ext_trans B.out (ext_drew U)
  generalize U.drew = V at B ⊢
  by_cases p0 : 0 ≤ P
  · by_cases p1 : P < (n : Int)
    · have HT := Lib.hid (HTT.out ⟨p0, p1⟩)
      go_wp2_with fail
      go_ret2
      exact ⟨by rw [HT.out]; rfl, B.out⟩
    · have HT := Lib.hid (HTF.out (fun h => p1 h.2))
      go_wp2_with fail
      go_ret2
      exact ⟨by rw [HT.out]; rfl, B.out⟩
  · have HT := Lib.hid (HTF.out (fun h => p0 h.1))
    go_wp2_with fail
    go_ret2
    exact ⟨by rw [HT.out]; rfl, B.out⟩

set_option maxRecDepth 100000 in
set_option maxHeartbeats 1000000 in
theorem reached_store (w : World) (o a b c : Int) (M : Option Addr) (n mc : Nat) (m : List Int) (h : Hid (RdW w M n mc m)) (_hin : Hid (∀ x ∈ m, In32 x)) (ho : o = 16) (k : Nat) (hk : k < n) (hc : b = (k : Int)) (hb0 : 0 ≤ a) (hb1 : a < 100000) : Calls Tryd.prog 36 #[insV o a b c, .slice M n mc] w (Reaches ⟨o, a, b, c⟩ m w) := by
  obtain ⟨P, hP⟩ : ∃ P, P = placeV ⟨o, a, b, c⟩ m := ⟨_, rfl⟩
  have HTT : Hid (0 ≤ P ∧ P < (n : Int) → thereV ⟨o, a, b, c⟩ m = true) := fun k => there_t h.out.len (by rw [← hP]; exact k.1) (by rw [← hP]; exact k.2)
  have HTF : Hid (¬ (0 ≤ P ∧ P < (n : Int)) → thereV ⟨o, a, b, c⟩ m = false) := fun k => there_f h.out.len (by rw [← hP]; exact k)
  unfold Reaches
  rw [← hP]
  have hle := h.out.le
  have hmx := h.out.max
  subst ho hc
  obtain ⟨x, hx⟩ : ∃ x, x = getW m (k : Int) := ⟨_, rfl⟩
  have hxi : In32 x := by rw [hx]; exact getW_in _hin.out _
  obtain ⟨hx1, hx2⟩ := hxi
  have HX : Hid (m.getD k 0 = x) := by show _ = _; rw [hx]; unfold getW; rw [Int.toNat_natCast]
  have HP : Hid (P = a + x) := by show _ = _; rw [hP, hx]; rfl
  have hkI : (k : Int) < (n : Int) := by omega
  have hk0 : (0 : Int) ≤ (k : Int) := by omega
  obtain ⟨r, off, rfl, hrb, hcell⟩ := h.out.at hk
  rw [HX.out] at hcell
  clear hP hx h HX
  go_enter Tryd.func36, Tryd.ntmps36
  go_upto_region 6 with fail
  obtain ⟨g1, hg1⟩ : ∃ g, g = w.heap.size := ⟨_, rfl⟩
  obtain ⟨U, hU⟩ : ∃ U, U = World.alloc w (.cells #[.int .i64 16, .int .i64 a, .int .i64 k, .int .i64 c] 57) := ⟨_, rfl⟩
  have C4 : Hid (U.heap[g1]? = some (.cells #[.int .i64 16, .int .i64 a, .int .i64 k, .int .i64 c] 57 (0, 0))) := by rw [hU, hg1]; exact Go.heap_alloc_new w _
  have B : Hid (Below w.heap.size w U) := by rw [hU]; exact ext_alloc w _
  rw [← hU, ← hg1]
  clear hU hg1
  replace hcell := (B.out.cell (p := ⟨r, off + k, none⟩) hrb).trans hcell
  obtain ⟨z0, z1, z2, z3⟩ := full4i C4.out
  have w1 : IntKind.i64.wrap x = x := IntWalk.i64_in _ (by omega)
  have w2 : IntKind.i64.wrap (a + x) = a + x := IntWalk.i64_in _ (by omega)
  refine wp_region_schedC (fun u => Below U.heap.size U u) [(true, 0), (true, 1), (true, 2), (true, 3), (true, 4), (true, 5), (true, 6), (true, 7), (true, 8), (true, 9)] (by kernel_rfl) rfl (by kernel_rfl) (by kernel_rfl) (fun _ _ d _ _ h => by cases d <;> exact h) (ext_drew U) ?_
  intro J0 hJ0
  have HC := Lib.hid hcell
  have hrU : r < U.heap.size := World.block_lt_of_cell? _ _ hcell
  clear hcell z0 z1 z2 z3
  iterate 10 (first | (refine schedC_none rfl (by rfl) ?_; try go_simp) | (refine schedC_pure (v := ?_) rfl (by rfl) ?_ ?_; rotate_left; (focus (intro u hC; obtain ⟨z0, z1, z2, z3⟩ := full4i (keepG hC C4.out); have hc2 := (hC.cell (p := ⟨r, off + k, none⟩) hrU).trans HC.out; go_simp; try with_reducible rfl)); try go_simp))
  refine schedC_nil (hJ0 _ _ ?_)
  clear hJ0
  clear w1 w2
  rw [← HP.out]
  clear HP hb0 hb1 hx1 hx2
  replace B : Hid (Below w.heap.size w U.drew) := ext_trans B.out (ext_drew U)
  generalize U.drew = V at B ⊢
  by_cases p0 : 0 ≤ P
  · by_cases p1 : P < (n : Int)
    · have HT := Lib.hid (HTT.out ⟨p0, p1⟩)
      go_wp2_with fail
      go_ret2
      exact ⟨by rw [HT.out]; rfl, B.out⟩
    · have HT := Lib.hid (HTF.out (fun h => p1 h.2))
      go_wp2_with fail
      go_ret2
      exact ⟨by rw [HT.out]; rfl, B.out⟩
  · have HT := Lib.hid (HTF.out (fun h => p0 h.1))
    go_wp2_with fail
    go_ret2
    exact ⟨by rw [HT.out]; rfl, B.out⟩

set_option maxRecDepth 100000 in
theorem jumps_19 (w : World) (a b c : Int) (M : Option Addr) (n mc : Nat) : Calls Tryd.prog 54 #[insV 19 a b c, .slice M n mc] w (Gives (.bool true) w) := by
  go_enter Tryd.func54, Tryd.ntmps54
  go_upto_region 1 with fail
  obtain ⟨g1, hg1⟩ : ∃ g, g = w.heap.size := ⟨_, rfl⟩
  obtain ⟨U, hU⟩ : ∃ U, U = World.alloc w (.cells #[.int .i64 19, .int .i64 a, .int .i64 b, .int .i64 c] 57) := ⟨_, rfl⟩
  have C4 : Hid (U.heap[g1]? = some (.cells #[.int .i64 19, .int .i64 a, .int .i64 b, .int .i64 c] 57 (0, 0))) := by rw [hU, hg1]; exact Go.heap_alloc_new w _
  have B : Hid (Below w.heap.size w U) := by rw [hU]; exact ext_alloc w _
  rw [← hU, ← hg1]
  clear hU hg1
  refine wp_region_schedC (fun u => Below U.heap.size U u) [(true, 0), (true, 1), (true, 2), (true, 3), (true, 4), (true, 5), (true, 6), (true, 7), (true, 8), (true, 9), (true, 10), (true, 11), (true, 12), (true, 13), (true, 14), (true, 15)] (by kernel_rfl) rfl (by kernel_rfl) (by kernel_rfl) (fun _ _ d _ _ h => by cases d <;> exact h) (ext_drew U) ?_
  intro J0 hJ0
  iterate 16 (first | (refine schedC_none rfl (by rfl) ?_; try go_simp) | (refine schedC_pure (v := ?_) rfl (by rfl) ?_ ?_; rotate_left; (focus (intro u hC; obtain ⟨z0, z1, z2, z3⟩ := full4i (keepG hC C4.out); go_simp; try with_reducible rfl)); try go_simp))
  refine schedC_nil (hJ0 _ _ ?_)
  clear hJ0
  replace B : Hid (Below w.heap.size w U.drew) := ext_trans B.out (ext_drew U)
  go_wp2_with fail
  go_ret
  exact ⟨rfl, B.out⟩

set_option maxRecDepth 100000 in
theorem jumps_20t (w : World) (a c : Int) (M : Option Addr) (n mc : Nat) (m : List Int) (h : Hid (RdW w M n mc m)) (k : Nat) (hk : k < n) (hx : getW m (k : Int) = 0) : Calls Tryd.prog 54 #[insV 20 a k c, .slice M n mc] w (Gives (.bool true) w) := by
  obtain ⟨x, hx1⟩ : ∃ x, x = getW m (k : Int) := ⟨_, rfl⟩
  have HX : Hid (m.getD k 0 = x) := by show _ = _; rw [hx1]; unfold getW; rw [Int.toNat_natCast]
  rw [← hx1] at hx
  have hle := h.out.le
  have hmx := h.out.max
  have hkI : (k : Int) < (n : Int) := by omega
  have hk0 : (0 : Int) ≤ (k : Int) := by omega
  obtain ⟨r, off, rfl, hrb, hcell⟩ := h.out.at hk
  rw [HX.out] at hcell
  clear hx1 h HX
  subst hx
  go_enter Tryd.func54, Tryd.ntmps54
  go_upto_region 1 with fail
  obtain ⟨g1, hg1⟩ : ∃ g, g = w.heap.size := ⟨_, rfl⟩
  obtain ⟨U, hU⟩ : ∃ U, U = World.alloc w (.cells #[.int .i64 20, .int .i64 a, .int .i64 k, .int .i64 c] 57) := ⟨_, rfl⟩
  have C4 : Hid (U.heap[g1]? = some (.cells #[.int .i64 20, .int .i64 a, .int .i64 k, .int .i64 c] 57 (0, 0))) := by rw [hU, hg1]; exact Go.heap_alloc_new w _
  have B : Hid (Below w.heap.size w U) := by rw [hU]; exact ext_alloc w _
  rw [← hU, ← hg1]
  clear hU hg1
  replace hcell := (B.out.cell (p := ⟨r, off + k, none⟩) hrb).trans hcell
  have HC := Lib.hid hcell
  have hrU : r < U.heap.size := World.block_lt_of_cell? _ _ hcell
  clear hcell
  refine wp_region_schedC (fun u => Below U.heap.size U u) [(true, 0), (true, 1), (true, 2), (true, 3), (true, 4), (true, 5), (true, 6), (true, 7), (true, 8), (true, 9), (true, 10), (true, 11), (true, 12), (true, 13), (true, 14), (true, 15)] (by kernel_rfl) rfl (by kernel_rfl) (by kernel_rfl) (fun _ _ d _ _ h => by cases d <;> exact h) (ext_drew U) ?_
  intro J0 hJ0
  iterate 16 (first | (refine schedC_none rfl (by rfl) ?_; try go_simp) | (refine schedC_pure (v := ?_) rfl (by rfl) ?_ ?_; rotate_left; (focus (intro u hC; obtain ⟨z0, z1, z2, z3⟩ := full4i (keepG hC C4.out); have hc2 := (hC.cell (p := ⟨r, off + k, none⟩) hrU).trans HC.out; go_simp; try with_reducible rfl)); try go_simp))
  refine schedC_nil (hJ0 _ _ ?_)
  clear hJ0
  replace B : Hid (Below w.heap.size w U.drew) := ext_trans B.out (ext_drew U)
  go_wp2_with fail
  go_ret
  exact ⟨rfl, B.out⟩

set_option maxRecDepth 100000 in
theorem jumps_20f (w : World) (a c : Int) (M : Option Addr) (n mc : Nat) (m : List Int) (h : Hid (RdW w M n mc m)) (k : Nat) (hk : k < n) (hx : ¬ getW m (k : Int) = 0) : Calls Tryd.prog 54 #[insV 20 a k c, .slice M n mc] w (Gives (.bool false) w) := by
  obtain ⟨x, hx1⟩ : ∃ x, x = getW m (k : Int) := ⟨_, rfl⟩
  have HX : Hid (m.getD k 0 = x) := by show _ = _; rw [hx1]; unfold getW; rw [Int.toNat_natCast]
  rw [← hx1] at hx
  have hle := h.out.le
  have hmx := h.out.max
  have hkI : (k : Int) < (n : Int) := by omega
  have hk0 : (0 : Int) ≤ (k : Int) := by omega
  obtain ⟨r, off, rfl, hrb, hcell⟩ := h.out.at hk
  rw [HX.out] at hcell
  clear hx1 h HX
  have hxe : (x == 0) = false := by rw [beq_eq_false_iff_ne]; exact hx
  clear hx
  go_enter Tryd.func54, Tryd.ntmps54
  go_upto_region 1 with fail
  obtain ⟨g1, hg1⟩ : ∃ g, g = w.heap.size := ⟨_, rfl⟩
  obtain ⟨U, hU⟩ : ∃ U, U = World.alloc w (.cells #[.int .i64 20, .int .i64 a, .int .i64 k, .int .i64 c] 57) := ⟨_, rfl⟩
  have C4 : Hid (U.heap[g1]? = some (.cells #[.int .i64 20, .int .i64 a, .int .i64 k, .int .i64 c] 57 (0, 0))) := by rw [hU, hg1]; exact Go.heap_alloc_new w _
  have B : Hid (Below w.heap.size w U) := by rw [hU]; exact ext_alloc w _
  rw [← hU, ← hg1]
  clear hU hg1
  replace hcell := (B.out.cell (p := ⟨r, off + k, none⟩) hrb).trans hcell
  have HC := Lib.hid hcell
  have hrU : r < U.heap.size := World.block_lt_of_cell? _ _ hcell
  clear hcell
  refine wp_region_schedC (fun u => Below U.heap.size U u) [(true, 0), (true, 1), (true, 2), (true, 3), (true, 4), (true, 5), (true, 6), (true, 7), (true, 8), (true, 9), (true, 10), (true, 11), (true, 12), (true, 13), (true, 14), (true, 15)] (by kernel_rfl) rfl (by kernel_rfl) (by kernel_rfl) (fun _ _ d _ _ h => by cases d <;> exact h) (ext_drew U) ?_
  intro J0 hJ0
  iterate 16 (first | (refine schedC_none rfl (by rfl) ?_; try go_simp) | (refine schedC_pure (v := ?_) rfl (by rfl) ?_ ?_; rotate_left; (focus (intro u hC; obtain ⟨z0, z1, z2, z3⟩ := full4i (keepG hC C4.out); have hc2 := (hC.cell (p := ⟨r, off + k, none⟩) hrU).trans HC.out; go_simp; try with_reducible rfl)); try go_simp))
  refine schedC_nil (hJ0 _ _ ?_)
  clear hJ0
  replace B : Hid (Below w.heap.size w U.drew) := ext_trans B.out (ext_drew U)
  go_wp2_with fail
  go_ret
  exact ⟨rfl, B.out⟩

set_option maxRecDepth 100000 in
theorem jumps_21t (w : World) (a c : Int) (M : Option Addr) (n mc : Nat) (m : List Int) (h : Hid (RdW w M n mc m)) (k : Nat) (hk : k < n) (hx : getW m (k : Int) = 0) : Calls Tryd.prog 54 #[insV 21 a k c, .slice M n mc] w (Gives (.bool false) w) := by
  obtain ⟨x, hx1⟩ : ∃ x, x = getW m (k : Int) := ⟨_, rfl⟩
  have HX : Hid (m.getD k 0 = x) := by show _ = _; rw [hx1]; unfold getW; rw [Int.toNat_natCast]
  rw [← hx1] at hx
  have hle := h.out.le
  have hmx := h.out.max
  have hkI : (k : Int) < (n : Int) := by omega
  have hk0 : (0 : Int) ≤ (k : Int) := by omega
  obtain ⟨r, off, rfl, hrb, hcell⟩ := h.out.at hk
  rw [HX.out] at hcell
  clear hx1 h HX
  subst hx
  go_enter Tryd.func54, Tryd.ntmps54
  go_upto_region 1 with fail
  obtain ⟨g1, hg1⟩ : ∃ g, g = w.heap.size := ⟨_, rfl⟩
  obtain ⟨U, hU⟩ : ∃ U, U = World.alloc w (.cells #[.int .i64 21, .int .i64 a, .int .i64 k, .int .i64 c] 57) := ⟨_, rfl⟩
  have C4 : Hid (U.heap[g1]? = some (.cells #[.int .i64 21, .int .i64 a, .int .i64 k, .int .i64 c] 57 (0, 0))) := by rw [hU, hg1]; exact Go.heap_alloc_new w _
  have B : Hid (Below w.heap.size w U) := by rw [hU]; exact ext_alloc w _
  rw [← hU, ← hg1]
  clear hU hg1
  replace hcell := (B.out.cell (p := ⟨r, off + k, none⟩) hrb).trans hcell
  have HC := Lib.hid hcell
  have hrU : r < U.heap.size := World.block_lt_of_cell? _ _ hcell
  clear hcell
  refine wp_region_schedC (fun u => Below U.heap.size U u) [(true, 0), (true, 1), (true, 2), (true, 3), (true, 4), (true, 5), (true, 6), (true, 7), (true, 8), (true, 9), (true, 10), (true, 11), (true, 12), (true, 13), (true, 14), (true, 15)] (by kernel_rfl) rfl (by kernel_rfl) (by kernel_rfl) (fun _ _ d _ _ h => by cases d <;> exact h) (ext_drew U) ?_
  intro J0 hJ0
  iterate 16 (first | (refine schedC_none rfl (by rfl) ?_; try go_simp) | (refine schedC_pure (v := ?_) rfl (by rfl) ?_ ?_; rotate_left; (focus (intro u hC; obtain ⟨z0, z1, z2, z3⟩ := full4i (keepG hC C4.out); have hc2 := (hC.cell (p := ⟨r, off + k, none⟩) hrU).trans HC.out; go_simp; try with_reducible rfl)); try go_simp))
  refine schedC_nil (hJ0 _ _ ?_)
  clear hJ0
  replace B : Hid (Below w.heap.size w U.drew) := ext_trans B.out (ext_drew U)
  go_wp2_with fail
  go_ret
  exact ⟨rfl, B.out⟩

set_option maxRecDepth 100000 in
theorem jumps_21f (w : World) (a c : Int) (M : Option Addr) (n mc : Nat) (m : List Int) (h : Hid (RdW w M n mc m)) (k : Nat) (hk : k < n) (hx : ¬ getW m (k : Int) = 0) : Calls Tryd.prog 54 #[insV 21 a k c, .slice M n mc] w (Gives (.bool true) w) := by
  obtain ⟨x, hx1⟩ : ∃ x, x = getW m (k : Int) := ⟨_, rfl⟩
  have HX : Hid (m.getD k 0 = x) := by show _ = _; rw [hx1]; unfold getW; rw [Int.toNat_natCast]
  rw [← hx1] at hx
  have hle := h.out.le
  have hmx := h.out.max
  have hkI : (k : Int) < (n : Int) := by omega
  have hk0 : (0 : Int) ≤ (k : Int) := by omega
  obtain ⟨r, off, rfl, hrb, hcell⟩ := h.out.at hk
  rw [HX.out] at hcell
  clear hx1 h HX
  have hxe : (x == 0) = false := by rw [beq_eq_false_iff_ne]; exact hx
  clear hx
  go_enter Tryd.func54, Tryd.ntmps54
  go_upto_region 1 with fail
  obtain ⟨g1, hg1⟩ : ∃ g, g = w.heap.size := ⟨_, rfl⟩
  obtain ⟨U, hU⟩ : ∃ U, U = World.alloc w (.cells #[.int .i64 21, .int .i64 a, .int .i64 k, .int .i64 c] 57) := ⟨_, rfl⟩
  have C4 : Hid (U.heap[g1]? = some (.cells #[.int .i64 21, .int .i64 a, .int .i64 k, .int .i64 c] 57 (0, 0))) := by rw [hU, hg1]; exact Go.heap_alloc_new w _
  have B : Hid (Below w.heap.size w U) := by rw [hU]; exact ext_alloc w _
  rw [← hU, ← hg1]
  clear hU hg1
  replace hcell := (B.out.cell (p := ⟨r, off + k, none⟩) hrb).trans hcell
  have HC := Lib.hid hcell
  have hrU : r < U.heap.size := World.block_lt_of_cell? _ _ hcell
  clear hcell
  refine wp_region_schedC (fun u => Below U.heap.size U u) [(true, 0), (true, 1), (true, 2), (true, 3), (true, 4), (true, 5), (true, 6), (true, 7), (true, 8), (true, 9), (true, 10), (true, 11), (true, 12), (true, 13), (true, 14), (true, 15)] (by kernel_rfl) rfl (by kernel_rfl) (by kernel_rfl) (fun _ _ d _ _ h => by cases d <;> exact h) (ext_drew U) ?_
  intro J0 hJ0
  iterate 16 (first | (refine schedC_none rfl (by rfl) ?_; try go_simp) | (refine schedC_pure (v := ?_) rfl (by rfl) ?_ ?_; rotate_left; (focus (intro u hC; obtain ⟨z0, z1, z2, z3⟩ := full4i (keepG hC C4.out); have hc2 := (hC.cell (p := ⟨r, off + k, none⟩) hrU).trans HC.out; go_simp; try with_reducible rfl)); try go_simp))
  refine schedC_nil (hJ0 _ _ ?_)
  clear hJ0
  replace B : Hid (Below w.heap.size w U.drew) := ext_trans B.out (ext_drew U)
  go_wp2_with fail
  go_ret
  exact ⟨rfl, B.out⟩
#print axioms reached_store
#print axioms jumps_21f
end Go.Proofs.YtbeileihbhooaaaDoor
