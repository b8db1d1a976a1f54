/-
  MachineNews: the walk.
-/
import Derived.Test.YtbeileihbhooaaaDoorMTold
import Derived.Test.YtbeileihbhooaaaDoorFrame
import Derived.Test.YtbeileihbhooaaaDoorSchedT
namespace Go.Proofs.YtbeileihbhooaaaDoor
open Go.RowKit

theorem wpList_wantedM {P : Program} {w : World} {ops : Array Oper} {rest : List Oper} {o : Oper} {a : Act} {Q : Exit → Act → World → Prop} (hw : Region.wanted o (yielded ops a.tmps) = true)
    (h : ∀ K : Act → World → Prop, (∀ a w, wpList P ops Q rest a w → K a w) → o.wp P a w K Q) : wpList P ops Q (o :: rest) a w :=
  wpList_step fun K hK => by simp only [hw, if_true]; exact h K hK
theorem wpList_makeW {w : World} {ops : Array Oper} {rest : List Oper} {o : Oper} {a : Act} {Q : Exit → Act → World → Prop} (hw : Region.wanted o (yielded ops a.tmps) = true) (l k : Operand) (hop : o.op = Op.makeSlice 23 l k) (n : Nat) (hl : a.eval l = .int .i64 n) (hc : a.eval k = .int .i64 n) (hn : n ≤ 1000000)
    (hK : ∀ w', OwnW w' 21 w.heap.size (some ⟨w.heap.size, 0, none⟩) n n (List.replicate n 0) → Below w.heap.size w w' → wpList Tryd.prog ops Q rest (a.put o.dst (.slice (some ⟨w.heap.size, 0, none⟩) n n)) w') : wpList Tryd.prog ops Q (o :: rest) a w := by
  obtain ⟨i0, hi, hz0, hz1, hz2⟩ := info_parts infoW
  refine wpList_wantedM hw fun K hK' => ?_
  have hb' : (i0.bytes : Int) * (n : Int) ≤ 281474976710656 := by rw [hz2]; omega
  have hrun := run_make (P := Tryd.prog) w 23 21 i0 (.int .i32 0) Tryd.underlying23 hi hz0 .i64 .i64 n n (by omega) (by omega) hb' (by omega)
  simp only [Int.toNat_natCast, hz1, Nat.mul_one, (show (Value.int .i32 0).cells = #[Value.int .i32 0] from rfl)] at hrun
  have htk : List.take (n * 1) (madeCells #[Value.int .i32 0] n).toList = List.replicate n (Value.int .i32 0) := by rw [toList_madeCells_one, Nat.mul_one, List.take_replicate, Nat.min_self]
  have hrow : (w.alloc (.cells (madeCells #[Value.int .i32 0] n) 21)).ownsRow w.heap.size 21 1 (.slice (some ⟨w.heap.size, 0, none⟩) n n) n (List.replicate n (Value.int .i32 0)) := ⟨by simp, .inr ⟨w.heap.size, n, _, rfl, Nat.le_refl _, heap_alloc_new w _, Nat.le_refl _, by unfold maxLen; omega, by simp [size_madeCells], htk⟩⟩
  unfold Oper.wp
  simp [execOp, hop, hl, hc, hrun, Result.andThen]
  exact hK' _ _ (hK _ ⟨by simp, by omega, by rw [← rep32]; exact hrow⟩ (ext_alloc w _))

set_option maxRecDepth 100000 in
set_option maxHeartbeats 8000000 in
theorem walkMachineNews (w : World) (n : Int) (_n1 : -9223372036854775808 ≤ n) (_n2 : n < 9223372036854775808) (hf : Hid (Forms w)) : Calls Tryd.prog 9 #[.int .i64 n] w (Holds w) := by
  clear _n1 _n2
  by_cases h : n < 1 ∨ 256 < n
  · by_cases h1 : n < 1
    all_goals
      go_enter Tryd.func9, Tryd.ntmps9
      go_wp2_with fail
      refine (new_no _ n h).mono ?_
      rintro e v ⟨rfl, hb⟩
      have B := Lib.hid hb
      have h2 : n < 1 ∨ 256 < n := h
      clear hb h
      try have h3 : 256 < n := by omega
      clear h2
      go_wp2_with fail
      refine (told_c _ (Lib.hid (hf.out.ext (ext_trans B.out (ext_alloc v _))))).mono ?_
      rintro e v2 ⟨rfl, hb⟩
      go_wp2_with fail
      go_ret
      exact ⟨rfl, ext_trans (ext_trans B.out (ext_alloc v _)) hb⟩
  · obtain ⟨m, rfl⟩ : ∃ m : Nat, n = (m : Int) := ⟨n.toNat, by omega⟩
    have m1 : 1 ≤ m := by omega
    have m2 : m ≤ 256 := by omega
    have i1 : ¬ (m : Int) < 1 := by omega
    have i2 : ¬ (256 : Int) < (m : Int) := by omega
    clear h
    go_enter Tryd.func9, Tryd.ntmps9
    go_wp2_with fail
    refine (new_c _ m m1 m2).mono ?_
    rintro e v ⟨A1, c1, rfl, ho, hb⟩
    have B := Lib.hid hb
    have R1 : Hid (RdW v A1 m c1 (List.replicate m 0)) := ho.rd
    clear ho hb
    have M1 := Lib.hid m1
    have M2 := Lib.hid m2
    clear m1 m2
    go_wp2_with fail
    have m1 := M1.out
    have m2 := M2.out
    obtain ⟨g, hg⟩ : ∃ g, g = v.heap.size := ⟨_, rfl⟩
    obtain ⟨W, hW⟩ : ∃ V, V = World.alloc v (.cells #[.int .i64 0, .slice A1 m c1, .int .i64 0] 30) := ⟨_, rfl⟩
    have C2 : Hid (W.heap[g]? = some (.cells #[.int .i64 0, .slice A1 m c1, .int .i64 0] 30 (0, 0))) := by rw [hW, hg]; exact Go.heap_alloc_new v _
    have BV : Hid (Below v.heap.size v W) := by rw [hW]; exact ext_alloc v _
    replace R1 := Lib.hid (R1.out.ext BV.out)
    replace B := Lib.hid (ext_trans B.out BV.out)
    rw [← hW, ← hg]
    clear hW hg BV
    have HF := Lib.hid (hf.out.ext B.out)
    clear hf
    have HRT : Hid (rightM ⟨0, List.replicate m 0, 0⟩ = true) := decide_eq_true (by dsimp only; rw [List.length_replicate]; omega)
    refine wp_region_tr (fin := 99) (fun u => Below W.heap.size W u) (.pure 0 (.pure 1 (.pure 2 (.pure 3 (.eff 4 (.pure 5 (.pure 6 (.pure 7 (.pure 9 (.two 8 (.eff 10 (.pure 11 (.eff 12 (.pure 13 (.pure 14 (.eff 15 (.pure 16 (.pure 17 .nil)))))))) 10 (.pure 11 (.eff 8 (.eff 12 (.pure 13 (.pure 14 (.eff 15 (.pure 16 (.pure 17 .nil)))))))))))))))))) (by kernel_rfl) (by kernel_rfl) (by kernel_rfl) (fun _ _ d _ _ h => by cases d <;> exact h) (ext_drew W) ?_
    intro J0 hJ0
    have Q : Hid (Below W.heap.size W W.drew) := ext_drew W
    iterate 4 (refine tr_pure (v := ?_) rfl (by rfl) ?_ ?_; rotate_left; (focus (intro u hC; obtain ⟨x0, x1, x2⟩ := full3i (keepG hC C2.out); go_simp; try with_reducible rfl)); try go_simp)
    refine tr_eff rfl ?_
    intro J hJ
    go_wp2_with fail
    refine (right_s _ 0 A1 m c1 0 (List.replicate m 0) (by simp) R1.out.le).mono ?_
    rw [HRT.out]
    rintro e v1 ⟨rfl, hb⟩
    replace Q : Hid (Below W.heap.size W v1) := ext_trans Q.out hb
    clear hb
    go_wp2_with fail
    refine ⟨fun _ => Q.out, ?_⟩
    iterate 4 (refine tr_pure (v := ?_) rfl (by rfl) ?_ ?_; rotate_left; (focus (intro u hC; obtain ⟨x0, x1, x2⟩ := full3i (keepG hC C2.out); go_simp; try with_reducible rfl)); try go_simp)
    refine tr_two rfl rfl ?_ ?_
    · intro J hJ
      go_wp2_with fail
      refine (back_c _ 0 A1 m c1 0 (List.replicate m 0) (Lib.hid (R1.out.ext Q.out)) (by omega)).mono ?_
      rintro e v2 ⟨A2, c2, rfl, ho, hb⟩
      replace Q : Hid (Below W.heap.size W v2) := ext_trans Q.out hb
      have RB : Hid (RdW v2 A2 m c2 (List.replicate m 0)) := ho.rd
      clear ho hb
      go_wp2_with fail
      refine ⟨fun _ => Q.out, ?_⟩
      refine tr_eff rfl ?_
      intro J hJ
      refine wpList_makeW (by rfl) (.tmp 46) (.tmp 46) rfl m (by rfl) (by rfl) (by omega) ?_
      intro v3 ho hb
      replace Q : Hid (Below W.heap.size W v3) := ext_trans Q.out hb
      have RM : Hid (RdW v3 _ m m (List.replicate m 0)) := ho.rd
      replace RB := Lib.hid (RB.out.ext hb)
      clear ho hb
      go_wp2_with fail
      refine ⟨fun _ => Q.out, ?_⟩
      iterate 1 (refine tr_pure (v := ?_) rfl (by rfl) ?_ ?_; rotate_left; (focus (intro u hC;  go_simp; try with_reducible rfl)); try go_simp)
      refine tr_eff rfl ?_
      intro J hJ
      go_wp2_with fail
      refine (rsame_c _ 0 A2 m c2 0 (List.replicate m 0) RB 0 _ m m 0 (List.replicate m 0) RM).mono ?_
      rw [sameM_self]
      rintro e v5 ⟨rfl, hb⟩
      replace Q : Hid (Below W.heap.size W v5) := ext_trans Q.out hb
      clear hb RB RM
      go_wp2_with fail
      refine ⟨fun _ => Q.out, ?_⟩
      iterate 2 (refine tr_pure (v := ?_) rfl (by rfl) ?_ ?_; rotate_left; (focus (intro u hC;  go_simp; try with_reducible rfl)); try go_simp)
      refine tr_eff rfl ?_
      intro J hJ
      go_wp2_with fail
      refine (told_c _ (Lib.hid (HF.out.ext Q.out))).mono ?_
      rintro e v6 ⟨rfl, hb⟩
      replace Q : Hid (Below W.heap.size W v6) := ext_trans Q.out hb
      clear hb
      go_wp2_with fail
      refine ⟨fun _ => Q.out, ?_⟩
      iterate 2 (refine tr_pure (v := ?_) rfl (by rfl) ?_ ?_; rotate_left; (focus (intro u hC;  go_simp; try with_reducible rfl)); try go_simp)
      refine tr_nil (hJ0 _ _ ?_)
      clear hJ0
      go_wp2_with fail
      go_ret
      exact ⟨rfl, ext_trans B.out Q.out⟩
    · intro J hJ
      refine wpList_makeW (by rfl) (.tmp 46) (.tmp 46) rfl m (by rfl) (by rfl) (by omega) ?_
      intro v2 ho hb
      replace Q : Hid (Below W.heap.size W v2) := ext_trans Q.out hb
      have RM : Hid (RdW v2 _ m m (List.replicate m 0)) := ho.rd
      clear ho hb
      go_wp2_with fail
      refine ⟨fun _ => Q.out, ?_⟩
      iterate 1 (refine tr_pure (v := ?_) rfl (by rfl) ?_ ?_; rotate_left; (focus (intro u hC;  go_simp; try with_reducible rfl)); try go_simp)
      refine tr_eff rfl ?_
      intro J hJ
      go_wp2_with fail
      refine (back_c _ 0 A1 m c1 0 (List.replicate m 0) (Lib.hid (R1.out.ext Q.out)) (by omega)).mono ?_
      rintro e v3 ⟨A2, c2, rfl, ho, hb⟩
      replace Q : Hid (Below W.heap.size W v3) := ext_trans Q.out hb
      have RB : Hid (RdW v3 A2 m c2 (List.replicate m 0)) := ho.rd
      replace RM := Lib.hid (RM.out.ext hb)
      clear ho hb
      go_wp2_with fail
      refine ⟨fun _ => Q.out, ?_⟩
      refine tr_eff rfl ?_
      intro J hJ
      go_wp2_with fail
      refine (rsame_c _ 0 A2 m c2 0 (List.replicate m 0) RB 0 _ m m 0 (List.replicate m 0) RM).mono ?_
      rw [sameM_self]
      rintro e v5 ⟨rfl, hb⟩
      replace Q : Hid (Below W.heap.size W v5) := ext_trans Q.out hb
      clear hb RB RM
      go_wp2_with fail
      refine ⟨fun _ => Q.out, ?_⟩
      iterate 2 (refine tr_pure (v := ?_) rfl (by rfl) ?_ ?_; rotate_left; (focus (intro u hC;  go_simp; try with_reducible rfl)); try go_simp)
      refine tr_eff rfl ?_
      intro J hJ
      go_wp2_with fail
      refine (told_c _ (Lib.hid (HF.out.ext Q.out))).mono ?_
      rintro e v6 ⟨rfl, hb⟩
      replace Q : Hid (Below W.heap.size W v6) := ext_trans Q.out hb
      clear hb
      go_wp2_with fail
      refine ⟨fun _ => Q.out, ?_⟩
      iterate 2 (refine tr_pure (v := ?_) rfl (by rfl) ?_ ?_; rotate_left; (focus (intro u hC;  go_simp; try with_reducible rfl)); try go_simp)
      refine tr_nil (hJ0 _ _ ?_)
      clear hJ0
      go_wp2_with fail
      go_ret
      exact ⟨rfl, ext_trans B.out Q.out⟩
#print axioms walkMachineNews
end Go.Proofs.YtbeileihbhooaaaDoor
