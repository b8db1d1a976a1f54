/-
  machine: the chapter's examples: contract.
-/
import Derived.Test.YtbeileihbhooaaaDoorMLaw0
namespace Go.Proofs.YtbeileihbhooaaaDoor
open Go.RowKit

theorem RdS.lit {w : World} {E : TypeId} {n : Nat} {xs : List Ins} {vs : Array Value} (hn : xs.length = n) (hv : vs.toList = II xs) (hs : n ≤ 9223372036854775807) : RdS (w.alloc (.cells vs E)) (some ⟨w.heap.size, 0, Option.none⟩) n n xs :=
  ⟨hn, Nat.le_refl _, hs, fun _ => ⟨w.heap.size, 0, rfl, by simp, fun j hj i hi => by
    rw [cell_of_row _ w.heap.size (0 + j * 4 + i) vs E (0, 0) (Go.heap_alloc_new w _), ← Array.getElem?_toList, hv, Nat.zero_add]
    exact II_at xs j i (by omega) hi⟩, fun h => by cases h⟩
def toldC : List Ins := [⟨1, 0, 7, 0⟩, ⟨6, 1, 0, 2⟩, ⟨0, 0, 0, 0⟩]
theorem told_run {t : MS} {k : Nat} {over : Bool} (h : RunI toldC ⟨0, [0, 0, 0], 0⟩ 9 t k over) : t = ⟨2, [7, 0, 0], 1⟩ ∧ k = 3 ∧ over = true := by
  unfold RunI at h
  rw [if_pos (by decide)] at h
  obtain ⟨hs, rfl, rfl⟩ := h
  have e1 : iterV toldC 1 ⟨0, [0, 0, 0], 0⟩ = ⟨1, [7, 0, 0], 0⟩ := by rfl
  have e2 : iterV toldC 2 ⟨0, [0, 0, 0], 0⟩ = ⟨2, [7, 0, 0], 0⟩ := by rfl
  have e3 : iterV toldC 3 ⟨0, [0, 0, 0], 0⟩ = ⟨2, [7, 0, 0], 1⟩ := by rfl
  have hk : k = 3 := hs.one ⟨.inl (by decide), fun i hi => by
    rcases (by omega : i = 0 ∨ i = 1 ∨ i = 2) with rfl | rfl | rfl
    · rfl
    · rw [e1]
    · rw [e2], .inr (by rw [e3]; decide)⟩
  subst hk
  rw [e3]
  exact ⟨rfl, rfl, rfl⟩
def toldM : List Int := (List.replicate 256 0).set 1 9
theorem told_step : (stepV [⟨15, 0, 250, 1⟩] ⟨0, toldM, 0⟩).halt = 2 := by kernel_rfl
theorem told_in : ∀ x ∈ toldM, In32 x := by
  intro x hx
  unfold toldM at hx
  rcases List.mem_or_eq_of_mem_set hx with h | h
  · rw [List.eq_of_mem_replicate h]; exact ⟨by decide, by decide⟩
  · rw [h]; exact ⟨by decide, by decide⟩
theorem zeros_in (n : Nat) : ∀ x ∈ List.replicate n (0 : Int), In32 x := fun x hx => by rw [List.eq_of_mem_replicate hx]; exact ⟨by decide, by decide⟩

theorem run_halt (p h : Int) (A : Option Addr) (n c : Nat) (u : World) : (Instr.field 30 (stV p A n c h) 2).run Tryd.prog u = .ok (.int .i64 h) u := by
  have hp : (part 3 #[.int .i64 p, .slice A n c, .int .i64 h] 2).run Tryd.prog u = .ok (.int .i64 h) u := run_part_plain u (by kernel_rfl) rfl
  simp [Instr.field, run_underlying Tryd.underlying30, asAgg, hp, Result.andThen]
set_option maxRecDepth 100000 in
set_option maxHeartbeats 4000000 in
theorem told_c (w : World) (hf : Hid (Forms w)) : Calls Tryd.prog 11 #[] w (Gives (.bool true) w) := by
  go_enter Tryd.func11, Tryd.ntmps11
  go_upto_region 2 with fail
  obtain ⟨U, hU⟩ : ∃ U, U = World.alloc w (.cells #[.int .i64 1, .int .i64 0, .int .i64 7, .int .i64 0, .int .i64 6, .int .i64 1, .int .i64 0, .int .i64 2, .int .i64 0, .int .i64 0, .int .i64 0, .int .i64 0] 57) := ⟨_, rfl⟩
  obtain ⟨b1, hb1⟩ : ∃ b, b = w.heap.size := ⟨_, rfl⟩
  have RC : Hid (RdS U (some ⟨b1, 0, none⟩) 3 3 toldC) := by rw [hU, hb1]; exact RdS.lit rfl rfl (by decide)
  have B : Hid (Below w.heap.size w U) := by rw [hU]; exact ext_alloc w _
  rw [← hU, ← hb1]
  clear hU hb1
  go_wp2_with fail
  refine (new_c _ 3 (by decide) (by decide)).mono ?_
  rintro e v ⟨A1, c1, rfl, ho, hb⟩
  have R1 : Hid (RdW v A1 3 c1 [0, 0, 0]) := ho.rd
  replace RC := Lib.hid (RC.out.ext hb)
  replace B := Lib.hid (ext_trans B.out hb)
  clear ho hb
  go_upto_region 3 with fail
  obtain ⟨g, hg⟩ : ∃ g, g = v.heap.size := ⟨_, rfl⟩
  obtain ⟨V, hV⟩ : ∃ V, V = World.alloc v (.cells #[.int .i64 0, .slice A1 3 c1, .int .i64 0] 30) := ⟨_, rfl⟩
  have C2 : Hid (V.heap[g]? = some (.cells #[.int .i64 0, .slice A1 3 c1, .int .i64 0] 30 (0, 0))) := by rw [hV, hg]; exact Go.heap_alloc_new v _
  have BV : Hid (Below v.heap.size v V) := by rw [hV]; exact ext_alloc v _
  replace RC := Lib.hid (RC.out.ext BV.out)
  replace R1 := Lib.hid (R1.out.ext BV.out)
  replace B := Lib.hid (ext_trans B.out BV.out)
  rw [← hV, ← hg]
  clear hV hg BV
  obtain ⟨q0, q1, q2⟩ := full3i C2.out
  go_wp2_with fail
  clear q0 q1 q2 C2
  refine (run_c _ (Lib.hid (hf.out.ext B.out)) (some ⟨b1, 0, none⟩) 3 3 toldC RC 0 A1 3 c1 0 [0, 0, 0] R1 (zeros_in 3) (by decide) 9 (by decide) (by decide)).mono ?_
  rintro e v2 ⟨t, k, over, A2, c2, rfl, hrun, _, ho, hb⟩
  obtain ⟨rfl, rfl, rfl⟩ := told_run (by simpa using hrun)
  clear hrun
  have R2 : Hid (RdW v2 A2 3 c2 [7, 0, 0]) := ho.rd
  replace B := Lib.hid (ext_trans B.out hb)
  clear ho hb R1 RC
  go_upto_region 4 with fail
  obtain ⟨g3, hg3⟩ : ∃ g, g = v2.heap.size := ⟨_, rfl⟩
  obtain ⟨V2, hV2⟩ : ∃ V, V = World.alloc v2 (.cells #[.int .i64 2, .slice A2 3 c2, .int .i64 1] 30) := ⟨_, rfl⟩
  have C2 : Hid (V2.heap[g3]? = some (.cells #[.int .i64 2, .slice A2 3 c2, .int .i64 1] 30 (0, 0))) := by rw [hV2, hg3]; exact Go.heap_alloc_new v2 _
  have BV : Hid (Below v2.heap.size v2 V2) := by rw [hV2]; exact ext_alloc v2 _
  replace R2 := Lib.hid (R2.out.ext BV.out)
  replace B := Lib.hid (ext_trans B.out BV.out)
  rw [← hV2, ← hg3]
  clear hV2 hg3 BV
  obtain ⟨q0, q1, q2⟩ := full3i C2.out
  go_wp2_with fail
  clear q0 q1 q2 C2
  have R3 : Hid (RdW (World.alloc V2 (.cells #[.int .i32 7, .int .i32 0, .int .i32 0] 21)) (some ⟨V2.heap.size, 0, none⟩) 3 3 [7, 0, 0]) := RdW.lit rfl rfl (by decide)
  refine (same_s _ 2 A2 3 c2 1 [7, 0, 0] (Lib.hid (R2.out.ext (ext_alloc V2 _))) 2 _ 3 3 1 [7, 0, 0] R3).mono ?_
  rw [sameM_self]
  rintro e v3 ⟨rfl, hb⟩
  replace B := Lib.hid (ext_trans (ext_trans B.out (ext_alloc V2 _)) hb)
  clear hb R2 R3
  go_wp2_with fail
  have hv3 : w.heap.size ≤ v3.heap.size := B.out.size
  refine (new_c _ 256 (by decide) (by decide)).mono ?_
  rintro e v4 ⟨A1, c1, rfl, ho, hb⟩
  replace B := Lib.hid (ext_trans B.out hb)
  have R1 : Hid (OwnW v4 21 v3.heap.size A1 256 c1 (List.replicate 256 0)) := ho
  clear ho hb
  obtain ⟨r, rfl, hr1, hr2⟩ := R1.out.some_ (by decide)
  have hwr : w.heap.size ≤ r := by omega
  clear hr1 hv3
  go_upto_region 7 with fail
  obtain ⟨g7, hg7⟩ : ∃ g, g = v4.heap.size := ⟨_, rfl⟩
  obtain ⟨V4, hV4⟩ : ∃ V, V = World.alloc v4 (.cells #[.int .i64 0, .slice (some ⟨r, 0, none⟩) 256 c1, .int .i64 0] 30) := ⟨_, rfl⟩
  have C7 : Hid (V4.heap[g7]? = some (.cells #[.int .i64 0, .slice (some ⟨r, 0, none⟩) 256 c1, .int .i64 0] 30 (0, 0))) := by rw [hV4, hg7]; exact Go.heap_alloc_new v4 _
  have BV : Hid (Below v4.heap.size v4 V4) := by rw [hV4]; exact ext_alloc v4 _
  replace R1 := Lib.hid (R1.out.ext BV.out)
  replace B := Lib.hid (ext_trans B.out BV.out)
  have hg7r : g7 ≠ r := by omega
  rw [← hV4, ← hg7]
  clear hV4 hg7 BV hr2
  have hle := R1.out.rd.le
  have hmx := R1.out.max
  obtain ⟨q0, q1, q2⟩ := full3i C7.out
  have k1 := R1.out.get (j := 1) (by decide)
  have k2 : V4.frozen? ⟨r, 1, none⟩ = false := World.ownsRow.frozenAt R1.out.row 1
  go_upto_region 10 with fail
  clear q0 q1 q2 k1 k2
  have R5 := Lib.hid (R1.out.set 1 9).1
  replace B := Lib.hid (B.out.setCell (p := ⟨r, 1, none⟩) hwr (.int .i32 9))
  replace C7 := Lib.hid ((awayM (g := r) (j := 1) (v := .int .i32 9) hg7r).trans C7.out)
  generalize V4.setCell ⟨r, 1, none⟩ (.int .i32 9) = V5 at R5 B C7 ⊢
  have RM : Hid (RdW V5 (some ⟨r, 0, none⟩) 256 c1 toldM) := R5.out.rd
  clear R5 R1
  obtain ⟨q0, q1, q2⟩ := full3i C7.out
  have hz7 : g7 < V5.heap.size := (Array.getElem?_eq_some_iff.1 C7.out).1
  have RS : Hid (RdS (World.alloc V5 (.cells #[.int .i64 15, .int .i64 0, .int .i64 250, .int .i64 1] 57)) (some ⟨V5.heap.size, 0, none⟩) 1 1 [⟨15, 0, 250, 1⟩]) := RdS.lit rfl rfl (by decide)
  go_wp2_with fail
  clear q0 q1 q2
  refine (stepS_c _ (Lib.hid (hf.out.ext (ext_trans B.out (ext_alloc V5 _)))) _ 1 1 [⟨15, 0, 250, 1⟩] RS 0 _ 256 c1 0 toldM (Lib.hid (RM.out.ext (ext_alloc V5 _))) told_in (by decide)).mono ?_
  rintro e v6 ⟨t, A6, c6, rfl, ht, _, _, hb⟩
  have hh : t.halt = 2 := by rw [ht]; exact told_step
  obtain ⟨tp, tm, th⟩ := t
  dsimp only at hh
  subst hh
  replace B := Lib.hid (ext_trans (ext_trans B.out (ext_alloc V5 _)) hb)
  clear ht hb
  have hfd := run_halt tp 2 A6 256 c6 v6
  go_wp2_with fail
  go_ret
  exact ⟨rfl, B.out⟩
#print axioms told_c
end Go.Proofs.YtbeileihbhooaaaDoor
