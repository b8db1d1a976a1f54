/-
  machine: one step, op by op: contracts.
-/
import Derived.Test.YtbeileihbhooaaaDoorMStep0
import Derived.Test.YtbeileihbhooaaaDoorMReach
import Derived.Test.YtbeileihbhooaaaDoorMOps
import Derived.Test.YtbeileihbhooaaaDoorMFacts
import Derived.Test.YtbeileihbhooaaaDoorSchedF
import Derived.StillTailTactics
namespace Go.Proofs.YtbeileihbhooaaaDoor
open Go.RowKit

set_option maxRecDepth 100000 in
set_option maxHeartbeats 4000000 in
theorem step_18a (w : World) (hf : Hid (Forms w)) (A : Option Addr) (n d : Nat) (l : List Ins) (h : Hid (RdS w A n d l)) (g r m cp : Nat) (s : MS) (HS : Hid (StM w g r m cp s)) (HI : Hid (∀ x ∈ s.mem, In32 x)) (hp : 0 ≤ s.pc) (hh : s.halt = 0) (mp : Nat) (HM : Hid (MapTo w mp 14)) (hN : namedV l s.pc m = true) (ho : (insAt l s.pc).o = 18) (hT : thereV (insAt l s.pc) s.mem = true) (hz0 : 0 ≤ getW s.mem (insAt l s.pc).b) (hz1 : getW s.mem (insAt l s.pc).b < (insAt l s.pc).c) : Calls Tryd.prog 32 #[.slice A n d, .pointer (some ⟨g, 0, none⟩), .map (some mp)] w (Steps w g r m cp ⟨pcV (insAt l s.pc) s.mem s.pc, memV (insAt l s.pc) s.mem, haltV (insAt l s.pc)⟩) := by
  obtain ⟨hl1, hl2, hr⟩ := named_pc hN
  have HNI : Hid (NamedI l s.pc m = insAt l s.pc) := by show _ = _; unfold NamedI; rw [if_pos hN]
  have HNV := Lib.hid hN
  obtain ⟨i, hi⟩ : ∃ i, i = insAt l s.pc := ⟨_, rfl⟩
  rw [← hi] at hr ho hT HNI hz0 hz1 ⊢
  obtain ⟨io, a, b, c⟩ := i
  dsimp only at hr ho hz0 hz1
  subst ho
  have hN2 : l.length = n := h.out.len
  rw [hN2] at hl1 hl2 hr
  clear hi hN hN2
  have hlt := HS.out.lt
  have hfacts := right_18 hr
  obtain ⟨na, rfl⟩ : ∃ k : Nat, a = (k : Int) := ⟨a.toNat, by omega⟩
  obtain ⟨nb, rfl⟩ : ∃ k : Nat, b = (k : Int) := ⟨b.toNat, by omega⟩
  have hwa : (na : Int) < (m : Int) := by omega
  have hva : na < m := by omega
  have hwb : (nb : Int) < (m : Int) := by omega
  have hvb : nb < m := by omega
  clear hfacts hr
  obtain ⟨P, hP⟩ : ∃ P, P = placeV ⟨18, na, nb, c⟩ s.mem := ⟨_, rfl⟩
  have HP := Lib.hid hP
  have hTP := of_decide_eq_true hT
  rw [← hP] at hTP
  have HTR : Hid (thereV ⟨18, na, nb, c⟩ s.mem = true) := hT
  obtain ⟨ht0, ht1⟩ := hTP
  rw [hlt.2.2.2.1] at ht1
  clear hT
  have HE : Hid ((⟨pcV ⟨18, na, nb, c⟩ s.mem s.pc, memV ⟨18, na, nb, c⟩ s.mem, haltV ⟨18, na, nb, c⟩⟩ : MS) = ⟨s.pc + 1, setW s.mem na (truthI true), 0⟩) := by
    show _ = _
    unfold pcV memV haltV; simp [hz0, hz1]
  rw [HE.out]
  clear HE hP
  obtain ⟨y, hy⟩ : ∃ y, y = getW s.mem nb := ⟨_, rfl⟩
  rw [← hy] at hz0 hz1
  have HY := Lib.hid hy
  clear hy
  have w9 : IntKind.i64.wrap y = y := IntWalk.i64_in _ (by have := getW_in HI.out nb; unfold In32 at this; rw [← HY.out] at this; omega)
  obtain ⟨hg1, hg2, hg3, hml, hm1, hm2⟩ := hlt
  obtain ⟨q0, q1, q2, _, _⟩ := HS.out.cells
  rw [hh] at q2
  have HL := Lib.hid hml
  have hrg : ¬ r = g := by omega
  have hgr : ¬ g = r := by omega
  clear hml
  go_enter Tryd.func32, Tryd.ntmps32
  go_wp2_with fail
  refine (named_c _ hf A n d l h s.pc hp _ m cp _).mono ?_
  rw [HNI.out, HNV.out]
  rintro e w1 ⟨rfl, hb⟩
  replace HS := Lib.hid (HS.out.ext hb)
  replace HM := Lib.hid (HM.out.keep (hb.block _ HM.out.lt))
  have KP : Hid (Kept w w1 g r) := Kept.of hb
  have HZ : w.heap.size ≤ w1.heap.size := hb.size
  clear hb q0 q1 q2 h hf HNI HNV
  obtain ⟨q0, q1, q2, f0, f2⟩ := HS.out.cells
  rw [hh] at q2
  go_upto_region 3 with fail
  obtain ⟨q, hq⟩ : ∃ q, q = w1.heap.size := ⟨_, rfl⟩
  obtain ⟨U, hU⟩ : ∃ U, U = World.alloc w1 (.cells #[.int .i64 18, .int .i64 na, .int .i64 nb, .int .i64 c] 57) := ⟨_, rfl⟩
  have C4 : Hid (U.heap[q]? = some (.cells #[.int .i64 18, .int .i64 na, .int .i64 nb, .int .i64 c] 57 (0, 0))) := by rw [hU, hq]; exact Go.heap_alloc_new w1 _
  have BU : Hid (Below w1.heap.size w1 U) := by rw [hU]; exact ext_alloc w1 _
  replace HS := Lib.hid (HS.out.ext BU.out)
  replace HM := Lib.hid (HM.out.keep (BU.out.block _ HM.out.lt))
  replace KP := Lib.hid (KP.out.trans (Kept.of BU.out))
  have HQ : Hid (w.heap.size ≤ q) := by show _ ≤ _; rw [hq]; exact HZ
  rw [← hU, ← hq]
  clear hU hq BU HZ q0 q1 q2 f0 f2
  refine wp_region_schedC (fun u => Below U.heap.size U u) [(true, 0), (true, 1), (true, 2), (true, 3), (true, 4), (false, 5), (true, 6), (true, 7), (true, 8), (true, 9), (true, 10)] (by kernel_rfl) rfl (by kernel_rfl) (by kernel_rfl) (fun _ _ d _ _ h => by cases d <;> exact h) (ext_drew U) ?_
  intro J0 hJ0
  iterate 5 (refine schedC_pure (v := ?_) rfl (by rfl) ?_ ?_; rotate_left; (focus (intro u hC; obtain ⟨x0, x1, x2, x3⟩ := full4i (keepG hC C4.out); obtain ⟨q0, q1, q2, f0, f2⟩ := (HS.out.ext hC).cells; go_simp; try with_reducible rfl)); try go_simp)
  refine schedC_eff rfl ?_
  intro J hJ
  go_wp2_with fail
  have HSD := Lib.hid (HS.out.ext (ext_drew U))
  refine (reached_no _ 18 _ _ _ _ m cp s.mem (Lib.hid HSD.out.row.rd) HI (by omega) (by omega)).mono ?_
  unfold Reaches
  rw [← HP.out, HTR.out]
  rintro e v ⟨rfl, hb⟩
  have Q := Lib.hid (ext_trans (ext_drew U) hb)
  clear hb HSD
  go_wp2_with fail
  refine ⟨Q.out, ?_⟩
  iterate 5 (refine schedC_pure (v := ?_) rfl (by rfl) ?_ ?_; rotate_left; (focus (intro u hC;  go_simp; try with_reducible rfl)); try go_simp)
  refine schedC_nil (hJ0 _ _ ?_)
  clear hJ0
  replace HS := Lib.hid (HS.out.ext Q.out)
  replace HM := Lib.hid (HM.out.keep (Q.out.block _ HM.out.lt))
  replace KP := Lib.hid (KP.out.trans (Kept.of Q.out))
  replace C4 := Lib.hid (keepG Q.out C4.out)
  clear Q
  obtain ⟨q0, q1, q2, f0, f2⟩ := HS.out.cells
  rw [hh] at q2
  obtain ⟨z0, z1, z2, z3⟩ := full4i C4.out
  have k1 := HS.out.word (j := na) (by omega)
  have k2 := HS.out.word (j := nb) (by omega)
  rw [← HY.out] at k2
  go_upto_region 28 with fail
  refine wp_region_still_tail 22 (by kernel_rfl) (by kernel_rfl) ?_
  simp only [List.take_succ_cons, List.take_zero, List.drop_succ_cons, List.drop_zero]
  repeat still_step
  still_call (stillC (truth_c _ true))
  repeat still_step
  try refine wpStill_nil ?_
  change wpList _ _ _ _ _ v.drew
  have Q : Hid (Below v.heap.size v v.drew) := ext_drew v
  replace HS := Lib.hid (HS.out.ext Q.out)
  replace HM := Lib.hid (HM.out.keep (Q.out.block _ HM.out.lt))
  replace KP := Lib.hid (KP.out.trans (Kept.of Q.out))
  generalize v.drew = V at HS HM KP ⊢
  have k3 := HS.out.word (j := na) (by omega)
  obtain ⟨q0, q1, q2, f0, f2⟩ := HS.out.cells
  have e9 := HS.out.free na
  have HS2 := Lib.hid (HS.out.setWord na (truthI true))
  obtain ⟨y0, y1, y2, g0, g2⟩ := HS2.out.cells
  go_wp2_with fail
  refine bodyPost_ret (v := .tuple #[]) (by simp [results, Tryd.results32]) rfl ⟨rfl, ?_, (KP.out.setR _).setG _⟩
  have h9 := HS2.out.setPc (s.pc + 1)
  rw [hh] at h9
  exact h9

set_option maxRecDepth 100000 in
set_option maxHeartbeats 4000000 in
theorem step_18b (w : World) (hf : Hid (Forms w)) (A : Option Addr) (n d : Nat) (l : List Ins) (h : Hid (RdS w A n d l)) (g r m cp : Nat) (s : MS) (HS : Hid (StM w g r m cp s)) (HI : Hid (∀ x ∈ s.mem, In32 x)) (hp : 0 ≤ s.pc) (hh : s.halt = 0) (mp : Nat) (HM : Hid (MapTo w mp 14)) (hN : namedV l s.pc m = true) (ho : (insAt l s.pc).o = 18) (hT : thereV (insAt l s.pc) s.mem = true) (hz0 : 0 ≤ getW s.mem (insAt l s.pc).b) (hz1 : ¬ getW s.mem (insAt l s.pc).b < (insAt l s.pc).c) : Calls Tryd.prog 32 #[.slice A n d, .pointer (some ⟨g, 0, none⟩), .map (some mp)] w (Steps w g r m cp ⟨pcV (insAt l s.pc) s.mem s.pc, memV (insAt l s.pc) s.mem, haltV (insAt l s.pc)⟩) := by
  obtain ⟨hl1, hl2, hr⟩ := named_pc hN
  have HNI : Hid (NamedI l s.pc m = insAt l s.pc) := by show _ = _; unfold NamedI; rw [if_pos hN]
  have HNV := Lib.hid hN
  obtain ⟨i, hi⟩ : ∃ i, i = insAt l s.pc := ⟨_, rfl⟩
  rw [← hi] at hr ho hT HNI hz0 hz1 ⊢
  obtain ⟨io, a, b, c⟩ := i
  dsimp only at hr ho hz0 hz1
  subst ho
  have hN2 : l.length = n := h.out.len
  rw [hN2] at hl1 hl2 hr
  clear hi hN hN2
  have hlt := HS.out.lt
  have hfacts := right_18 hr
  obtain ⟨na, rfl⟩ : ∃ k : Nat, a = (k : Int) := ⟨a.toNat, by omega⟩
  obtain ⟨nb, rfl⟩ : ∃ k : Nat, b = (k : Int) := ⟨b.toNat, by omega⟩
  have hwa : (na : Int) < (m : Int) := by omega
  have hva : na < m := by omega
  have hwb : (nb : Int) < (m : Int) := by omega
  have hvb : nb < m := by omega
  clear hfacts hr
  obtain ⟨P, hP⟩ : ∃ P, P = placeV ⟨18, na, nb, c⟩ s.mem := ⟨_, rfl⟩
  have HP := Lib.hid hP
  have hTP := of_decide_eq_true hT
  rw [← hP] at hTP
  have HTR : Hid (thereV ⟨18, na, nb, c⟩ s.mem = true) := hT
  obtain ⟨ht0, ht1⟩ := hTP
  rw [hlt.2.2.2.1] at ht1
  clear hT
  have HE : Hid ((⟨pcV ⟨18, na, nb, c⟩ s.mem s.pc, memV ⟨18, na, nb, c⟩ s.mem, haltV ⟨18, na, nb, c⟩⟩ : MS) = ⟨s.pc + 1, setW s.mem na (truthI false), 0⟩) := by
    show _ = _
    unfold pcV memV haltV; simp [hz0, hz1]
  rw [HE.out]
  clear HE hP
  obtain ⟨y, hy⟩ : ∃ y, y = getW s.mem nb := ⟨_, rfl⟩
  rw [← hy] at hz0 hz1
  have HY := Lib.hid hy
  clear hy
  have w9 : IntKind.i64.wrap y = y := IntWalk.i64_in _ (by have := getW_in HI.out nb; unfold In32 at this; rw [← HY.out] at this; omega)
  have hd1 : decide (y < c) = false := decide_eq_false hz1
  clear hz1
  obtain ⟨hg1, hg2, hg3, hml, hm1, hm2⟩ := hlt
  obtain ⟨q0, q1, q2, _, _⟩ := HS.out.cells
  rw [hh] at q2
  have HL := Lib.hid hml
  have hrg : ¬ r = g := by omega
  have hgr : ¬ g = r := by omega
  clear hml
  go_enter Tryd.func32, Tryd.ntmps32
  go_wp2_with fail
  refine (named_c _ hf A n d l h s.pc hp _ m cp _).mono ?_
  rw [HNI.out, HNV.out]
  rintro e w1 ⟨rfl, hb⟩
  replace HS := Lib.hid (HS.out.ext hb)
  replace HM := Lib.hid (HM.out.keep (hb.block _ HM.out.lt))
  have KP : Hid (Kept w w1 g r) := Kept.of hb
  have HZ : w.heap.size ≤ w1.heap.size := hb.size
  clear hb q0 q1 q2 h hf HNI HNV
  obtain ⟨q0, q1, q2, f0, f2⟩ := HS.out.cells
  rw [hh] at q2
  go_upto_region 3 with fail
  obtain ⟨q, hq⟩ : ∃ q, q = w1.heap.size := ⟨_, rfl⟩
  obtain ⟨U, hU⟩ : ∃ U, U = World.alloc w1 (.cells #[.int .i64 18, .int .i64 na, .int .i64 nb, .int .i64 c] 57) := ⟨_, rfl⟩
  have C4 : Hid (U.heap[q]? = some (.cells #[.int .i64 18, .int .i64 na, .int .i64 nb, .int .i64 c] 57 (0, 0))) := by rw [hU, hq]; exact Go.heap_alloc_new w1 _
  have BU : Hid (Below w1.heap.size w1 U) := by rw [hU]; exact ext_alloc w1 _
  replace HS := Lib.hid (HS.out.ext BU.out)
  replace HM := Lib.hid (HM.out.keep (BU.out.block _ HM.out.lt))
  replace KP := Lib.hid (KP.out.trans (Kept.of BU.out))
  have HQ : Hid (w.heap.size ≤ q) := by show _ ≤ _; rw [hq]; exact HZ
  rw [← hU, ← hq]
  clear hU hq BU HZ q0 q1 q2 f0 f2
  refine wp_region_schedC (fun u => Below U.heap.size U u) [(true, 0), (true, 1), (true, 2), (true, 3), (true, 4), (false, 5), (true, 6), (true, 7), (true, 8), (true, 9), (true, 10)] (by kernel_rfl) rfl (by kernel_rfl) (by kernel_rfl) (fun _ _ d _ _ h => by cases d <;> exact h) (ext_drew U) ?_
  intro J0 hJ0
  iterate 5 (refine schedC_pure (v := ?_) rfl (by rfl) ?_ ?_; rotate_left; (focus (intro u hC; obtain ⟨x0, x1, x2, x3⟩ := full4i (keepG hC C4.out); obtain ⟨q0, q1, q2, f0, f2⟩ := (HS.out.ext hC).cells; go_simp; try with_reducible rfl)); try go_simp)
  refine schedC_eff rfl ?_
  intro J hJ
  go_wp2_with fail
  have HSD := Lib.hid (HS.out.ext (ext_drew U))
  refine (reached_no _ 18 _ _ _ _ m cp s.mem (Lib.hid HSD.out.row.rd) HI (by omega) (by omega)).mono ?_
  unfold Reaches
  rw [← HP.out, HTR.out]
  rintro e v ⟨rfl, hb⟩
  have Q := Lib.hid (ext_trans (ext_drew U) hb)
  clear hb HSD
  go_wp2_with fail
  refine ⟨Q.out, ?_⟩
  iterate 5 (refine schedC_pure (v := ?_) rfl (by rfl) ?_ ?_; rotate_left; (focus (intro u hC;  go_simp; try with_reducible rfl)); try go_simp)
  refine schedC_nil (hJ0 _ _ ?_)
  clear hJ0
  replace HS := Lib.hid (HS.out.ext Q.out)
  replace HM := Lib.hid (HM.out.keep (Q.out.block _ HM.out.lt))
  replace KP := Lib.hid (KP.out.trans (Kept.of Q.out))
  replace C4 := Lib.hid (keepG Q.out C4.out)
  clear Q
  obtain ⟨q0, q1, q2, f0, f2⟩ := HS.out.cells
  rw [hh] at q2
  obtain ⟨z0, z1, z2, z3⟩ := full4i C4.out
  have k1 := HS.out.word (j := na) (by omega)
  have k2 := HS.out.word (j := nb) (by omega)
  rw [← HY.out] at k2
  go_upto_region 28 with fail
  refine wp_region_still_tail 22 (by kernel_rfl) (by kernel_rfl) ?_
  simp only [List.take_succ_cons, List.take_zero, List.drop_succ_cons, List.drop_zero]
  repeat still_step
  still_call (stillC (truth_c _ false))
  repeat still_step
  try refine wpStill_nil ?_
  change wpList _ _ _ _ _ v.drew
  have Q : Hid (Below v.heap.size v v.drew) := ext_drew v
  replace HS := Lib.hid (HS.out.ext Q.out)
  replace HM := Lib.hid (HM.out.keep (Q.out.block _ HM.out.lt))
  replace KP := Lib.hid (KP.out.trans (Kept.of Q.out))
  generalize v.drew = V at HS HM KP ⊢
  have k3 := HS.out.word (j := na) (by omega)
  obtain ⟨q0, q1, q2, f0, f2⟩ := HS.out.cells
  have e9 := HS.out.free na
  have HS2 := Lib.hid (HS.out.setWord na (truthI false))
  obtain ⟨y0, y1, y2, g0, g2⟩ := HS2.out.cells
  go_wp2_with fail
  refine bodyPost_ret (v := .tuple #[]) (by simp [results, Tryd.results32]) rfl ⟨rfl, ?_, (KP.out.setR _).setG _⟩
  have h9 := HS2.out.setPc (s.pc + 1)
  rw [hh] at h9
  exact h9
#print axioms step_18b
end Go.Proofs.YtbeileihbhooaaaDoor
