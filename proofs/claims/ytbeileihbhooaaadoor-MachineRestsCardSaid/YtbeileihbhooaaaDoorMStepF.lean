/-
  machine: one step, op by op: contracts.
-/
import Derived.Test.YtbeileihbhooaaaDoorMStep0
import Derived.Test.YtbeileihbhooaaaDoorMReach
import Derived.Test.YtbeileihbhooaaaDoorMOps
import Derived.Test.YtbeileihbhooaaaDoorMFacts
import Derived.Test.YtbeileihbhooaaaDoorSchedF
import Derived.StillTailTactics
namespace Go.Proofs.YtbeileihbhooaaaDoor
open Go.RowKit

set_option maxRecDepth 100000 in
set_option maxHeartbeats 4000000 in
theorem step_no (w : World) (hf : Hid (Forms w)) (A : Option Addr) (n d : Nat) (l : List Ins) (h : Hid (RdS w A n d l)) (g r m cp : Nat) (s : MS) (HS : Hid (StM w g r m cp s)) (_HI : Hid (∀ x ∈ s.mem, In32 x)) (hp : 0 ≤ s.pc) (hh : s.halt = 0) (mp : Nat) (HM : Hid (MapTo w mp 14)) (hN : namedV l s.pc m = false) : Calls Tryd.prog 32 #[.slice A n d, .pointer (some ⟨g, 0, none⟩), .map (some mp)] w (Steps w g r m cp ⟨s.pc, s.mem, 2⟩) := by
  have HNI : Hid (NamedI l s.pc m = noIns) := by show _ = _; unfold NamedI; rw [if_neg (by rw [hN]; decide)]
  have HNV := Lib.hid hN
  have hlt := HS.out.lt
  clear hN
  obtain ⟨hg1, hg2, hg3, hml, hm1, hm2⟩ := hlt
  obtain ⟨q0, q1, q2, _, _⟩ := HS.out.cells
  rw [hh] at q2
  have HL := Lib.hid hml
  have hrg : ¬ r = g := by omega
  have hgr : ¬ g = r := by omega
  clear hml
  go_enter Tryd.func32, Tryd.ntmps32
  go_wp2_with fail
  refine (named_c _ hf A n d l h s.pc hp _ m cp _).mono ?_
  rw [HNI.out, HNV.out]
  rintro e w1 ⟨rfl, hb⟩
  replace HS := Lib.hid (HS.out.ext hb)
  replace HM := Lib.hid (HM.out.keep (hb.block _ HM.out.lt))
  have KP : Hid (Kept w w1 g r) := Kept.of hb
  have HZ : w.heap.size ≤ w1.heap.size := hb.size
  clear hb q0 q1 q2 h hf HNI HNV
  obtain ⟨q0, q1, q2, f0, f2⟩ := HS.out.cells
  rw [hh] at q2
  obtain ⟨_, _, _, h5, h6⟩ := (HS.out.ext (ext_alloc w1 (.cells #[.int .i64 noIns.o, .int .i64 noIns.a, .int .i64 noIns.b, .int .i64 noIns.c] 57))).cells
  go_wp2_with fail
  refine bodyPost_ret (v := .tuple #[]) (by simp [results, Tryd.results32]) rfl ⟨rfl, ?_, ?_⟩
  · exact (HS.out.ext (ext_alloc w1 _)).setHalt 2
  · exact (KP.out.trans (Kept.of (ext_alloc w1 _))).setG _

set_option maxRecDepth 100000 in
set_option maxHeartbeats 4000000 in
theorem gone_15 (w : World) (hf : Hid (Forms w)) (A : Option Addr) (n d : Nat) (l : List Ins) (h : Hid (RdS w A n d l)) (g r m cp : Nat) (s : MS) (HS : Hid (StM w g r m cp s)) (HI : Hid (∀ x ∈ s.mem, In32 x)) (hp : 0 ≤ s.pc) (hh : s.halt = 0) (mp : Nat) (HM : Hid (MapTo w mp 14)) (hN : namedV l s.pc m = true) (ho : (insAt l s.pc).o = 15) (hT : thereV (insAt l s.pc) s.mem = false) (hm256 : m ≤ 256) : Calls Tryd.prog 32 #[.slice A n d, .pointer (some ⟨g, 0, none⟩), .map (some mp)] w (Steps w g r m cp ⟨s.pc, s.mem, 2⟩) := by
  obtain ⟨hl1, hl2, hr⟩ := named_pc hN
  have HNI : Hid (NamedI l s.pc m = insAt l s.pc) := by show _ = _; unfold NamedI; rw [if_pos hN]
  have HNV := Lib.hid hN
  obtain ⟨i, hi⟩ : ∃ i, i = insAt l s.pc := ⟨_, rfl⟩
  rw [← hi] at hr ho hT HNI
  obtain ⟨io, a, b, c⟩ := i
  dsimp only at hr ho
  subst ho
  have hN2 : l.length = n := h.out.len
  rw [hN2] at hl1 hl2 hr
  clear hi hN hN2
  have hlt := HS.out.lt
  have hfacts := right_15 hr
  obtain ⟨na, rfl⟩ : ∃ k : Nat, a = (k : Int) := ⟨a.toNat, by omega⟩
  obtain ⟨nb, rfl⟩ : ∃ k : Nat, b = (k : Int) := ⟨b.toNat, by omega⟩
  obtain ⟨nc, rfl⟩ : ∃ k : Nat, c = (k : Int) := ⟨c.toNat, by omega⟩
  have hwa : (na : Int) < (m : Int) := by omega
  have hva : na < m := by omega
  have hwb : (nb : Int) < (m : Int) := by omega
  have hvb : nb < m := by omega
  have hwc : (nc : Int) < (m : Int) := by omega
  have hvc : nc < m := by omega
  clear hfacts hr
  obtain ⟨P, hP⟩ : ∃ P, P = placeV ⟨15, na, nb, nc⟩ s.mem := ⟨_, rfl⟩
  have HP := Lib.hid hP
  have HTR : Hid (thereV ⟨15, na, nb, nc⟩ s.mem = false) := hT
  clear hT hP
  obtain ⟨hg1, hg2, hg3, hml, hm1, hm2⟩ := hlt
  obtain ⟨q0, q1, q2, _, _⟩ := HS.out.cells
  rw [hh] at q2
  have HL := Lib.hid hml
  have hrg : ¬ r = g := by omega
  have hgr : ¬ g = r := by omega
  clear hml
  go_enter Tryd.func32, Tryd.ntmps32
  go_wp2_with fail
  refine (named_c _ hf A n d l h s.pc hp _ m cp _).mono ?_
  rw [HNI.out, HNV.out]
  rintro e w1 ⟨rfl, hb⟩
  replace HS := Lib.hid (HS.out.ext hb)
  replace HM := Lib.hid (HM.out.keep (hb.block _ HM.out.lt))
  have KP : Hid (Kept w w1 g r) := Kept.of hb
  have HZ : w.heap.size ≤ w1.heap.size := hb.size
  clear hb q0 q1 q2 h hf HNI HNV
  obtain ⟨q0, q1, q2, f0, f2⟩ := HS.out.cells
  rw [hh] at q2
  go_upto_region 3 with fail
  obtain ⟨q, hq⟩ : ∃ q, q = w1.heap.size := ⟨_, rfl⟩
  obtain ⟨U, hU⟩ : ∃ U, U = World.alloc w1 (.cells #[.int .i64 15, .int .i64 na, .int .i64 nb, .int .i64 nc] 57) := ⟨_, rfl⟩
  have C4 : Hid (U.heap[q]? = some (.cells #[.int .i64 15, .int .i64 na, .int .i64 nb, .int .i64 nc] 57 (0, 0))) := by rw [hU, hq]; exact Go.heap_alloc_new w1 _
  have BU : Hid (Below w1.heap.size w1 U) := by rw [hU]; exact ext_alloc w1 _
  replace HS := Lib.hid (HS.out.ext BU.out)
  replace HM := Lib.hid (HM.out.keep (BU.out.block _ HM.out.lt))
  replace KP := Lib.hid (KP.out.trans (Kept.of BU.out))
  have HQ : Hid (w.heap.size ≤ q) := by show _ ≤ _; rw [hq]; exact HZ
  rw [← hU, ← hq]
  clear hU hq BU HZ q0 q1 q2 f0 f2
  refine wp_region_schedC (fun u => Below U.heap.size U u) [(true, 0), (true, 1), (true, 2), (true, 3), (true, 4), (false, 5), (true, 6), (true, 7), (true, 8), (true, 9), (true, 10)] (by kernel_rfl) rfl (by kernel_rfl) (by kernel_rfl) (fun _ _ d _ _ h => by cases d <;> exact h) (ext_drew U) ?_
  intro J0 hJ0
  iterate 5 (refine schedC_pure (v := ?_) rfl (by rfl) ?_ ?_; rotate_left; (focus (intro u hC; obtain ⟨x0, x1, x2, x3⟩ := full4i (keepG hC C4.out); obtain ⟨q0, q1, q2, f0, f2⟩ := (HS.out.ext hC).cells; go_simp; try with_reducible rfl)); try go_simp)
  refine schedC_eff rfl ?_
  intro J hJ
  go_wp2_with fail
  have HSD := Lib.hid (HS.out.ext (ext_drew U))
  refine (reached_load _ 15 na nb nc _ m cp s.mem (Lib.hid HSD.out.row.rd) HI rfl nc hvc rfl (by omega) (by omega)).mono ?_
  unfold Reaches
  rw [← HP.out, HTR.out]
  rintro e v ⟨rfl, hb⟩
  have Q := Lib.hid (ext_trans (ext_drew U) hb)
  clear hb HSD
  go_wp2_with fail
  refine ⟨Q.out, ?_⟩
  iterate 5 (refine schedC_pure (v := ?_) rfl (by rfl) ?_ ?_; rotate_left; (focus (intro u hC;  go_simp; try with_reducible rfl)); try go_simp)
  refine schedC_nil (hJ0 _ _ ?_)
  clear hJ0
  replace HS := Lib.hid (HS.out.ext Q.out)
  replace HM := Lib.hid (HM.out.keep (Q.out.block _ HM.out.lt))
  replace KP := Lib.hid (KP.out.trans (Kept.of Q.out))
  replace C4 := Lib.hid (keepG Q.out C4.out)
  clear Q
  obtain ⟨q0, q1, q2, f0, f2⟩ := HS.out.cells
  rw [hh] at q2
  obtain ⟨z0, z1, z2, z3⟩ := full4i C4.out
  obtain ⟨_, _, _, f5, f6⟩ := HS.out.cells
  go_wp2_with fail
  refine bodyPost_ret (v := .tuple #[]) (by simp [results, Tryd.results32]) rfl ⟨rfl, ?_, KP.out.setG _⟩
  exact HS.out.setHalt 2

set_option maxRecDepth 100000 in
set_option maxHeartbeats 4000000 in
theorem gone_16 (w : World) (hf : Hid (Forms w)) (A : Option Addr) (n d : Nat) (l : List Ins) (h : Hid (RdS w A n d l)) (g r m cp : Nat) (s : MS) (HS : Hid (StM w g r m cp s)) (HI : Hid (∀ x ∈ s.mem, In32 x)) (hp : 0 ≤ s.pc) (hh : s.halt = 0) (mp : Nat) (HM : Hid (MapTo w mp 14)) (hN : namedV l s.pc m = true) (ho : (insAt l s.pc).o = 16) (hT : thereV (insAt l s.pc) s.mem = false) (hm256 : m ≤ 256) : Calls Tryd.prog 32 #[.slice A n d, .pointer (some ⟨g, 0, none⟩), .map (some mp)] w (Steps w g r m cp ⟨s.pc, s.mem, 2⟩) := by
  obtain ⟨hl1, hl2, hr⟩ := named_pc hN
  have HNI : Hid (NamedI l s.pc m = insAt l s.pc) := by show _ = _; unfold NamedI; rw [if_pos hN]
  have HNV := Lib.hid hN
  obtain ⟨i, hi⟩ : ∃ i, i = insAt l s.pc := ⟨_, rfl⟩
  rw [← hi] at hr ho hT HNI
  obtain ⟨io, a, b, c⟩ := i
  dsimp only at hr ho
  subst ho
  have hN2 : l.length = n := h.out.len
  rw [hN2] at hl1 hl2 hr
  clear hi hN hN2
  have hlt := HS.out.lt
  have hfacts := right_16 hr
  obtain ⟨na, rfl⟩ : ∃ k : Nat, a = (k : Int) := ⟨a.toNat, by omega⟩
  obtain ⟨nb, rfl⟩ : ∃ k : Nat, b = (k : Int) := ⟨b.toNat, by omega⟩
  obtain ⟨nc, rfl⟩ : ∃ k : Nat, c = (k : Int) := ⟨c.toNat, by omega⟩
  have hwa : (na : Int) < (m : Int) := by omega
  have hva : na < m := by omega
  have hwb : (nb : Int) < (m : Int) := by omega
  have hvb : nb < m := by omega
  have hwc : (nc : Int) < (m : Int) := by omega
  have hvc : nc < m := by omega
  clear hfacts hr
  obtain ⟨P, hP⟩ : ∃ P, P = placeV ⟨16, na, nb, nc⟩ s.mem := ⟨_, rfl⟩
  have HP := Lib.hid hP
  have HTR : Hid (thereV ⟨16, na, nb, nc⟩ s.mem = false) := hT
  clear hT hP
  obtain ⟨hg1, hg2, hg3, hml, hm1, hm2⟩ := hlt
  obtain ⟨q0, q1, q2, _, _⟩ := HS.out.cells
  rw [hh] at q2
  have HL := Lib.hid hml
  have hrg : ¬ r = g := by omega
  have hgr : ¬ g = r := by omega
  clear hml
  go_enter Tryd.func32, Tryd.ntmps32
  go_wp2_with fail
  refine (named_c _ hf A n d l h s.pc hp _ m cp _).mono ?_
  rw [HNI.out, HNV.out]
  rintro e w1 ⟨rfl, hb⟩
  replace HS := Lib.hid (HS.out.ext hb)
  replace HM := Lib.hid (HM.out.keep (hb.block _ HM.out.lt))
  have KP : Hid (Kept w w1 g r) := Kept.of hb
  have HZ : w.heap.size ≤ w1.heap.size := hb.size
  clear hb q0 q1 q2 h hf HNI HNV
  obtain ⟨q0, q1, q2, f0, f2⟩ := HS.out.cells
  rw [hh] at q2
  go_upto_region 3 with fail
  obtain ⟨q, hq⟩ : ∃ q, q = w1.heap.size := ⟨_, rfl⟩
  obtain ⟨U, hU⟩ : ∃ U, U = World.alloc w1 (.cells #[.int .i64 16, .int .i64 na, .int .i64 nb, .int .i64 nc] 57) := ⟨_, rfl⟩
  have C4 : Hid (U.heap[q]? = some (.cells #[.int .i64 16, .int .i64 na, .int .i64 nb, .int .i64 nc] 57 (0, 0))) := by rw [hU, hq]; exact Go.heap_alloc_new w1 _
  have BU : Hid (Below w1.heap.size w1 U) := by rw [hU]; exact ext_alloc w1 _
  replace HS := Lib.hid (HS.out.ext BU.out)
  replace HM := Lib.hid (HM.out.keep (BU.out.block _ HM.out.lt))
  replace KP := Lib.hid (KP.out.trans (Kept.of BU.out))
  have HQ : Hid (w.heap.size ≤ q) := by show _ ≤ _; rw [hq]; exact HZ
  rw [← hU, ← hq]
  clear hU hq BU HZ q0 q1 q2 f0 f2
  refine wp_region_schedC (fun u => Below U.heap.size U u) [(true, 0), (true, 1), (true, 2), (true, 3), (true, 4), (false, 5), (true, 6), (true, 7), (true, 8), (true, 9), (true, 10)] (by kernel_rfl) rfl (by kernel_rfl) (by kernel_rfl) (fun _ _ d _ _ h => by cases d <;> exact h) (ext_drew U) ?_
  intro J0 hJ0
  iterate 5 (refine schedC_pure (v := ?_) rfl (by rfl) ?_ ?_; rotate_left; (focus (intro u hC; obtain ⟨x0, x1, x2, x3⟩ := full4i (keepG hC C4.out); obtain ⟨q0, q1, q2, f0, f2⟩ := (HS.out.ext hC).cells; go_simp; try with_reducible rfl)); try go_simp)
  refine schedC_eff rfl ?_
  intro J hJ
  go_wp2_with fail
  have HSD := Lib.hid (HS.out.ext (ext_drew U))
  refine (reached_store _ 16 na nb nc _ m cp s.mem (Lib.hid HSD.out.row.rd) HI rfl nb hvb rfl (by omega) (by omega)).mono ?_
  unfold Reaches
  rw [← HP.out, HTR.out]
  rintro e v ⟨rfl, hb⟩
  have Q := Lib.hid (ext_trans (ext_drew U) hb)
  clear hb HSD
  go_wp2_with fail
  refine ⟨Q.out, ?_⟩
  iterate 5 (refine schedC_pure (v := ?_) rfl (by rfl) ?_ ?_; rotate_left; (focus (intro u hC;  go_simp; try with_reducible rfl)); try go_simp)
  refine schedC_nil (hJ0 _ _ ?_)
  clear hJ0
  replace HS := Lib.hid (HS.out.ext Q.out)
  replace HM := Lib.hid (HM.out.keep (Q.out.block _ HM.out.lt))
  replace KP := Lib.hid (KP.out.trans (Kept.of Q.out))
  replace C4 := Lib.hid (keepG Q.out C4.out)
  clear Q
  obtain ⟨q0, q1, q2, f0, f2⟩ := HS.out.cells
  rw [hh] at q2
  obtain ⟨z0, z1, z2, z3⟩ := full4i C4.out
  obtain ⟨_, _, _, f5, f6⟩ := HS.out.cells
  go_wp2_with fail
  refine bodyPost_ret (v := .tuple #[]) (by simp [results, Tryd.results32]) rfl ⟨rfl, ?_, KP.out.setG _⟩
  exact HS.out.setHalt 2
#print axioms gone_16
end Go.Proofs.YtbeileihbhooaaaDoor
