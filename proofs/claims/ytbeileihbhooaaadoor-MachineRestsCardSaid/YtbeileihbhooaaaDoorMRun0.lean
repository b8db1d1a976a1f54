/-
  machine: Clone, Same, New of states: contracts.
-/
import Derived.Test.YtbeileihbhooaaaDoorMBase
import Derived.Test.YtbeileihbhooaaaDoorMStep0
namespace Go.Proofs.YtbeileihbhooaaaDoor
open Go.RowKit

/-- a state of the call's own -/
def StateOwn (w : World) (s : MS) (A : Option Addr) (n c : Nat) (w' : World) : Prop := OwnW w' 21 w.heap.size A n c s.mem ∧ Below w.heap.size w w'
def StateGives (s : MS) (n : Nat) (w : World) (e : Ending) (w' : World) : Prop := ∃ A c, e = .returned (stV s.pc A n c s.halt) ∧ StateOwn w s A n c w'

set_option maxRecDepth 100000 in
set_option maxHeartbeats 1000000 in
theorem sclone_c (w : World) (pc : Int) (A : Option Addr) (n c : Nat) (halt : Int) (m : List Int) (h : Hid (RdW w A n c m)) (hn : n ≤ 1000000) : Calls Tryd.prog 24 #[stV pc A n c halt] w (StateGives ⟨pc, m, halt⟩ n w) := by
  go_enter Tryd.func24, Tryd.ntmps24
  go_upto_region 1 with fail
  obtain ⟨g1, hg1⟩ : ∃ g, g = w.heap.size := ⟨_, rfl⟩
  obtain ⟨W1, hW1⟩ : ∃ W1, W1 = World.alloc w (.cells #[.int .i64 pc, .slice A n c, .int .i64 halt] 30) := ⟨_, rfl⟩
  have C3 : Hid (W1.heap[g1]? = some (.cells #[.int .i64 pc, .slice A n c, .int .i64 halt] 30 (0, 0))) := by rw [hW1, hg1]; exact Go.heap_alloc_new w _
  have B : Hid (Below w.heap.size w W1) := by rw [hW1]; exact ext_alloc w _
  have hs1 : W1.heap.size = g1 + 1 := by rw [hW1, hg1]; simp
  obtain ⟨g2, hg2⟩ : ∃ g, g = g1 + 1 := ⟨_, rfl⟩
  rw [← hW1, ← hg1, ← hg2]
  have HG1 : Hid (w.heap.size = g1) := hg1.symm
  rw [← hg2] at hs1
  clear hW1 hg1
  obtain ⟨U, hU⟩ : ∃ U, U = World.alloc W1 (.cells #[.int .i64 0, .slice none 0 0, .int .i64 0] 30) := ⟨_, rfl⟩
  have C4 : Hid (U.heap[g2]? = some (.cells #[.int .i64 0, .slice none 0 0, .int .i64 0] 30 (0, 0))) := by rw [hU, ← hs1]; exact Go.heap_alloc_new W1 _
  have HU : Hid (U.heap.size = g2 + 1) := by show _ = _; rw [hU]; simp [hs1]
  replace C3 : Hid (U.heap[g1]? = some (.cells #[.int .i64 pc, .slice A n c, .int .i64 halt] 30 (0, 0))) := by show _ = _; rw [hU]; exact keepG (ext_alloc W1 _) C3.out
  replace B : Hid (Below w.heap.size w U) := by rw [hU]; exact ext_trans B.out (ext_alloc W1 _)
  rw [← hU]
  have HG2 := Lib.hid hg2
  clear hU hs1 hg2
  have RD := Lib.hid (h.out.ext B.out)
  clear h
  obtain ⟨q0, q1, q2, f0, f1, f2⟩ := full3f C3.out
  go_wp2_with fail
  clear q0 q1 q2 f0 f1 f2
  refine (cloneW_c _ A n c m RD hn).mono ?_
  rintro e v ⟨A2, c2, rfl, ho, hb⟩
  replace C3 := Lib.hid (keepG hb C3.out)
  replace C4 := Lib.hid (keepG hb C4.out)
  replace B := Lib.hid (ext_trans B.out hb)
  have HO := Lib.hid ho
  have HU2 : Hid (g2 < U.heap.size) := by show _ < _; rw [HU.out]; omega
  clear hb ho RD
  obtain ⟨q0, q1, q2, f0, f1, f2⟩ := full3f C3.out
  go_upto_region 2 with fail
  clear q0 q1 q2 f0 f1 f2
  have hg12 : g1 < g2 := by have := HG2.out; omega
  replace HO := Lib.hid (HO.out.kept (grownSetM (b := g1) (j := 1) (.slice A2 n c2)) (fun k e => by injection e with e; have := HU2.out; omega))
  replace C3 := Lib.hid (setM (j := 1) C3.out (.slice A2 n c2))
  replace C4 := Lib.hid ((awayM (g := g1) (j := 1) (v := .slice A2 n c2) (show g2 ≠ g1 by omega)).trans C4.out)
  replace B := Lib.hid (B.out.setCell (p := ⟨g1, 1, none⟩) (by have := HG1.out; show _ ≤ g1; omega) (.slice A2 n c2))
  generalize v.setCell ⟨g1, 1, none⟩ (.slice A2 n c2) = V at HO C3 C4 B ⊢
  obtain ⟨q0, q1, q2⟩ := full3i C3.out
  obtain ⟨p0, p1, p2, f0, f1, f2⟩ := full3f C4.out
  go_wp2_with fail
  have R := Lib.hid (set3M C4.out (.int .i64 pc) (.slice A2 n c2) (.int .i64 halt))
  obtain ⟨e0, e1, e2⟩ := full3i R.out
  refine bodyPost_ret (v := stV pc A2 n c2 halt) (by simp only [results, Tryd.results24]; simp [go_sem, e0, e1, e2]) rfl ⟨A2, c2, rfl, ?_, ?_⟩
  · have k1 := HO.out.kept (grownSetM (b := g2) (j := 0) (.int .i64 pc)) (fun k e => by injection e with e; have := HU2.out; omega)
    have k2 := k1.kept (grownSetM (b := g2) (j := 1) (.slice A2 n c2)) (fun k e => by injection e with e; have := HU2.out; omega)
    have k3 := k2.kept (grownSetM (b := g2) (j := 2) (.int .i64 halt)) (fun k e => by injection e with e; have := HU2.out; omega)
    exact k3.up (by rw [HU.out]; have := HG1.out; omega)
  · exact bel3M B.out (by have := HG1.out; omega) _ _ _

theorem same_f {p h p' h' : Int} {l r : List Int} (hne : ¬ (p = p' ∧ h = h')) : sameM ⟨p, l, h⟩ ⟨p', r, h'⟩ = false := decide_eq_false (fun e => hne ⟨e.1, e.2.1⟩)
theorem same_t {p h : Int} {l r : List Int} : sameM ⟨p, l, h⟩ ⟨p, r, h⟩ = decide (l = r) := by unfold sameM; simp
set_option maxRecDepth 100000 in
set_option maxHeartbeats 1000000 in
theorem same_s (w : World) (p : Int) (A : Option Addr) (n c : Nat) (h : Int) (l : List Int) (R : Hid (RdW w A n c l)) (p' : Int) (A' : Option Addr) (n' c' : Nat) (h' : Int) (r : List Int) (R' : Hid (RdW w A' n' c' r)) : Calls Tryd.prog 23 #[stV p A n c h, stV p' A' n' c' h'] w (Gives (.bool (sameM ⟨p, l, h⟩ ⟨p', r, h'⟩)) w) := by
  by_cases hp : p = p'
  · subst hp
    by_cases hh : h = h'
    · subst hh
      rw [same_t]
      obtain ⟨D, hD⟩ : ∃ D, D = decide (l = r) := ⟨_, rfl⟩
      rw [← hD]
      have HD := Lib.hid hD
      clear hD
      go_enter Tryd.func23, Tryd.ntmps23
      go_wp2_with fail
      refine (equalW_c _ A n c l (Lib.hid (R.out.ext (ext_trans (ext_alloc _ _) (ext_alloc _ _)))) A' n' c' r (Lib.hid (R'.out.ext (ext_trans (ext_alloc _ _) (ext_alloc _ _))))).mono ?_
      rw [← HD.out]
      rintro e v ⟨rfl, hb⟩
      go_wp2_with fail
      go_ret
      exact ⟨rfl, ext_trans (ext_trans (ext_alloc _ _) (ext_alloc _ _)) hb⟩
    · have HF : Hid (sameM ⟨p, l, h⟩ ⟨p, r, h'⟩ = false) := same_f (fun e => hh e.2)
      rw [HF.out]
      have e1 : (h == h') = false := by rw [beq_eq_false_iff_ne]; exact hh
      clear hh R R' HF
      go_enter Tryd.func23, Tryd.ntmps23
      go_wp2_with fail
      go_ret
      exact ⟨rfl, ext_trans (ext_alloc _ _) (ext_alloc _ _)⟩
  · have HF : Hid (sameM ⟨p, l, h⟩ ⟨p', r, h'⟩ = false) := same_f (fun e => hp e.1)
    rw [HF.out]
    have e1 : (p == p') = false := by rw [beq_eq_false_iff_ne]; exact hp
    clear hp R R' HF
    go_enter Tryd.func23, Tryd.ntmps23
    go_wp2_with fail
    go_ret
    exact ⟨rfl, ext_trans (ext_alloc _ _) (ext_alloc _ _)⟩

/-- New's answer: a state that is all 0 -/
def NewGives (n : Nat) (w : World) (e : Ending) (w' : World) : Prop := ∃ A c, e = .returned (.tuple #[stV 0 A n c 0, .int .i64 0]) ∧ StateOwn w ⟨0, List.replicate n 0, 0⟩ A n c w'
set_option maxRecDepth 100000 in
set_option maxHeartbeats 1000000 in
theorem new_no (w : World) (n : Int) (h : n < 1 ∨ 256 < n) : Calls Tryd.prog 26 #[.int .i64 n] w (Gives (.tuple #[stV 0 none 0 0 0, .int .i64 2]) w) := by
  by_cases h1 : n < 1
  · clear h
    go_enter Tryd.func26, Tryd.ntmps26
    go_wp2_with fail
    refine bodyPost_ret (v := .tuple #[stV 0 none 0 0 0, .int .i64 2]) (by simp [results, Tryd.results26, go_sem]) rfl ⟨rfl, ext_alloc w _⟩
  · have h2 : 256 < n := by omega
    clear h
    go_enter Tryd.func26, Tryd.ntmps26
    go_wp2_with fail
    refine bodyPost_ret (v := .tuple #[stV 0 none 0 0 0, .int .i64 2]) (by simp [results, Tryd.results26, go_sem]) rfl ⟨rfl, ext_alloc w _⟩
theorem rep32 (n : Nat) : List.replicate n (Value.int .i32 0) = I32W (List.replicate n 0) := by simp [I32W]
set_option maxRecDepth 100000 in
set_option maxHeartbeats 1000000 in
theorem new_c (w : World) (n : Nat) (h1 : 1 ≤ n) (h2 : n ≤ 256) : Calls Tryd.prog 26 #[.int .i64 n] w (NewGives n w) := by
  have d1 : ¬ (n : Int) < 1 := by omega
  have d2 : ¬ (256 : Int) < (n : Int) := by omega
  obtain ⟨i0, hi, hz0, hz1, hz2⟩ := info_parts infoW
  have HI := Lib.hid hi
  have HZ0 := Lib.hid hz0
  have HZ1 := Lib.hid hz1
  have HZ2 := Lib.hid hz2
  clear hi hz0 hz1 hz2
  go_enter Tryd.func26, Tryd.ntmps26
  obtain ⟨g1, hg1⟩ : ∃ g, g = w.heap.size := ⟨_, rfl⟩
  go_wp2_with (refine wpList_make_any (o := ⟨some 12, _, _, _, _, _⟩) _ rfl (.tmp 11) (.tmp 11) 23 rfl (w.heap.size + 1) 21 i0 (.int .i32 0) Tryd.underlying23 HI.out HZ0.out HZ1.out rfl 4 HZ2.out .i64 .i64 n n n n (by rfl) (by rfl) rfl rfl (Nat.le_refl _) (by omega) (by omega) (by simp) ?_; intro w1 hrow hgr; have C : Hid (w1.heap[w.heap.size]? = _) := (hgr.block w.heap.size (by simp) (by simp)).trans (heap_alloc_newestG (w := w) rfl); have HR := Lib.hid hrow; have B : Hid (Below w.heap.size w w1) := below_grown (ext_alloc w _) (by simp) hgr (fun k hk => by cases hk); clear hrow hgr; obtain ⟨q0, q1, q2, f0, f1, f2⟩ := full3f C.out; go_simp)
  clear q0 q1 q2 f0 f1 f2 hg1
  have R := Lib.hid (set3M C.out (.int .i64 0) (.slice (some ⟨w.heap.size + 1, 0, none⟩) n n) (.int .i64 0))
  obtain ⟨e0, e1, e2⟩ := full3i R.out
  refine bodyPost_ret (v := .tuple #[stV 0 (some ⟨w.heap.size + 1, 0, none⟩) n n 0, .int .i64 0]) (by simp only [results, Tryd.results26]; simp [go_sem, e0, e1, e2]) rfl ⟨_, _, rfl, ?_, ?_⟩
  · have k0 : OwnW w1 21 (w.heap.size + 1) (some ⟨w.heap.size + 1, 0, none⟩) n n (List.replicate n 0) := ⟨by simp, by omega, by rw [← rep32]; simpa using HR.out⟩
    have k1 := k0.kept (grownSetM (b := w.heap.size) (j := 0) (.int .i64 0)) (fun k e => by injection e with e; omega)
    have k2 := k1.kept (grownSetM (b := w.heap.size) (j := 1) (.slice (some ⟨w.heap.size + 1, 0, none⟩) n n)) (fun k e => by injection e with e; omega)
    have k3 := k2.kept (grownSetM (b := w.heap.size) (j := 2) (.int .i64 0)) (fun k e => by injection e with e; omega)
    exact k3.up (by omega)
  · exact bel3M B.out (Nat.le_refl _) _ _ _
#print axioms new_c
#print axioms same_s
end Go.Proofs.YtbeileihbhooaaaDoor
