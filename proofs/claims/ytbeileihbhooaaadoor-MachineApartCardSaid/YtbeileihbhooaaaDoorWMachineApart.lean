/-
  MachineApart: the walk.
-/
import Derived.Test.YtbeileihbhooaaaDoorMTold
import Derived.Test.YtbeileihbhooaaaDoorMOpen
import Derived.Test.YtbeileihbhooaaaDoorSchedT
import Derived.Deep.DeepCutAuto
namespace Go.Proofs.YtbeileihbhooaaaDoor
open Go.RowKit

theorem OwnW.addr {w : World} {E : TypeId} {B : Nat} {A : Option Addr} {n c : Nat} {bs : List Int} (h : OwnW w E B A n c bs) {r : Addr} (hr : A = some r) : B ≤ r.block ∧ r.block < w.heap.size := h.row_ge r.block (by rw [hr]; rfl)
/-- the state behind a step, in a block of its own -/
def StepAt (l : List Ins) (s : MS) (n : Nat) (W : World) (x : Value) (wx : World) : Prop := ∃ (p : Nat) (A : Option Addr) (c : Nat) (t : MS), x = .pointer (some ⟨p, 0, none⟩) ∧ wx.heap[p]? = some (.cells #[.int .i64 t.pc, .slice A n c, .int .i64 t.halt] 30 (0, 0)) ∧ W.heap.size ≤ p ∧ OwnW wx 21 W.heap.size A n c t.mem ∧ (∀ r, A = some r → r.block ≠ p) ∧ t = stepV l s ∧ Below W.heap.size W wx

set_option maxRecDepth 100000 in
set_option maxHeartbeats 16000000 in
theorem walkMachineApart (w : World) (CA : Option Addr) (cn cd : Nat) (l : List Ins) (pc : Int) (A : Option Addr) (n c : Nat) (halt : Int) (m : List Int) (pc' : Int) (A' : Option Addr) (n' c' : Nat) (halt' : Int) (m' : List Int) (hl : RdS w CA cn cd l) (_hlo : ∀ x ∈ l, x.ok) (hs : RdW w A n c m) (hsi : ∀ x ∈ m, In32 x) (ho : RdW w A' n' c' m') (_hoi : ∀ x ∈ m', In32 x) (hf : Hid (Forms w)) : Calls Tryd.prog 8 #[.slice CA cn cd, stV pc A n c halt, stV pc' A' n' c' halt'] w (Holds w) := by
  have HCL := Lib.hid hl.len
  have hcle := hl.le
  have hcmx := hl.max
  have HNL := Lib.hid hs.len
  have hnle := hs.le
  have hnmx := hs.max
  have hnle' := ho.le
  have hnmx' := ho.max
  have RC := Lib.hid hl
  have RS := Lib.hid hs
  have RO := Lib.hid ho
  have HSI := Lib.hid hsi
  clear hl hs ho hsi _hlo _hoi
  go_enter Tryd.func8, Tryd.ntmps8
  go_upto_region 1 with fail
  obtain ⟨g4, hg4⟩ : ∃ g, g = w.heap.size := ⟨_, rfl⟩
  obtain ⟨W1, hW1⟩ : ∃ W1, W1 = World.alloc w (.cells #[.int .i64 pc, .slice A n c, .int .i64 halt] 25) := ⟨_, rfl⟩
  have C4 : Hid (W1.heap[g4]? = some (.cells #[.int .i64 pc, .slice A n c, .int .i64 halt] 25 (0, 0))) := by rw [hW1, hg4]; exact Go.heap_alloc_new w _
  have hs1 : W1.heap.size = g4 + 1 := by rw [hW1, hg4]; simp
  have B : Hid (Below w.heap.size w W1) := by rw [hW1]; exact ext_alloc w _
  obtain ⟨g5, hg5⟩ : ∃ g, g = g4 + 1 := ⟨_, rfl⟩
  rw [← hW1, ← hg4, ← hg5]
  rw [← hg5] at hs1
  clear hW1 hg4 hg5
  obtain ⟨U, hU⟩ : ∃ U, U = World.alloc W1 (.cells #[.int .i64 pc', .slice A' n' c', .int .i64 halt'] 25) := ⟨_, rfl⟩
  have C5 : Hid (U.heap[g5]? = some (.cells #[.int .i64 pc', .slice A' n' c', .int .i64 halt'] 25 (0, 0))) := by rw [hU, ← hs1]; exact Go.heap_alloc_new W1 _
  replace C4 : Hid (U.heap[g4]? = some (.cells #[.int .i64 pc, .slice A n c, .int .i64 halt] 25 (0, 0))) := by show _ = _; rw [hU]; exact keepG (ext_alloc W1 _) C4.out
  replace B : Hid (Below w.heap.size w U) := by rw [hU]; exact ext_trans B.out (ext_alloc W1 _)
  rw [← hU]
  clear hU hs1
  replace RC := Lib.hid (RC.out.ext B.out)
  replace RS := Lib.hid (RS.out.ext B.out)
  replace RO := Lib.hid (RO.out.ext B.out)
  have HF := Lib.hid (hf.out.ext B.out)
  clear hf
  by_cases hfew : cn ≤ 300 ∧ n ≤ 300
  case neg =>
    obtain ⟨q0, q1, q2⟩ := full3i C4.out
    go_wp2_with fail
    clear q0 q1 q2
    refine (few_f _ CA cn cd pc A n c halt hfew).mono ?_
    rintro e v ⟨rfl, hb⟩
    clear hfew
    go_wp2_with fail
    refine (told_c _ (Lib.hid (HF.out.ext hb))).mono ?_
    rintro e v2 ⟨rfl, hb2⟩
    go_wp2_with fail
    go_ret
    exact ⟨rfl, ext_trans (ext_trans B.out hb) hb2⟩
  obtain ⟨f1, f2⟩ := hfew
  have F1 := Lib.hid f1
  have F2 := Lib.hid f2
  obtain ⟨q0, q1, q2⟩ := full3i C4.out
  go_wp2_with fail
  clear q0 q1 q2
  refine (few_t _ CA cn cd pc A n c halt f1 f2).mono ?_
  rintro e v ⟨rfl, hb⟩
  clear f1 f2
  replace C4 := Lib.hid (keepG hb C4.out)
  replace C5 := Lib.hid (keepG hb C5.out)
  replace B := Lib.hid (ext_trans B.out hb)
  replace RC := Lib.hid (RC.out.ext hb)
  replace RS := Lib.hid (RS.out.ext hb)
  replace RO := Lib.hid (RO.out.ext hb)
  replace HF := Lib.hid (HF.out.ext hb)
  clear hb
  obtain ⟨p0, p1, p2⟩ := full3i C5.out
  by_cases hn' : 300 < n'
  · have hn'I : (300 : Int) < (n' : Int) := by omega
    go_wp2_with fail
    refine (told_c _ HF).mono ?_
    rintro e v2 ⟨rfl, hb2⟩
    go_wp2_with fail
    go_ret
    exact ⟨rfl, ext_trans B.out hb2⟩
  have hn'I : ¬ (300 : Int) < (n' : Int) := by omega
  have F3 := Lib.hid hn'
  obtain ⟨q0, q1, q2⟩ := full3i C4.out
  go_wp2_with fail
  clear q0 q1 q2 p0 p1 p2 hn' hn'I
  have f1 := F1.out
  have f2 := F2.out
  have f3 := F3.out
  refine (own_c _ pc A n c halt m RS (by omega)).mono ?_
  rintro e v2 ⟨AX, cx, rfl, hox, hb⟩
  have RX : Hid (RdW v2 AX n cx m) := hox.rd
  clear f1 f2 f3 hox
  replace C4 := Lib.hid (keepG hb C4.out)
  replace C5 := Lib.hid (keepG hb C5.out)
  replace B := Lib.hid (ext_trans B.out hb)
  replace RC := Lib.hid (RC.out.ext hb)
  replace RS := Lib.hid (RS.out.ext hb)
  replace RO := Lib.hid (RO.out.ext hb)
  replace HF := Lib.hid (HF.out.ext hb)
  clear hb
  go_upto_region 4 with fail
  obtain ⟨g7, hg7⟩ : ∃ g, g = v2.heap.size := ⟨_, rfl⟩
  obtain ⟨W, hW⟩ : ∃ V, V = World.alloc v2 (.cells #[.int .i64 pc, .slice AX n cx, .int .i64 halt] 30) := ⟨_, rfl⟩
  have C7 : Hid (W.heap[g7]? = some (.cells #[.int .i64 pc, .slice AX n cx, .int .i64 halt] 30 (0, 0))) := by rw [hW, hg7]; exact Go.heap_alloc_new v2 _
  have hb : Below v2.heap.size v2 W := by rw [hW]; exact ext_alloc v2 _
  rw [← hW, ← hg7]
  clear hW hg7
  replace C4 := Lib.hid (keepG hb C4.out)
  replace C5 := Lib.hid (keepG hb C5.out)
  replace B := Lib.hid (ext_trans B.out hb)
  replace RC := Lib.hid (RC.out.ext hb)
  replace RS := Lib.hid (RS.out.ext hb)
  replace RO := Lib.hid (RO.out.ext hb)
  replace RX := Lib.hid (RX.out.ext hb)
  replace HF := Lib.hid (HF.out.ext hb)
  clear hb
  go_cut [8] (fun x wx => StepAt l ⟨pc, m, halt⟩ n W x wx)
  case first =>
    have f1 := F1.out
    have f2 := F2.out
    refine wp_region_tr (fin := 99) (fun u => Below W.heap.size W u) (.pure 0 (.pure 2 (.two 1 (.two 3 (.eff 4 (.eff 5 .nil)) 4 (.eff 3 (.eff 5 .nil))) 4 (.eff 1 (.eff 3 (.eff 5 .nil)))))) (by kernel_rfl) (by kernel_rfl) (by kernel_rfl) (fun _ _ d _ _ h => by cases d <;> exact h) (ext_drew W) ?_
    intro J0 hJ0
    iterate 2 (refine tr_pure (v := ?_) rfl (by rfl) ?_ ?_; rotate_left; (focus (intro u hC; obtain ⟨x0, x1, x2⟩ := full3i (keepG hC C7.out); go_simp; try with_reducible rfl)); try go_simp)
    have Q : Hid (Below W.heap.size W W.drew) := ext_drew W
    generalize W.drew = v0 at Q ⊢
    refine tr_two rfl rfl ?_ ?_
    · intro J hJ
      go_wp2_with fail
      refine (ownCode_c _ CA cn cd l (Lib.hid (RC.out.ext Q.out)) (by omega)).mono ?_
      rintro e v1 ⟨A7, d7, rfl, hR, hb⟩
      rw [HCL.out] at hR ⊢
      have RC7 := Lib.hid hR
      clear hR
      replace Q : Hid (Below W.heap.size W v1) := ext_trans Q.out hb
      clear hb
      go_wp2_with fail
      refine ⟨fun _ => Q.out, ?_⟩
      refine tr_two rfl rfl ?_ ?_
      · intro J hJ
        go_wp2_with fail
        have Q0 := Q
        refine (stepS_c _ (Lib.hid (HF.out.ext Q.out)) A7 cn d7 l RC7 pc AX n cx halt m (Lib.hid (RX.out.ext Q.out)) HSI (by omega)).mono ?_
        rintro e v2 ⟨t8, A8, c8, rfl, ht8, hl8, ho, hb⟩
        replace RC7 := Lib.hid (RC7.out.ext hb)
        replace Q : Hid (Below W.heap.size W v2) := ext_trans Q.out hb
        have HO0 : OwnW v2 21 (v1).heap.size A8 n c8 t8.mem := ho
        have HO : Hid (OwnW v2 21 W.heap.size A8 n c8 t8.mem) := HO0.up Q0.out.size
        have HT8 := Lib.hid ht8
        have HL8 := Lib.hid hl8
        clear HO0 ho ht8 hl8
        clear hb
        go_wp2_with fail
        refine ⟨fun _ => Q.out, ?_⟩
        refine tr_eff rfl ?_
        intro J hJ
        go_wp2_with fail
        refine ⟨fun _ => ext_trans Q.out (ext_alloc _ _), ?_⟩
        obtain ⟨v3, hu⟩ : ∃ u, u = World.alloc v2 (.cells #[.int .i64 0, .slice none 0 0, .int .i64 0] 30) := ⟨_, rfl⟩
        rw [← hu]
        obtain ⟨p, hp⟩ : ∃ p, p = (v2).heap.size := ⟨_, rfl⟩
        have hpd : (v2).heap.size = p := hp.symm
        rw [hpd]
        have PA : Hid (v3.heap[p]? = some (.cells #[.int .i64 0, .slice none 0 0, .int .i64 0] 30 (0, 0))) := by rw [hu, hp]; exact Go.heap_alloc_new _ _
        have PZ : W.heap.size ≤ p := by rw [hp]; exact Q.out.size
        have hb : Below (v2).heap.size v2 v3 := by rw [hu]; exact ext_alloc _ _
        have PS : Hid ((v2).heap.size = p) := hpd
        have HNE : Hid (∀ r, A8 = some r → r.block ≠ p) := fun r hr => by have := (HO.out.addr hr).2; have := PS.out; omega
        replace RC7 := Lib.hid (RC7.out.ext hb)
        replace HO := Lib.hid (HO.out.ext hb)
        replace Q : Hid (Below W.heap.size W v3) := ext_trans Q.out hb
        clear hu hp hpd hb
        refine tr_eff rfl ?_
        intro J hJ
        obtain ⟨p0, p1, p2, f0, f1, f2⟩ := full3f PA.out
        go_wp2_with fail
        clear p0 p1 p2 f0 f1 f2
        refine ⟨fun _ => bel3M Q.out PZ _ _ _, ?_⟩
        refine tr_nil (hJ0 _ _ ?_)
        go_wp2_with fail
        go_meet
        have k1 := HO.out.far (grownSetM (b := p) (j := 0) (.int .i64 t8.pc)) (fun g e r' h => by injection e with e; subst e; exact HNE.out r' h)
        have k2 := k1.far (grownSetM (b := p) (j := 1) (.slice A8 n c8)) (fun g e r' h => by injection e with e; subst e; exact HNE.out r' h)
        have k3 := k2.far (grownSetM (b := p) (j := 2) (.int .i64 t8.halt)) (fun g e r' h => by injection e with e; subst e; exact HNE.out r' h)
        exact ⟨p, A8, c8, t8, rfl, set3M PA.out _ _ _, PZ, k3, HNE.out, HT8.out, bel3M Q.out PZ _ _ _⟩
      · intro J hJ
        go_wp2_with fail
        refine ⟨fun _ => ext_trans Q.out (ext_alloc _ _), ?_⟩
        obtain ⟨v4, hu⟩ : ∃ u, u = World.alloc v1 (.cells #[.int .i64 0, .slice none 0 0, .int .i64 0] 30) := ⟨_, rfl⟩
        rw [← hu]
        obtain ⟨p, hp⟩ : ∃ p, p = (v1).heap.size := ⟨_, rfl⟩
        have hpd : (v1).heap.size = p := hp.symm
        rw [hpd]
        have PA : Hid (v4.heap[p]? = some (.cells #[.int .i64 0, .slice none 0 0, .int .i64 0] 30 (0, 0))) := by rw [hu, hp]; exact Go.heap_alloc_new _ _
        have PZ : W.heap.size ≤ p := by rw [hp]; exact Q.out.size
        have hb : Below (v1).heap.size v1 v4 := by rw [hu]; exact ext_alloc _ _
        have PS : Hid ((v1).heap.size = p) := hpd
        replace RC7 := Lib.hid (RC7.out.ext hb)
        replace Q : Hid (Below W.heap.size W v4) := ext_trans Q.out hb
        clear hu hp hpd hb
        refine tr_eff rfl ?_
        intro J hJ
        go_wp2_with fail
        have PA0 := PA
        have Q0 := Q
        refine (stepS_c _ (Lib.hid (HF.out.ext Q.out)) A7 cn d7 l RC7 pc AX n cx halt m (Lib.hid (RX.out.ext Q.out)) HSI (by omega)).mono ?_
        rintro e v5 ⟨t8, A8, c8, rfl, ht8, hl8, ho, hb⟩
        replace RC7 := Lib.hid (RC7.out.ext hb)
        replace PA := Lib.hid (keepG hb PA.out)
        replace Q : Hid (Below W.heap.size W v5) := ext_trans Q.out hb
        have HO0 : OwnW v5 21 (v4).heap.size A8 n c8 t8.mem := ho
        have HNE : Hid (∀ r, A8 = some r → r.block ≠ p) := fun r hr => by have := (HO0.addr hr).1; have hpl := (Array.getElem?_eq_some_iff.1 PA0.out).1; omega
        have HO : Hid (OwnW v5 21 W.heap.size A8 n c8 t8.mem) := HO0.up Q0.out.size
        have HT8 := Lib.hid ht8
        have HL8 := Lib.hid hl8
        clear HO0 ho ht8 hl8
        clear hb
        go_wp2_with fail
        refine ⟨fun _ => Q.out, ?_⟩
        refine tr_eff rfl ?_
        intro J hJ
        obtain ⟨p0, p1, p2, f0, f1, f2⟩ := full3f PA.out
        go_wp2_with fail
        clear p0 p1 p2 f0 f1 f2
        refine ⟨fun _ => bel3M Q.out PZ _ _ _, ?_⟩
        refine tr_nil (hJ0 _ _ ?_)
        go_wp2_with fail
        go_meet
        have k1 := HO.out.far (grownSetM (b := p) (j := 0) (.int .i64 t8.pc)) (fun g e r' h => by injection e with e; subst e; exact HNE.out r' h)
        have k2 := k1.far (grownSetM (b := p) (j := 1) (.slice A8 n c8)) (fun g e r' h => by injection e with e; subst e; exact HNE.out r' h)
        have k3 := k2.far (grownSetM (b := p) (j := 2) (.int .i64 t8.halt)) (fun g e r' h => by injection e with e; subst e; exact HNE.out r' h)
        exact ⟨p, A8, c8, t8, rfl, set3M PA.out _ _ _, PZ, k3, HNE.out, HT8.out, bel3M Q.out PZ _ _ _⟩
    · intro J hJ
      go_wp2_with fail
      refine ⟨fun _ => ext_trans Q.out (ext_alloc _ _), ?_⟩
      obtain ⟨v6, hu⟩ : ∃ u, u = World.alloc v0 (.cells #[.int .i64 0, .slice none 0 0, .int .i64 0] 30) := ⟨_, rfl⟩
      rw [← hu]
      obtain ⟨p, hp⟩ : ∃ p, p = (v0).heap.size := ⟨_, rfl⟩
      have hpd : (v0).heap.size = p := hp.symm
      rw [hpd]
      have PA : Hid (v6.heap[p]? = some (.cells #[.int .i64 0, .slice none 0 0, .int .i64 0] 30 (0, 0))) := by rw [hu, hp]; exact Go.heap_alloc_new _ _
      have PZ : W.heap.size ≤ p := by rw [hp]; exact Q.out.size
      have hb : Below (v0).heap.size v0 v6 := by rw [hu]; exact ext_alloc _ _
      have PS : Hid ((v0).heap.size = p) := hpd
      replace Q : Hid (Below W.heap.size W v6) := ext_trans Q.out hb
      clear hu hp hpd hb
      refine tr_eff rfl ?_
      intro J hJ
      go_wp2_with fail
      refine (ownCode_c _ CA cn cd l (Lib.hid (RC.out.ext Q.out)) (by omega)).mono ?_
      rintro e v7 ⟨A7, d7, rfl, hR, hb⟩
      rw [HCL.out] at hR ⊢
      have RC7 := Lib.hid hR
      clear hR
      replace PA := Lib.hid (keepG hb PA.out)
      replace Q : Hid (Below W.heap.size W v7) := ext_trans Q.out hb
      clear hb
      go_wp2_with fail
      refine ⟨fun _ => Q.out, ?_⟩
      refine tr_eff rfl ?_
      intro J hJ
      go_wp2_with fail
      have PA0 := PA
      have Q0 := Q
      refine (stepS_c _ (Lib.hid (HF.out.ext Q.out)) A7 cn d7 l RC7 pc AX n cx halt m (Lib.hid (RX.out.ext Q.out)) HSI (by omega)).mono ?_
      rintro e v8 ⟨t8, A8, c8, rfl, ht8, hl8, ho, hb⟩
      replace PA := Lib.hid (keepG hb PA.out)
      replace RC7 := Lib.hid (RC7.out.ext hb)
      replace Q : Hid (Below W.heap.size W v8) := ext_trans Q.out hb
      have HO0 : OwnW v8 21 (v7).heap.size A8 n c8 t8.mem := ho
      have HNE : Hid (∀ r, A8 = some r → r.block ≠ p) := fun r hr => by have := (HO0.addr hr).1; have hpl := (Array.getElem?_eq_some_iff.1 PA0.out).1; omega
      have HO : Hid (OwnW v8 21 W.heap.size A8 n c8 t8.mem) := HO0.up Q0.out.size
      have HT8 := Lib.hid ht8
      have HL8 := Lib.hid hl8
      clear HO0 ho ht8 hl8
      clear hb
      go_wp2_with fail
      refine ⟨fun _ => Q.out, ?_⟩
      refine tr_eff rfl ?_
      intro J hJ
      obtain ⟨p0, p1, p2, f0, f1, f2⟩ := full3f PA.out
      go_wp2_with fail
      clear p0 p1 p2 f0 f1 f2
      refine ⟨fun _ => bel3M Q.out PZ _ _ _, ?_⟩
      refine tr_nil (hJ0 _ _ ?_)
      go_wp2_with fail
      go_meet
      have k1 := HO.out.far (grownSetM (b := p) (j := 0) (.int .i64 t8.pc)) (fun g e r' h => by injection e with e; subst e; exact HNE.out r' h)
      have k2 := k1.far (grownSetM (b := p) (j := 1) (.slice A8 n c8)) (fun g e r' h => by injection e with e; subst e; exact HNE.out r' h)
      have k3 := k2.far (grownSetM (b := p) (j := 2) (.int .i64 t8.halt)) (fun g e r' h => by injection e with e; subst e; exact HNE.out r' h)
      exact ⟨p, A8, c8, t8, rfl, set3M PA.out _ _ _, PZ, k3, HNE.out, HT8.out, bel3M Q.out PZ _ _ _⟩
  case rest =>
    obtain ⟨p, A8, c8, t8, rfl, hPA, PZ, hHO, hHNE, _, hb⟩ := hcut
    rename World => V
    have f1 := F1.out
    have f2 := F2.out
    have f3 := F3.out
    have PA := Lib.hid hPA
    have HO := Lib.hid hHO
    have HNE := Lib.hid hHNE
    have HR8 : Hid (∀ r, A8 = some r → W.heap.size ≤ r.block ∧ r.block < V.heap.size) := fun r hr => HO.out.addr hr
    have h8l := HO.out.rd.le
    have h8m := HO.out.max
    have Q : Hid (Below W.heap.size W V) := hb
    clear hPA hHO hHNE hb
    obtain ⟨q0, q1, q2⟩ := full3i (keepG Q.out C7.out)
    go_wp2_with fail
    clear q0 q1 q2
    refine (sclone_c _ pc AX n cx halt m (Lib.hid (RX.out.ext Q.out)) (by omega)).mono ?_
    rintro e v3 ⟨A9, c9, rfl, ho9, hb⟩
    have H9 : Hid (OwnW v3 21 V.heap.size A9 n c9 m) := ho9
    have h9l := H9.out.rd.le
    have h9m := H9.out.max
    have HVS : Hid (W.heap.size ≤ V.heap.size) := Q.out.size
    have hv3 : V.heap.size ≤ v3.heap.size := hb.size
    replace Q := Lib.hid (ext_trans Q.out hb)
    replace PA := Lib.hid (keepG hb PA.out)
    replace HO := Lib.hid (HO.out.ext hb)
    clear hb ho9
    go_upto_region 6 with fail
    obtain ⟨g9, hg9⟩ : ∃ g, g = v3.heap.size := ⟨_, rfl⟩
    obtain ⟨V3, hV3⟩ : ∃ V, V = World.alloc v3 (.cells #[.int .i64 pc, .slice A9 n c9, .int .i64 halt] 30) := ⟨_, rfl⟩
    have P9 : Hid (V3.heap[g9]? = some (.cells #[.int .i64 pc, .slice A9 n c9, .int .i64 halt] 30 (0, 0))) := by rw [hV3, hg9]; exact Go.heap_alloc_new v3 _
    have hb : Below v3.heap.size v3 V3 := by rw [hV3]; exact ext_alloc v3 _
    have HG9 : Hid (g9 = v3.heap.size) := hg9
    have HR9 : Hid (∀ r, A9 = some r → V.heap.size ≤ r.block ∧ r.block < g9) := fun r hr => by have := H9.out.addr hr; have := HG9.out; omega
    rw [← hV3, ← hg9]
    clear hV3 hg9
    have HVG : Hid (V.heap.size ≤ g9) := by show _ ≤ _; rw [HG9.out]; exact hv3
    replace Q := Lib.hid (ext_trans Q.out hb)
    replace PA := Lib.hid (keepG hb PA.out)
    replace HO := Lib.hid (HO.out.ext hb)
    replace H9 := Lib.hid (H9.out.ext hb)
    clear hb hv3
    go_wp2_with fail
    go_loopw [10] (fun iv wr => ∃ (k : Nat) (ys : List Int), k ≤ n ∧ iv = .int .i64 k ∧ Hid (OwnW wr 21 W.heap.size A8 n c8 ys) ∧ Hid (wr.heap[p]? = some (.cells #[.int .i64 t8.pc, .slice A8 n c8, .int .i64 t8.halt] 30 (0, 0))) ∧ Hid (wr.heap[g9]? = some (.cells #[.int .i64 pc, .slice A9 n c9, .int .i64 halt] 30 (0, 0))) ∧ Hid (OwnW wr 21 V.heap.size A9 n c9 m) ∧ Hid (Below W.heap.size W wr)) (fun iv _ => n - (intOf iv).toNat)
    case atStart => exact ⟨0, t8.mem, Nat.zero_le _, rfl, HO.out, PA.out, P9.out, H9.out, Q.out⟩
    case round =>
      clear HO PA P9 H9 Q
      obtain ⟨k, ys, hk, rfl, HO, PA, P9, H9, Q⟩ := hrel
      obtain ⟨q0, q1, q2⟩ := full3i PA.out
      by_cases hlt : k < n
      · obtain ⟨r, rfl, hr1, hr2⟩ := HO.out.some_ (by omega)
        have k1 := HO.out.get hlt
        have k2 : wr.frozen? ⟨r, k, none⟩ = false := World.ownsRow.frozenAt HO.out.row k
        have hltI : (k : Int) < (n : Int) := by omega
        have hkI : (0 : Int) ≤ (k : Int) := by omega
        have n1 : p ≠ r := fun e => HNE.out ⟨r, 0, none⟩ rfl e.symm
        have n2 := (HR8.out ⟨r, 0, none⟩ rfl).2
        have n3 : g9 ≠ r := by have := HVG.out; dsimp only at n2; omega
        go_wp2_with fail
        exact ⟨⟨k + 1, _, by omega, by go_num, (HO.out.set k 77).1, (awayM n1).trans PA.out, (awayM n3).trans P9.out, H9.out.kept (grownSetM _) (fun g e => by injection e with e; dsimp only at n2; omega), Q.out.setCell (p := ⟨r, k, none⟩) hr1 _⟩, by simp [intOf]; omega⟩
      · obtain rfl : k = n := by omega
        go_wp2_with fail
        clear q0 q1 q2
        go_loopw [11] (fun iv wr => ∃ (j : Nat) (zs : List Int), j ≤ k ∧ iv = .int .i64 j ∧ Hid (OwnW wr 21 V.heap.size A9 k c9 zs) ∧ Hid (wr.heap[g9]? = some (.cells #[.int .i64 pc, .slice A9 k c9, .int .i64 halt] 30 (0, 0))) ∧ Hid (Below W.heap.size W wr)) (fun iv _ => k - (intOf iv).toNat)
        case atStart => exact ⟨0, m, Nat.zero_le _, rfl, H9.out, P9.out, Q.out⟩
        case round =>
          clear HO PA P9 H9 Q
          obtain ⟨j, zs, hj, rfl, H9, P9, Q⟩ := hrel
          obtain ⟨q0, q1, q2⟩ := full3i P9.out
          by_cases hlt : j < k
          · obtain ⟨r, rfl, hr1, hr2⟩ := H9.out.some_ (by omega)
            have k1 := H9.out.get hlt
            have k2 : wr.frozen? ⟨r, j, none⟩ = false := World.ownsRow.frozenAt H9.out.row j
            have hltI : (j : Int) < (k : Int) := by omega
            have hkI : (0 : Int) ≤ (j : Int) := by omega
            have n2 := (HR9.out ⟨r, 0, none⟩ rfl).2
            have n3 : g9 ≠ r := by dsimp only at n2; omega
            go_wp2_with fail
            exact ⟨⟨j + 1, _, by omega, by go_num, (H9.out.set j 78).1, (awayM n3).trans P9.out, Q.out.setCell (p := ⟨r, j, none⟩) (Nat.le_trans HVS.out hr1) _⟩, by simp [intOf]; omega⟩
          · obtain rfl : j = k := by omega
            obtain ⟨D, hD⟩ : ∃ D, D = sameM ⟨pc, m, halt⟩ ⟨pc', m', halt'⟩ := ⟨_, rfl⟩
            have HD := Lib.hid hD
            obtain ⟨R, hR⟩ : ∃ R, R = rightM ⟨pc, m, halt⟩ := ⟨_, rfl⟩
            have HR := Lib.hid hR
            clear hD hR
            go_upto_region 14 with fail
            clear q0 q1 q2
            refine wp_region_schedC (fun u => Below W.heap.size W u) [(true, 0), (true, 2), (false, 1), (false, 3), (true, 4), (true, 5), (true, 6), (true, 9), (true, 10), (false, 7), (false, 8), (false, 11), (true, 12), (true, 13), (true, 14), (true, 15), (true, 16), (false, 17), (false, 18), (true, 19), (true, 20), (true, 21), (true, 23), (false, 22), (false, 24), (true, 25), (true, 26), (true, 27), (false, 28), (true, 29), (true, 30)] (by kernel_rfl) rfl (by kernel_rfl) (by kernel_rfl) (fun _ _ d _ _ h => by cases d <;> exact h) (ext_trans Q.out (ext_drew _)) ?_
            intro J0 hJ0
            replace Q : Hid (Below W.heap.size W wr.drew) := ext_trans Q.out (ext_drew _)
            iterate 2 (refine schedC_pure (v := ?_) rfl (by rfl) ?_ ?_; rotate_left; (focus (intro u hC; obtain ⟨x0, x1, x2⟩ := full3i (keepG hC C4.out); obtain ⟨y0, y1, y2⟩ := full3i (keepG hC C5.out); obtain ⟨z0, z1, z2⟩ := full3i (keepG hC C7.out); go_simp; try with_reducible rfl)); try go_simp)
            refine schedC_eff rfl ?_
            intro J hJ
            go_wp2_with fail
            refine (back_c _ pc AX j cx halt m (Lib.hid (RX.out.ext Q.out)) (by omega)).mono ?_
            rintro e u ⟨A1, c1, rfl, ho, hb⟩
            replace Q := Lib.hid (ext_trans Q.out hb)
            have RB : Hid (RdW u A1 j c1 m) := ho.rd
            clear ho
            clear hb
            go_wp2_with fail
            refine ⟨Q.out, ?_⟩
            refine schedC_eff rfl ?_
            intro J hJ
            go_wp2_with fail
            refine (rsame_c _ pc A1 j c1 halt m RB pc A j c halt m (Lib.hid (RS.out.ext Q.out))).mono ?_
            rw [sameM_self]
            rintro e u ⟨rfl, hb⟩
            replace Q := Lib.hid (ext_trans Q.out hb)
            clear RB
            clear hb
            go_wp2_with fail
            refine ⟨Q.out, ?_⟩
            iterate 5 (refine schedC_pure (v := ?_) rfl (by rfl) ?_ ?_; rotate_left; (focus (intro u hC; obtain ⟨x0, x1, x2⟩ := full3i (keepG hC C4.out); obtain ⟨y0, y1, y2⟩ := full3i (keepG hC C5.out); obtain ⟨z0, z1, z2⟩ := full3i (keepG hC C7.out); go_simp; try with_reducible rfl)); try go_simp)
            refine schedC_eff rfl ?_
            intro J hJ
            go_wp2_with fail
            refine (own_c _ pc' A' n' c' halt' m' (Lib.hid (RO.out.ext Q.out)) (by omega)).mono ?_
            rintro e u ⟨A1, c1, rfl, ho, hb⟩
            replace Q := Lib.hid (ext_trans Q.out hb)
            have RB : Hid (RdW u A1 n' c1 m') := ho.rd
            clear ho
            clear hb
            go_wp2_with fail
            refine ⟨Q.out, ?_⟩
            refine schedC_eff rfl ?_
            intro J hJ
            go_wp2_with fail
            refine (same_s _ pc AX j cx halt m (Lib.hid (RX.out.ext Q.out)) pc' A1 n' c1 halt' m' RB).mono ?_
            rw [← HD.out]
            rintro e u ⟨rfl, hb⟩
            replace Q := Lib.hid (ext_trans Q.out hb)
            clear RB
            clear hb
            go_wp2_with fail
            refine ⟨Q.out, ?_⟩
            refine schedC_eff rfl ?_
            intro J hJ
            go_wp2_with fail
            refine (rsame_c _ pc A j c halt m (Lib.hid (RS.out.ext Q.out)) pc' A' n' c' halt' m' (Lib.hid (RO.out.ext Q.out))).mono ?_
            rw [← HD.out]
            rintro e u ⟨rfl, hb⟩
            replace Q := Lib.hid (ext_trans Q.out hb)
            clear hb
            go_wp2_with fail
            refine ⟨Q.out, ?_⟩
            iterate 5 (refine schedC_pure (v := ?_) rfl (by rfl) ?_ ?_; rotate_left; (focus (intro u hC; obtain ⟨x0, x1, x2⟩ := full3i (keepG hC C4.out); obtain ⟨y0, y1, y2⟩ := full3i (keepG hC C5.out); obtain ⟨z0, z1, z2⟩ := full3i (keepG hC C7.out); go_simp; try with_reducible rfl)); try go_simp)
            refine schedC_eff rfl ?_
            intro J hJ
            go_wp2_with fail
            refine (sclone_c _ pc AX j cx halt m (Lib.hid (RX.out.ext Q.out)) (by omega)).mono ?_
            rintro e u ⟨A1, c1, rfl, ho, hb⟩
            replace Q := Lib.hid (ext_trans Q.out hb)
            have RB : Hid (RdW u A1 j c1 m) := ho.rd
            clear ho
            clear hb
            go_wp2_with fail
            refine ⟨Q.out, ?_⟩
            refine schedC_eff rfl ?_
            intro J hJ
            go_wp2_with fail
            refine (same_s _ pc AX j cx halt m (Lib.hid (RX.out.ext Q.out)) pc A1 j c1 halt m RB).mono ?_
            rw [sameM_self]
            rintro e u ⟨rfl, hb⟩
            replace Q := Lib.hid (ext_trans Q.out hb)
            clear RB
            clear hb
            go_wp2_with fail
            refine ⟨Q.out, ?_⟩
            iterate 4 (refine schedC_pure (v := ?_) rfl (by rfl) ?_ ?_; rotate_left; (focus (intro u hC; obtain ⟨x0, x1, x2⟩ := full3i (keepG hC C4.out); obtain ⟨y0, y1, y2⟩ := full3i (keepG hC C5.out); obtain ⟨z0, z1, z2⟩ := full3i (keepG hC C7.out); go_simp; try with_reducible rfl)); try go_simp)
            refine schedC_eff rfl ?_
            intro J hJ
            go_wp2_with fail
            refine (right_s _ pc AX j cx halt m HNL.out (RX.out.le)).mono ?_
            rw [← HR.out]
            rintro e u ⟨rfl, hb⟩
            replace Q := Lib.hid (ext_trans Q.out hb)
            clear hb
            go_wp2_with fail
            refine ⟨Q.out, ?_⟩
            refine schedC_eff rfl ?_
            intro J hJ
            go_wp2_with fail
            refine (rright_s _ pc A j c halt m HNL.out (RS.out.le)).mono ?_
            rw [← HR.out]
            rintro e u ⟨rfl, hb⟩
            replace Q := Lib.hid (ext_trans Q.out hb)
            clear hb
            go_wp2_with fail
            refine ⟨Q.out, ?_⟩
            iterate 3 (refine schedC_pure (v := ?_) rfl (by rfl) ?_ ?_; rotate_left; (focus (intro u hC; obtain ⟨x0, x1, x2⟩ := full3i (keepG hC C4.out); obtain ⟨y0, y1, y2⟩ := full3i (keepG hC C5.out); obtain ⟨z0, z1, z2⟩ := full3i (keepG hC C7.out); go_simp; try with_reducible rfl)); try go_simp)
            refine schedC_eff rfl ?_
            intro J hJ
            go_wp2_with fail
            refine (told_c _ (Lib.hid (HF.out.ext Q.out))).mono ?_
            rintro e u ⟨rfl, hb⟩
            replace Q := Lib.hid (ext_trans Q.out hb)
            clear hb
            go_wp2_with fail
            refine ⟨Q.out, ?_⟩
            iterate 2 (refine schedC_pure (v := ?_) rfl (by rfl) ?_ ?_; rotate_left; (focus (intro u hC; obtain ⟨x0, x1, x2⟩ := full3i (keepG hC C4.out); obtain ⟨y0, y1, y2⟩ := full3i (keepG hC C5.out); obtain ⟨z0, z1, z2⟩ := full3i (keepG hC C7.out); go_simp; try with_reducible rfl)); try go_simp)
            refine schedC_nil (hJ0 _ _ ?_)
            clear hJ0
            go_wp2_with fail
            go_ret
            exact ⟨rfl, ext_trans B.out Q.out⟩
#print axioms walkMachineApart
end Go.Proofs.YtbeileihbhooaaaDoor
