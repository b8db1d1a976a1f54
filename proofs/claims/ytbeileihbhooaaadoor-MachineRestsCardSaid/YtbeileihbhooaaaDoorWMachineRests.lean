/-
  MachineRests: runs in parts. Plain; and the walk.
-/
import Derived.Test.YtbeileihbhooaaaDoorMTold
import Derived.Test.YtbeileihbhooaaaDoorMOpen
import Derived.Test.YtbeileihbhooaaaDoorSchedT
import Derived.Deep.DeepCutAuto
namespace Go.Proofs.YtbeileihbhooaaaDoor
open Go.ChangeShapes Go.WideShapes Go.ChangeAt Go.RowKit Go.Deep Go.Joins

theorem OwnW.addr {w : World} {E : TypeId} {B : Nat} {A : Option Addr} {n c : Nat} {bs : List Int} (h : OwnW w E B A n c bs) {r : Addr} (hr : A = some r) : B ≤ r.block ∧ r.block < w.heap.size := h.row_ge r.block (by rw [hr]; rfl)
theorem Stop.nat {c : List Ins} {s : MS} {a : Int} {k : Nat} (h : Stop c s a k) (ha : 0 ≤ a) : (k : Int) ≤ a := by
  rcases h.le with h1 | h1
  · exact h1
  · omega
theorem rests_join {l : List Ins} {s t1 t2 t3 : MS} {a b : Int} {k1 k2 k3 : Nat} {o1 o2 o3 : Bool} (ha : 0 ≤ a) (hb : 0 ≤ b) (hr : rightM s = true) (h1 : RunI l s a t1 k1 o1) (h2 : RunI l t1 b t2 k2 o2) (h3 : RunI l s (a + b) t3 k3 o3) : t2 = t3 ∧ k1 + k2 = k3 ∧ o2 = o3 := by
  unfold RunI at h1 h2 h3
  rw [if_pos hr] at h1 h3
  obtain ⟨s1, e1, _⟩ := h1
  obtain ⟨s3, e3, q3⟩ := h3
  have hr1 : rightM t1 = true := by rw [e1]; exact iterV_right hr k1
  rw [if_pos hr1] at h2
  obtain ⟨s2, e2, q2⟩ := h2
  have n1 := s1.nat ha
  have n2 := s2.nat hb
  have e12 : ∀ j, iterV l (k1 + j) s = iterV l j t1 := fun j => by rw [iterV_add, e1]
  have st : Stop l s (a + b) (k1 + k2) := ⟨.inl (by omega), fun i hi => by
    by_cases h : i < k1
    · exact s1.all i h
    · obtain ⟨j, rfl⟩ : ∃ j, i = k1 + j := ⟨i - k1, by omega⟩
      rw [e12]
      exact s2.all j (by omega), by
    rcases s2.stop with h | h
    · rcases s1.stop with h' | h'
      · exact .inl (by omega)
      · refine .inr ?_
        rw [e12, iterV_off (by rw [e1]; exact h')]
        rw [e1]; exact h'
    · exact .inr (by rw [e12]; exact h)⟩
  have hk := st.one s3
  have ht : t2 = t3 := by rw [e2, e3, ← hk, e12]
  exact ⟨ht, hk, by rw [q2, q3, ht]⟩
theorem rests_over {l : List Ins} {s t u : MS} {a : Int} {k j : Nat} {o : Bool} (hr : rightM s = true) (h : RunI l s a t k true) (h2 : RunI l t 50 u j o) : u = t ∧ j = 0 ∧ o = true ∧ stepV l t = t := by
  unfold RunI at h h2
  rw [if_pos hr] at h
  obtain ⟨_, e, q⟩ := h
  have hz : t.halt ≠ 0 := by
    have := q.symm
    rwa [bne_iff_ne] at this
  rw [if_pos (by rw [e]; exact iterV_right hr k)] at h2
  obtain ⟨s2, e2, q2⟩ := h2
  have hj : j = 0 := by
    by_cases h0 : j = 0
    · exact h0
    · exact absurd (s2.all 0 (by omega)) hz
  subst hj
  have hu : u = t := e2
  exact ⟨hu, rfl, by rw [q2, hu, ← q], stepV_off hz⟩
theorem rests_on {l : List Ins} {s t : MS} {a : Int} {k : Nat} (ha : 0 ≤ a) (hr : rightM s = true) (h : RunI l s a t k false) : (k : Int) = a := by
  unfold RunI at h
  rw [if_pos hr] at h
  obtain ⟨s1, e, q⟩ := h
  have n1 := s1.nat ha
  have hz : t.halt = 0 := by
    have := q.symm
    rwa [bne_eq_false_iff_eq] at this
  rcases s1.stop with h | h
  · omega
  · exact absurd (by rw [← e]; exact hz) h
theorem RunI.in_ {l : List Ins} {s t : MS} {a : Int} {k : Nat} {o : Bool} (h : RunI l s a t k o) (hi : ∀ x ∈ s.mem, In32 x) : ∀ x ∈ t.mem, In32 x := by
  unfold RunI at h
  split at h
  · rw [h.2.1]; exact iterV_in hi k
  · rw [h.1]; exact hi
/-- what a run comes to, in a block and two slots -/
def RunAt (l : List Ins) (s : MS) (n : Nat) (most : Int) (W : World) (x y z : Value) (wx : World) : Prop := ∃ (p : Nat) (A : Option Addr) (c : Nat) (t : MS) (k : Nat) (o : Bool), x = .pointer (some ⟨p, 0, none⟩) ∧ y = .int .i64 k ∧ z = .bool o ∧ wx.heap[p]? = some (.cells #[.int .i64 t.pc, .slice A n c, .int .i64 t.halt] 30 (0, 0)) ∧ RdW wx A n c t.mem ∧ RunI l s most t k o ∧ Below W.heap.size W wx
theorem full2m {w : World} {b : Nat} {T : TypeId} {x0 x1 : Value} (h : w.heap[b]? = some (.cells #[x0, x1] T (0, 0))) : w.cell? ⟨b, 0, none⟩ = some x0 ∧ w.cell? ⟨b, 1, none⟩ = some x1 :=
  ⟨by rw [cell_of_row w _ 0 _ _ _ h]; rfl, by rw [cell_of_row w _ 1 _ _ _ h]; rfl⟩
set_option maxRecDepth 100000 in
theorem open_u8x2 {H : Type} {enc : TypeId × Value → H} {t e : TypeId} (ht : Tryd.prog.underlying t = some (.array 2 e)) (he : Tryd.prog.underlying e = some (.int .u8)) (hce : Tryd.prog.cellsOf e = 1) (hct : Tryd.prog.cellsOf t = 2) {W : World} {base : Nat} {v : Value} {d : DataW H} {p : List MemPlace}
    (hv : Value.okWide Tryd.prog W .any base t v) (h : DataW.Trod enc Tryd.prog W 0 (fun _ => true) true t v d p) : ∃ a b : Int, v = .agg #[.int .u8 a, .int .u8 b] ∧ (0 ≤ a ∧ a < 256) ∧ (0 ≤ b ∧ b < 256) := by
  simp only [Value.okWide, ht] at hv
  obtain ⟨cs, rfl, h2, _⟩ := hv
  obtain ⟨fuel, hf⟩ := h
  obtain ⟨xs, m, _, _, hl, hx, hi⟩ := DataW.trod_array ht hf
  obtain ⟨l⟩ := cs
  rw [hct] at h2
  have hl2 : l.length = 2 := by simpa using h2
  have key : ∀ i, i < 2 → ∃ b : Int, l[i]? = some (.int .u8 b) ∧ 0 ≤ b ∧ b < 256 := fun i hi2 => by
    have h1 := hi i hi2
    rw [hce] at h1
    have hsome : xs[i]? = some (xs[i]'(by omega)) := List.getElem?_eq_getElem (by omega)
    rw [hsome] at h1
    obtain ⟨b, hb, _, hw⟩ := DataW.trod_int he h1
    simp [Lit.wf, IntKind.min, IntKind.max, IntKind.signed, IntKind.bits] at hw
    refine ⟨b, ?_, by omega⟩
    have e1 : ((Value.agg { toList := l }).cells.toList.drop (i * 1)).take 1 = [l[i]'(by omega)] := by
      rw [Nat.mul_one]
      show (l.drop i).take 1 = _
      rw [List.drop_eq_getElem_cons (by omega)]
      rfl
    rw [e1] at hb
    injection hb with hb
    rw [List.getElem?_eq_getElem (by omega), hb]
  match l, hl2, key with
  | [c0, c1], _, key =>
    obtain ⟨b0, g0, l0⟩ := key 0 (by omega)
    obtain ⟨b1, g1, l1⟩ := key 1 (by omega)
    simp at g0 g1
    subst g0 g1
    exact ⟨b0, b1, rfl, l0, l1⟩
set_option maxRecDepth 100000 in
theorem open_parts {H : Type} {enc : TypeId × Value → H} {W : World} {base : Nat} {v : Value} {d : DataW H} {p : List MemPlace}
    (hv : Value.okWide Tryd.prog W .any base 46 v) (h : DataW.Trod enc Tryd.prog W 0 (fun _ => true) true 46 v d p) : ∃ a b : Nat, v = .agg #[.int .u8 a, .int .u8 b] ∧ a < 256 ∧ b < 256 := by
  obtain ⟨a, b, rfl, h1, h2⟩ := open_u8x2 Tryd.underlying46 Tryd.underlying5 (by kernel_rfl) (by kernel_rfl) hv h
  exact ⟨a.toNat, b.toNat, by congr 1; congr 1; rw [Int.toNat_of_nonneg h1.1, Int.toNat_of_nonneg h2.1], by omega, by omega⟩
theorem RunI.few {l : List Ins} {s t : MS} {a : Int} {k : Nat} {o : Bool} (h : RunI l s a t k o) (ha : 0 ≤ a) : (k : Int) ≤ a := by
  unfold RunI at h
  split at h
  · exact h.1.nat ha
  · rw [h.2.1]; exact ha

set_option maxRecDepth 100000 in
set_option maxHeartbeats 16000000 in
theorem walkMachineRests (w : World) (CA : Option Addr) (cn cd : Nat) (l : List Ins) (pc : Int) (A : Option Addr) (n c : Nat) (halt : Int) (m : List Int) (pa pb : Nat) (hl : RdS w CA cn cd l) (_hlo : ∀ x ∈ l, x.ok) (hs : RdW w A n c m) (hsi : ∀ x ∈ m, In32 x) (hpa : pa < 256) (hpb : pb < 256) (hf : Hid (Forms w)) : Calls Tryd.prog 7 #[.slice CA cn cd, stV pc A n c halt, .agg #[.int .u8 pa, .int .u8 pb]] w (Holds w) := by
  have HCL := Lib.hid hl.len
  have hcle := hl.le
  have hcmx := hl.max
  have HNL := Lib.hid hs.len
  have hnle := hs.le
  have hnmx := hs.max
  have RC := Lib.hid hl
  have RS := Lib.hid hs
  have HSI := Lib.hid hsi
  obtain ⟨a, hae⟩ : ∃ a, a = pa % 100 := ⟨_, rfl⟩
  obtain ⟨b, hbe⟩ : ∃ b, b = pb % 100 := ⟨_, rfl⟩
  have ha : a < 100 := by omega
  have hb : b < 100 := by omega
  have ta : (pa : Int).tmod 100 = (a : Int) := by rw [Int.tmod_eq_emod_of_nonneg (by omega)]; omega
  have tb : (pb : Int).tmod 100 = (b : Int) := by rw [Int.tmod_eq_emod_of_nonneg (by omega)]; omega
  have TA := Lib.hid ta
  have TB := Lib.hid tb
  have WA : Hid (IntKind.u8.wrap (a : Int) = a) := IntWalk.u8_in _ (by omega)
  have WB : Hid (IntKind.u8.wrap (b : Int) = b) := IntWalk.u8_in _ (by omega)
  have IA : Hid (IntKind.i64.wrap (a : Int) = a) := IntWalk.i64_in _ (by omega)
  have IB : Hid (IntKind.i64.wrap (b : Int) = b) := IntWalk.i64_in _ (by omega)
  have IAB : Hid (IntKind.i64.wrap ((a : Int) + b) = (a : Int) + b) := IntWalk.i64_in _ (by omega)
  have HA := Lib.hid ha
  have HB := Lib.hid hb
  clear hl hs hsi _hlo ta tb ha hb hae hbe hpa hpb
  go_enter Tryd.func7, Tryd.ntmps7
  go_upto_region 1 with fail
  obtain ⟨g4, hg4⟩ : ∃ g, g = w.heap.size := ⟨_, rfl⟩
  obtain ⟨W1, hW1⟩ : ∃ W1, W1 = World.alloc w (.cells #[.int .i64 pc, .slice A n c, .int .i64 halt] 25) := ⟨_, rfl⟩
  have C4 : Hid (W1.heap[g4]? = some (.cells #[.int .i64 pc, .slice A n c, .int .i64 halt] 25 (0, 0))) := by rw [hW1, hg4]; exact Go.heap_alloc_new w _
  have hs1 : W1.heap.size = g4 + 1 := by rw [hW1, hg4]; simp
  have B : Hid (Below w.heap.size w W1) := by rw [hW1]; exact ext_alloc w _
  obtain ⟨g5, hg5⟩ : ∃ g, g = g4 + 1 := ⟨_, rfl⟩
  rw [← hW1, ← hg4, ← hg5]
  rw [← hg5] at hs1
  clear hW1 hg4 hg5
  obtain ⟨U, hU⟩ : ∃ U, U = World.alloc W1 (.cells #[.int .u8 pa, .int .u8 pb] 46) := ⟨_, rfl⟩
  have C5 : Hid (U.heap[g5]? = some (.cells #[.int .u8 pa, .int .u8 pb] 46 (0, 0))) := by rw [hU, ← hs1]; exact Go.heap_alloc_new W1 _
  replace C4 : Hid (U.heap[g4]? = some (.cells #[.int .i64 pc, .slice A n c, .int .i64 halt] 25 (0, 0))) := by show _ = _; rw [hU]; exact keepG (ext_alloc W1 _) C4.out
  replace B : Hid (Below w.heap.size w U) := by rw [hU]; exact ext_trans B.out (ext_alloc W1 _)
  rw [← hU]
  clear hU hs1
  replace RC := Lib.hid (RC.out.ext B.out)
  replace RS := Lib.hid (RS.out.ext B.out)
  have HF := Lib.hid (hf.out.ext B.out)
  clear hf
  by_cases hfew : cn ≤ 300 ∧ n ≤ 300
  case neg =>
    obtain ⟨q0, q1, q2⟩ := full3i C4.out
    go_wp2_with fail
    clear q0 q1 q2
    refine (few_f _ CA cn cd pc A n c halt hfew).mono ?_
    rintro e v ⟨rfl, hb⟩
    clear hfew
    go_wp2_with fail
    refine (told_c _ (Lib.hid (HF.out.ext hb))).mono ?_
    rintro e v2 ⟨rfl, hb2⟩
    go_wp2_with fail
    go_ret
    exact ⟨rfl, ext_trans (ext_trans B.out hb) hb2⟩
  obtain ⟨f1, f2⟩ := hfew
  have F1 := Lib.hid f1
  have F2 := Lib.hid f2
  obtain ⟨q0, q1, q2⟩ := full3i C4.out
  go_wp2_with fail
  clear q0 q1 q2
  refine (few_t _ CA cn cd pc A n c halt f1 f2).mono ?_
  rintro e v ⟨rfl, hb⟩
  clear f1 f2
  replace C4 := Lib.hid (keepG hb C4.out)
  replace C5 := Lib.hid (keepG hb C5.out)
  replace B := Lib.hid (ext_trans B.out hb)
  replace RC := Lib.hid (RC.out.ext hb)
  replace RS := Lib.hid (RS.out.ext hb)
  replace HF := Lib.hid (HF.out.ext hb)
  clear hb
  obtain ⟨q0, q1, q2⟩ := full3i C4.out
  go_wp2_with fail
  clear q0 q1 q2
  refine (rright_s _ pc A n c halt m HNL.out RS.out.le).mono ?_
  obtain ⟨R, hR⟩ : ∃ R, R = rightM ⟨pc, m, halt⟩ := ⟨_, rfl⟩
  rw [← hR]
  have HR := Lib.hid hR
  clear hR
  rintro e v2 ⟨rfl, hb⟩
  replace C4 := Lib.hid (keepG hb C4.out)
  replace C5 := Lib.hid (keepG hb C5.out)
  replace B := Lib.hid (ext_trans B.out hb)
  replace RC := Lib.hid (RC.out.ext hb)
  replace RS := Lib.hid (RS.out.ext hb)
  replace HF := Lib.hid (HF.out.ext hb)
  clear hb
  cases R with
  | false =>
    go_wp2_with fail
    refine (told_c _ HF).mono ?_
    rintro e v2 ⟨rfl, hb2⟩
    go_wp2_with fail
    go_ret
    exact ⟨rfl, ext_trans B.out hb2⟩
  | true =>
  have HRT : Hid (rightM ⟨pc, m, halt⟩ = true) := HR.out.symm
  clear HR
  go_upto_region 3 with fail
  refine wp_region_schedC (fun u => Below v2.heap.size v2 u) [(true, 0), (true, 1), (true, 2), (true, 3), (true, 4), (true, 5), (true, 6), (true, 7), (true, 8), (true, 9)] (by kernel_rfl) rfl (by kernel_rfl) (by kernel_rfl) (fun _ _ d _ _ h => by cases d <;> exact h) (ext_drew v2) ?_
  intro J0 hJ0
  iterate 10 (refine schedC_pure (v := ?_) rfl (by rfl) ?_ ?_; rotate_left; (focus (intro u hC; obtain ⟨q0, q1⟩ := full2m (keepG hC C5.out); have ta := TA.out; have tb := TB.out; have wa := WA.out; have wb := WB.out; have ia := IA.out; have ib := IB.out; go_simp; try with_reducible rfl)); try go_simp)
  refine schedC_nil (hJ0 _ _ ?_)
  clear hJ0
  have hb : Below v2.heap.size v2 v2.drew := ext_drew v2
  generalize v2.drew = W at hb ⊢
  replace C4 := Lib.hid (keepG hb C4.out)
  replace B := Lib.hid (ext_trans B.out hb)
  replace RC := Lib.hid (RC.out.ext hb)
  replace RS := Lib.hid (RS.out.ext hb)
  replace HF := Lib.hid (HF.out.ext hb)
  clear hb C5
  go_upto_region 4 with fail
  go_cut [9, 10, 11] (fun x y z wx => RunAt l ⟨pc, m, halt⟩ n a W x y z wx)
  case first =>
    refine wp_region_tr (fin := 99) (fun u => Below W.heap.size W u) (.pure 0 (.pure 2 (.pure 4 (.two 1 (.two 3 (.two 5 (.pure 6 (.pure 7 (.pure 8 (.pure 9 (.eff 10 (.eff 11 (.pure 12 (.pure 13 .nil)))))))) 10 (.eff 5 (.pure 6 (.pure 7 (.pure 8 (.pure 9 (.eff 11 (.pure 12 (.pure 13 .nil))))))))) 10 (.eff 3 (.eff 5 (.pure 6 (.pure 7 (.pure 8 (.pure 9 (.eff 11 (.pure 12 (.pure 13 .nil)))))))))) 10 (.eff 1 (.eff 3 (.eff 5 (.pure 6 (.pure 7 (.pure 8 (.pure 9 (.eff 11 (.pure 12 (.pure 13 .nil)))))))))))))) (by kernel_rfl) (by kernel_rfl) (by kernel_rfl) (fun _ _ d _ _ h => by cases d <;> exact h) (ext_drew W) ?_
    intro J0 hJ0
    iterate 3 (refine tr_pure (v := ?_) rfl (by rfl) ?_ ?_; rotate_left; (focus (intro u hC; obtain ⟨x0, x1, x2⟩ := full3i (keepG hC C4.out); go_simp; try with_reducible rfl)); try go_simp)
    have Q : Hid (Below W.heap.size W W.drew) := ext_drew W
    generalize W.drew = v0 at Q ⊢
    refine tr_two rfl rfl ?_ ?_
    · intro J hJ
      go_wp2_with fail
      refine (ownCode_c _ CA cn cd l (Lib.hid (RC.out.ext Q.out)) (by have := F1.out; omega)).mono ?_
      rintro e v1 ⟨A7, d7, rfl, hR, hb⟩
      rw [HCL.out] at hR ⊢
      have RC7 := Lib.hid hR
      clear hR
      replace Q : Hid (Below W.heap.size W v1) := ext_trans Q.out hb
      clear hb
      go_wp2_with fail
      refine ⟨fun _ => Q.out, ?_⟩
      refine tr_two rfl rfl ?_ ?_
      · intro J hJ
        go_wp2_with fail
        refine (own_c _ pc A n c halt m (Lib.hid (RS.out.ext Q.out)) (by have := F2.out; omega)).mono ?_
        rintro e v2 ⟨A6, c6, rfl, ho6, hb⟩
        have RX6 : Hid (RdW v2 A6 n c6 m) := ho6.rd
        clear ho6
        replace RC7 := Lib.hid (RC7.out.ext hb)
        replace Q : Hid (Below W.heap.size W v2) := ext_trans Q.out hb
        clear hb
        go_wp2_with fail
        refine ⟨fun _ => Q.out, ?_⟩
        refine tr_two rfl rfl ?_ ?_
        · intro J hJ
          go_wp2_with fail
          have Q0 := Q
          refine (run_c _ (Lib.hid (HF.out.ext Q.out)) A7 cn d7 l RC7 pc A6 n c6 halt m (RX6) HSI (by have := F2.out; omega) a (by have := HA.out; have := HB.out; omega) (by have := HA.out; have := HB.out; omega)).mono ?_
          rintro e v3 ⟨t8, k8, o8, A8, c8, rfl, hrun, _, ho, hb⟩
          replace RC7 := Lib.hid (RC7.out.ext hb)
          replace RX6 := Lib.hid (RX6.out.ext hb)
          replace Q : Hid (Below W.heap.size W v3) := ext_trans Q.out hb
          have HO0 : OwnW v3 21 (v2).heap.size A8 n c8 t8.mem := ho
          have HO : Hid (OwnW v3 21 W.heap.size A8 n c8 t8.mem) := HO0.up Q0.out.size
          rw [if_neg (by have := HA.out; have := HB.out; omega)] at hrun
          have HRUN := Lib.hid hrun
          clear HO0 ho hrun
          clear hb
          go_wp2_with fail
          refine ⟨fun _ => Q.out, ?_⟩
          iterate 4 (refine tr_pure (v := ?_) rfl (by rfl) ?_ ?_; rotate_left; (focus (intro u hC;  go_simp; try with_reducible rfl)); try go_simp)
          refine tr_eff rfl ?_
          intro J hJ
          go_wp2_with fail
          refine ⟨fun _ => ext_trans Q.out (ext_alloc _ _), ?_⟩
          obtain ⟨v4, hu⟩ : ∃ u, u = World.alloc v3 (.cells #[.int .i64 0, .slice none 0 0, .int .i64 0] 30) := ⟨_, rfl⟩
          rw [← hu]
          obtain ⟨p, hp⟩ : ∃ p, p = (v3).heap.size := ⟨_, rfl⟩
          have hpd : (v3).heap.size = p := hp.symm
          rw [hpd]
          have PA : Hid (v4.heap[p]? = some (.cells #[.int .i64 0, .slice none 0 0, .int .i64 0] 30 (0, 0))) := by rw [hu, hp]; exact Go.heap_alloc_new _ _
          have PZ : W.heap.size ≤ p := by rw [hp]; exact Q.out.size
          have hb : Below (v3).heap.size v3 v4 := by rw [hu]; exact ext_alloc _ _
          have PS : Hid ((v3).heap.size = p) := hpd
          have HNE : Hid (∀ r, A8 = some r → r.block ≠ p) := fun r hr => by have := (HO.out.addr hr).2; have := PS.out; omega
          replace RC7 := Lib.hid (RC7.out.ext hb)
          replace RX6 := Lib.hid (RX6.out.ext hb)
          replace HO := Lib.hid (HO.out.ext hb)
          replace Q : Hid (Below W.heap.size W v4) := ext_trans Q.out hb
          clear hu hp hpd hb
          refine tr_eff rfl ?_
          intro J hJ
          obtain ⟨p0, p1, p2, f0, f1, f2⟩ := full3f PA.out
          go_wp2_with fail
          clear p0 p1 p2 f0 f1 f2
          refine ⟨fun _ => bel3M Q.out PZ _ _ _, ?_⟩
          iterate 2 (refine tr_pure (v := ?_) rfl (by rfl) ?_ ?_; rotate_left; (focus (intro u hC;  go_simp; try with_reducible rfl)); try go_simp)
          refine tr_nil (hJ0 _ _ ?_)
          go_wp2_with fail
          go_meet
          have k1 := HO.out.far (grownSetM (b := p) (j := 0) (.int .i64 t8.pc)) (fun g e r' h => by injection e with e; subst e; exact HNE.out r' h)
          have k2 := k1.far (grownSetM (b := p) (j := 1) (.slice A8 n c8)) (fun g e r' h => by injection e with e; subst e; exact HNE.out r' h)
          have k3 := k2.far (grownSetM (b := p) (j := 2) (.int .i64 t8.halt)) (fun g e r' h => by injection e with e; subst e; exact HNE.out r' h)
          exact ⟨p, A8, c8, t8, k8, o8, rfl, rfl, rfl, set3M PA.out _ _ _, k3.rd, HRUN.out, bel3M Q.out PZ _ _ _⟩
        · intro J hJ
          go_wp2_with fail
          refine ⟨fun _ => ext_trans Q.out (ext_alloc _ _), ?_⟩
          obtain ⟨v5, hu⟩ : ∃ u, u = World.alloc v2 (.cells #[.int .i64 0, .slice none 0 0, .int .i64 0] 30) := ⟨_, rfl⟩
          rw [← hu]
          obtain ⟨p, hp⟩ : ∃ p, p = (v2).heap.size := ⟨_, rfl⟩
          have hpd : (v2).heap.size = p := hp.symm
          rw [hpd]
          have PA : Hid (v5.heap[p]? = some (.cells #[.int .i64 0, .slice none 0 0, .int .i64 0] 30 (0, 0))) := by rw [hu, hp]; exact Go.heap_alloc_new _ _
          have PZ : W.heap.size ≤ p := by rw [hp]; exact Q.out.size
          have hb : Below (v2).heap.size v2 v5 := by rw [hu]; exact ext_alloc _ _
          have PS : Hid ((v2).heap.size = p) := hpd
          replace RC7 := Lib.hid (RC7.out.ext hb)
          replace RX6 := Lib.hid (RX6.out.ext hb)
          replace Q : Hid (Below W.heap.size W v5) := ext_trans Q.out hb
          clear hu hp hpd hb
          refine tr_eff rfl ?_
          intro J hJ
          go_wp2_with fail
          have PA0 := PA
          have Q0 := Q
          refine (run_c _ (Lib.hid (HF.out.ext Q.out)) A7 cn d7 l RC7 pc A6 n c6 halt m (RX6) HSI (by have := F2.out; omega) a (by have := HA.out; have := HB.out; omega) (by have := HA.out; have := HB.out; omega)).mono ?_
          rintro e v6 ⟨t8, k8, o8, A8, c8, rfl, hrun, _, ho, hb⟩
          replace RC7 := Lib.hid (RC7.out.ext hb)
          replace RX6 := Lib.hid (RX6.out.ext hb)
          replace PA := Lib.hid (keepG hb PA.out)
          replace Q : Hid (Below W.heap.size W v6) := ext_trans Q.out hb
          have HO0 : OwnW v6 21 (v5).heap.size A8 n c8 t8.mem := ho
          have HNE : Hid (∀ r, A8 = some r → r.block ≠ p) := fun r hr => by have := (HO0.addr hr).1; have hpl := (Array.getElem?_eq_some_iff.1 PA0.out).1; omega
          have HO : Hid (OwnW v6 21 W.heap.size A8 n c8 t8.mem) := HO0.up Q0.out.size
          rw [if_neg (by have := HA.out; have := HB.out; omega)] at hrun
          have HRUN := Lib.hid hrun
          clear HO0 ho hrun
          clear hb
          go_wp2_with fail
          refine ⟨fun _ => Q.out, ?_⟩
          iterate 4 (refine tr_pure (v := ?_) rfl (by rfl) ?_ ?_; rotate_left; (focus (intro u hC;  go_simp; try with_reducible rfl)); try go_simp)
          refine tr_eff rfl ?_
          intro J hJ
          obtain ⟨p0, p1, p2, f0, f1, f2⟩ := full3f PA.out
          go_wp2_with fail
          clear p0 p1 p2 f0 f1 f2
          refine ⟨fun _ => bel3M Q.out PZ _ _ _, ?_⟩
          iterate 2 (refine tr_pure (v := ?_) rfl (by rfl) ?_ ?_; rotate_left; (focus (intro u hC;  go_simp; try with_reducible rfl)); try go_simp)
          refine tr_nil (hJ0 _ _ ?_)
          go_wp2_with fail
          go_meet
          have k1 := HO.out.far (grownSetM (b := p) (j := 0) (.int .i64 t8.pc)) (fun g e r' h => by injection e with e; subst e; exact HNE.out r' h)
          have k2 := k1.far (grownSetM (b := p) (j := 1) (.slice A8 n c8)) (fun g e r' h => by injection e with e; subst e; exact HNE.out r' h)
          have k3 := k2.far (grownSetM (b := p) (j := 2) (.int .i64 t8.halt)) (fun g e r' h => by injection e with e; subst e; exact HNE.out r' h)
          exact ⟨p, A8, c8, t8, k8, o8, rfl, rfl, rfl, set3M PA.out _ _ _, k3.rd, HRUN.out, bel3M Q.out PZ _ _ _⟩
      · intro J hJ
        go_wp2_with fail
        refine ⟨fun _ => ext_trans Q.out (ext_alloc _ _), ?_⟩
        obtain ⟨v7, hu⟩ : ∃ u, u = World.alloc v1 (.cells #[.int .i64 0, .slice none 0 0, .int .i64 0] 30) := ⟨_, rfl⟩
        rw [← hu]
        obtain ⟨p, hp⟩ : ∃ p, p = (v1).heap.size := ⟨_, rfl⟩
        have hpd : (v1).heap.size = p := hp.symm
        rw [hpd]
        have PA : Hid (v7.heap[p]? = some (.cells #[.int .i64 0, .slice none 0 0, .int .i64 0] 30 (0, 0))) := by rw [hu, hp]; exact Go.heap_alloc_new _ _
        have PZ : W.heap.size ≤ p := by rw [hp]; exact Q.out.size
        have hb : Below (v1).heap.size v1 v7 := by rw [hu]; exact ext_alloc _ _
        have PS : Hid ((v1).heap.size = p) := hpd
        replace RC7 := Lib.hid (RC7.out.ext hb)
        replace Q : Hid (Below W.heap.size W v7) := ext_trans Q.out hb
        clear hu hp hpd hb
        refine tr_eff rfl ?_
        intro J hJ
        go_wp2_with fail
        refine (own_c _ pc A n c halt m (Lib.hid (RS.out.ext Q.out)) (by have := F2.out; omega)).mono ?_
        rintro e v8 ⟨A6, c6, rfl, ho6, hb⟩
        have RX6 : Hid (RdW v8 A6 n c6 m) := ho6.rd
        clear ho6
        replace RC7 := Lib.hid (RC7.out.ext hb)
        replace PA := Lib.hid (keepG hb PA.out)
        replace Q : Hid (Below W.heap.size W v8) := ext_trans Q.out hb
        clear hb
        go_wp2_with fail
        refine ⟨fun _ => Q.out, ?_⟩
        refine tr_eff rfl ?_
        intro J hJ
        go_wp2_with fail
        have PA0 := PA
        have Q0 := Q
        refine (run_c _ (Lib.hid (HF.out.ext Q.out)) A7 cn d7 l RC7 pc A6 n c6 halt m (RX6) HSI (by have := F2.out; omega) a (by have := HA.out; have := HB.out; omega) (by have := HA.out; have := HB.out; omega)).mono ?_
        rintro e v9 ⟨t8, k8, o8, A8, c8, rfl, hrun, _, ho, hb⟩
        replace RC7 := Lib.hid (RC7.out.ext hb)
        replace PA := Lib.hid (keepG hb PA.out)
        replace RX6 := Lib.hid (RX6.out.ext hb)
        replace Q : Hid (Below W.heap.size W v9) := ext_trans Q.out hb
        have HO0 : OwnW v9 21 (v8).heap.size A8 n c8 t8.mem := ho
        have HNE : Hid (∀ r, A8 = some r → r.block ≠ p) := fun r hr => by have := (HO0.addr hr).1; have hpl := (Array.getElem?_eq_some_iff.1 PA0.out).1; omega
        have HO : Hid (OwnW v9 21 W.heap.size A8 n c8 t8.mem) := HO0.up Q0.out.size
        rw [if_neg (by have := HA.out; have := HB.out; omega)] at hrun
        have HRUN := Lib.hid hrun
        clear HO0 ho hrun
        clear hb
        go_wp2_with fail
        refine ⟨fun _ => Q.out, ?_⟩
        iterate 4 (refine tr_pure (v := ?_) rfl (by rfl) ?_ ?_; rotate_left; (focus (intro u hC;  go_simp; try with_reducible rfl)); try go_simp)
        refine tr_eff rfl ?_
        intro J hJ
        obtain ⟨p0, p1, p2, f0, f1, f2⟩ := full3f PA.out
        go_wp2_with fail
        clear p0 p1 p2 f0 f1 f2
        refine ⟨fun _ => bel3M Q.out PZ _ _ _, ?_⟩
        iterate 2 (refine tr_pure (v := ?_) rfl (by rfl) ?_ ?_; rotate_left; (focus (intro u hC;  go_simp; try with_reducible rfl)); try go_simp)
        refine tr_nil (hJ0 _ _ ?_)
        go_wp2_with fail
        go_meet
        have k1 := HO.out.far (grownSetM (b := p) (j := 0) (.int .i64 t8.pc)) (fun g e r' h => by injection e with e; subst e; exact HNE.out r' h)
        have k2 := k1.far (grownSetM (b := p) (j := 1) (.slice A8 n c8)) (fun g e r' h => by injection e with e; subst e; exact HNE.out r' h)
        have k3 := k2.far (grownSetM (b := p) (j := 2) (.int .i64 t8.halt)) (fun g e r' h => by injection e with e; subst e; exact HNE.out r' h)
        exact ⟨p, A8, c8, t8, k8, o8, rfl, rfl, rfl, set3M PA.out _ _ _, k3.rd, HRUN.out, bel3M Q.out PZ _ _ _⟩
    · intro J hJ
      go_wp2_with fail
      refine ⟨fun _ => ext_trans Q.out (ext_alloc _ _), ?_⟩
      obtain ⟨v10, hu⟩ : ∃ u, u = World.alloc v0 (.cells #[.int .i64 0, .slice none 0 0, .int .i64 0] 30) := ⟨_, rfl⟩
      rw [← hu]
      obtain ⟨p, hp⟩ : ∃ p, p = (v0).heap.size := ⟨_, rfl⟩
      have hpd : (v0).heap.size = p := hp.symm
      rw [hpd]
      have PA : Hid (v10.heap[p]? = some (.cells #[.int .i64 0, .slice none 0 0, .int .i64 0] 30 (0, 0))) := by rw [hu, hp]; exact Go.heap_alloc_new _ _
      have PZ : W.heap.size ≤ p := by rw [hp]; exact Q.out.size
      have hb : Below (v0).heap.size v0 v10 := by rw [hu]; exact ext_alloc _ _
      have PS : Hid ((v0).heap.size = p) := hpd
      replace Q : Hid (Below W.heap.size W v10) := ext_trans Q.out hb
      clear hu hp hpd hb
      refine tr_eff rfl ?_
      intro J hJ
      go_wp2_with fail
      refine (ownCode_c _ CA cn cd l (Lib.hid (RC.out.ext Q.out)) (by have := F1.out; omega)).mono ?_
      rintro e v11 ⟨A7, d7, rfl, hR, hb⟩
      rw [HCL.out] at hR ⊢
      have RC7 := Lib.hid hR
      clear hR
      replace PA := Lib.hid (keepG hb PA.out)
      replace Q : Hid (Below W.heap.size W v11) := ext_trans Q.out hb
      clear hb
      go_wp2_with fail
      refine ⟨fun _ => Q.out, ?_⟩
      refine tr_eff rfl ?_
      intro J hJ
      go_wp2_with fail
      refine (own_c _ pc A n c halt m (Lib.hid (RS.out.ext Q.out)) (by have := F2.out; omega)).mono ?_
      rintro e v12 ⟨A6, c6, rfl, ho6, hb⟩
      have RX6 : Hid (RdW v12 A6 n c6 m) := ho6.rd
      clear ho6
      replace PA := Lib.hid (keepG hb PA.out)
      replace RC7 := Lib.hid (RC7.out.ext hb)
      replace Q : Hid (Below W.heap.size W v12) := ext_trans Q.out hb
      clear hb
      go_wp2_with fail
      refine ⟨fun _ => Q.out, ?_⟩
      refine tr_eff rfl ?_
      intro J hJ
      go_wp2_with fail
      have PA0 := PA
      have Q0 := Q
      refine (run_c _ (Lib.hid (HF.out.ext Q.out)) A7 cn d7 l RC7 pc A6 n c6 halt m (RX6) HSI (by have := F2.out; omega) a (by have := HA.out; have := HB.out; omega) (by have := HA.out; have := HB.out; omega)).mono ?_
      rintro e v13 ⟨t8, k8, o8, A8, c8, rfl, hrun, _, ho, hb⟩
      replace PA := Lib.hid (keepG hb PA.out)
      replace RC7 := Lib.hid (RC7.out.ext hb)
      replace RX6 := Lib.hid (RX6.out.ext hb)
      replace Q : Hid (Below W.heap.size W v13) := ext_trans Q.out hb
      have HO0 : OwnW v13 21 (v12).heap.size A8 n c8 t8.mem := ho
      have HNE : Hid (∀ r, A8 = some r → r.block ≠ p) := fun r hr => by have := (HO0.addr hr).1; have hpl := (Array.getElem?_eq_some_iff.1 PA0.out).1; omega
      have HO : Hid (OwnW v13 21 W.heap.size A8 n c8 t8.mem) := HO0.up Q0.out.size
      rw [if_neg (by have := HA.out; have := HB.out; omega)] at hrun
      have HRUN := Lib.hid hrun
      clear HO0 ho hrun
      clear hb
      go_wp2_with fail
      refine ⟨fun _ => Q.out, ?_⟩
      iterate 4 (refine tr_pure (v := ?_) rfl (by rfl) ?_ ?_; rotate_left; (focus (intro u hC;  go_simp; try with_reducible rfl)); try go_simp)
      refine tr_eff rfl ?_
      intro J hJ
      obtain ⟨p0, p1, p2, f0, f1, f2⟩ := full3f PA.out
      go_wp2_with fail
      clear p0 p1 p2 f0 f1 f2
      refine ⟨fun _ => bel3M Q.out PZ _ _ _, ?_⟩
      iterate 2 (refine tr_pure (v := ?_) rfl (by rfl) ?_ ?_; rotate_left; (focus (intro u hC;  go_simp; try with_reducible rfl)); try go_simp)
      refine tr_nil (hJ0 _ _ ?_)
      go_wp2_with fail
      go_meet
      have k1 := HO.out.far (grownSetM (b := p) (j := 0) (.int .i64 t8.pc)) (fun g e r' h => by injection e with e; subst e; exact HNE.out r' h)
      have k2 := k1.far (grownSetM (b := p) (j := 1) (.slice A8 n c8)) (fun g e r' h => by injection e with e; subst e; exact HNE.out r' h)
      have k3 := k2.far (grownSetM (b := p) (j := 2) (.int .i64 t8.halt)) (fun g e r' h => by injection e with e; subst e; exact HNE.out r' h)
      exact ⟨p, A8, c8, t8, k8, o8, rfl, rfl, rfl, set3M PA.out _ _ _, k3.rd, HRUN.out, bel3M Q.out PZ _ _ _⟩
  case rest =>
  obtain ⟨p1, A1, c1, t1, k1, o1, rfl, rfl, rfl, hP, hR, hI, hb⟩ := hcut
  rename World => V1
  have P1 := Lib.hid hP
  have R1 := Lib.hid hR
  have I1 := Lib.hid hI
  clear hP hR hI
  replace C4 := Lib.hid (keepG hb C4.out)
  replace B := Lib.hid (ext_trans B.out hb)
  replace RC := Lib.hid (RC.out.ext hb)
  replace RS := Lib.hid (RS.out.ext hb)
  replace HF := Lib.hid (HF.out.ext hb)
  clear hb
  have HI1 : Hid (∀ x ∈ t1.mem, In32 x) := I1.out.in_ HSI.out
  go_upto_region 5 with fail
  go_cut [12, 13, 14] (fun x y z wx => RunAt l t1 n b V1 x y z wx)
  case first =>
    refine wp_region_tr (fin := 99) (fun u => Below V1.heap.size V1 u) (.pure 0 (.pure 2 (.pure 3 (.two 1 (.two 4 (.pure 5 (.pure 6 (.pure 7 (.pure 8 (.eff 9 (.eff 10 (.pure 11 (.pure 12 .nil)))))))) 9 (.eff 4 (.pure 5 (.pure 6 (.pure 7 (.pure 8 (.eff 10 (.pure 11 (.pure 12 .nil))))))))) 9 (.eff 1 (.eff 4 (.pure 5 (.pure 6 (.pure 7 (.pure 8 (.eff 10 (.pure 11 (.pure 12 .nil))))))))))))) (by kernel_rfl) (by kernel_rfl) (by kernel_rfl) (fun _ _ d _ _ h => by cases d <;> exact h) (ext_drew V1) ?_
    intro J0 hJ0
    iterate 3 (refine tr_pure (v := ?_) rfl (by rfl) ?_ ?_; rotate_left; (focus (intro u hC; obtain ⟨x0, x1, x2⟩ := full3i (keepG hC P1.out); go_simp; try with_reducible rfl)); try go_simp)
    have Q : Hid (Below V1.heap.size V1 V1.drew) := ext_drew V1
    generalize V1.drew = v0 at Q ⊢
    refine tr_two rfl rfl ?_ ?_
    · intro J hJ
      go_wp2_with fail
      refine (ownCode_c _ CA cn cd l (Lib.hid (RC.out.ext Q.out)) (by have := F1.out; omega)).mono ?_
      rintro e v1 ⟨A7, d7, rfl, hR, hb⟩
      rw [HCL.out] at hR ⊢
      have RC7 := Lib.hid hR
      clear hR
      replace Q : Hid (Below V1.heap.size V1 v1) := ext_trans Q.out hb
      clear hb
      go_wp2_with fail
      refine ⟨fun _ => Q.out, ?_⟩
      refine tr_two rfl rfl ?_ ?_
      · intro J hJ
        go_wp2_with fail
        have Q0 := Q
        refine (run_c _ (Lib.hid (HF.out.ext Q.out)) A7 cn d7 l RC7 t1.pc A1 n c1 t1.halt t1.mem (Lib.hid (R1.out.ext Q.out)) HI1 (by have := F2.out; omega) b (by have := HA.out; have := HB.out; omega) (by have := HA.out; have := HB.out; omega)).mono ?_
        rintro e v2 ⟨t8, k8, o8, A8, c8, rfl, hrun, _, ho, hb⟩
        replace RC7 := Lib.hid (RC7.out.ext hb)
        replace Q : Hid (Below V1.heap.size V1 v2) := ext_trans Q.out hb
        have HO0 : OwnW v2 21 (v1).heap.size A8 n c8 t8.mem := ho
        have HO : Hid (OwnW v2 21 V1.heap.size A8 n c8 t8.mem) := HO0.up Q0.out.size
        rw [if_neg (by have := HA.out; have := HB.out; omega)] at hrun
        have HRUN := Lib.hid hrun
        clear HO0 ho hrun
        clear hb
        go_wp2_with fail
        refine ⟨fun _ => Q.out, ?_⟩
        iterate 4 (refine tr_pure (v := ?_) rfl (by rfl) ?_ ?_; rotate_left; (focus (intro u hC;  go_simp; try with_reducible rfl)); try go_simp)
        refine tr_eff rfl ?_
        intro J hJ
        go_wp2_with fail
        refine ⟨fun _ => ext_trans Q.out (ext_alloc _ _), ?_⟩
        obtain ⟨v3, hu⟩ : ∃ u, u = World.alloc v2 (.cells #[.int .i64 0, .slice none 0 0, .int .i64 0] 30) := ⟨_, rfl⟩
        rw [← hu]
        obtain ⟨p, hp⟩ : ∃ p, p = (v2).heap.size := ⟨_, rfl⟩
        have hpd : (v2).heap.size = p := hp.symm
        rw [hpd]
        have PA : Hid (v3.heap[p]? = some (.cells #[.int .i64 0, .slice none 0 0, .int .i64 0] 30 (0, 0))) := by rw [hu, hp]; exact Go.heap_alloc_new _ _
        have PZ : V1.heap.size ≤ p := by rw [hp]; exact Q.out.size
        have hb : Below (v2).heap.size v2 v3 := by rw [hu]; exact ext_alloc _ _
        have PS : Hid ((v2).heap.size = p) := hpd
        have HNE : Hid (∀ r, A8 = some r → r.block ≠ p) := fun r hr => by have := (HO.out.addr hr).2; have := PS.out; omega
        replace RC7 := Lib.hid (RC7.out.ext hb)
        replace HO := Lib.hid (HO.out.ext hb)
        replace Q : Hid (Below V1.heap.size V1 v3) := ext_trans Q.out hb
        clear hu hp hpd hb
        refine tr_eff rfl ?_
        intro J hJ
        obtain ⟨p0, p1, p2, f0, f1, f2⟩ := full3f PA.out
        go_wp2_with fail
        clear p0 p1 p2 f0 f1 f2
        refine ⟨fun _ => bel3M Q.out PZ _ _ _, ?_⟩
        iterate 2 (refine tr_pure (v := ?_) rfl (by rfl) ?_ ?_; rotate_left; (focus (intro u hC;  go_simp; try with_reducible rfl)); try go_simp)
        refine tr_nil (hJ0 _ _ ?_)
        go_wp2_with fail
        go_meet
        have k1 := HO.out.far (grownSetM (b := p) (j := 0) (.int .i64 t8.pc)) (fun g e r' h => by injection e with e; subst e; exact HNE.out r' h)
        have k2 := k1.far (grownSetM (b := p) (j := 1) (.slice A8 n c8)) (fun g e r' h => by injection e with e; subst e; exact HNE.out r' h)
        have k3 := k2.far (grownSetM (b := p) (j := 2) (.int .i64 t8.halt)) (fun g e r' h => by injection e with e; subst e; exact HNE.out r' h)
        exact ⟨p, A8, c8, t8, k8, o8, rfl, rfl, rfl, set3M PA.out _ _ _, k3.rd, HRUN.out, bel3M Q.out PZ _ _ _⟩
      · intro J hJ
        go_wp2_with fail
        refine ⟨fun _ => ext_trans Q.out (ext_alloc _ _), ?_⟩
        obtain ⟨v4, hu⟩ : ∃ u, u = World.alloc v1 (.cells #[.int .i64 0, .slice none 0 0, .int .i64 0] 30) := ⟨_, rfl⟩
        rw [← hu]
        obtain ⟨p, hp⟩ : ∃ p, p = (v1).heap.size := ⟨_, rfl⟩
        have hpd : (v1).heap.size = p := hp.symm
        rw [hpd]
        have PA : Hid (v4.heap[p]? = some (.cells #[.int .i64 0, .slice none 0 0, .int .i64 0] 30 (0, 0))) := by rw [hu, hp]; exact Go.heap_alloc_new _ _
        have PZ : V1.heap.size ≤ p := by rw [hp]; exact Q.out.size
        have hb : Below (v1).heap.size v1 v4 := by rw [hu]; exact ext_alloc _ _
        have PS : Hid ((v1).heap.size = p) := hpd
        replace RC7 := Lib.hid (RC7.out.ext hb)
        replace Q : Hid (Below V1.heap.size V1 v4) := ext_trans Q.out hb
        clear hu hp hpd hb
        refine tr_eff rfl ?_
        intro J hJ
        go_wp2_with fail
        have PA0 := PA
        have Q0 := Q
        refine (run_c _ (Lib.hid (HF.out.ext Q.out)) A7 cn d7 l RC7 t1.pc A1 n c1 t1.halt t1.mem (Lib.hid (R1.out.ext Q.out)) HI1 (by have := F2.out; omega) b (by have := HA.out; have := HB.out; omega) (by have := HA.out; have := HB.out; omega)).mono ?_
        rintro e v5 ⟨t8, k8, o8, A8, c8, rfl, hrun, _, ho, hb⟩
        replace RC7 := Lib.hid (RC7.out.ext hb)
        replace PA := Lib.hid (keepG hb PA.out)
        replace Q : Hid (Below V1.heap.size V1 v5) := ext_trans Q.out hb
        have HO0 : OwnW v5 21 (v4).heap.size A8 n c8 t8.mem := ho
        have HNE : Hid (∀ r, A8 = some r → r.block ≠ p) := fun r hr => by have := (HO0.addr hr).1; have hpl := (Array.getElem?_eq_some_iff.1 PA0.out).1; omega
        have HO : Hid (OwnW v5 21 V1.heap.size A8 n c8 t8.mem) := HO0.up Q0.out.size
        rw [if_neg (by have := HA.out; have := HB.out; omega)] at hrun
        have HRUN := Lib.hid hrun
        clear HO0 ho hrun
        clear hb
        go_wp2_with fail
        refine ⟨fun _ => Q.out, ?_⟩
        iterate 4 (refine tr_pure (v := ?_) rfl (by rfl) ?_ ?_; rotate_left; (focus (intro u hC;  go_simp; try with_reducible rfl)); try go_simp)
        refine tr_eff rfl ?_
        intro J hJ
        obtain ⟨p0, p1, p2, f0, f1, f2⟩ := full3f PA.out
        go_wp2_with fail
        clear p0 p1 p2 f0 f1 f2
        refine ⟨fun _ => bel3M Q.out PZ _ _ _, ?_⟩
        iterate 2 (refine tr_pure (v := ?_) rfl (by rfl) ?_ ?_; rotate_left; (focus (intro u hC;  go_simp; try with_reducible rfl)); try go_simp)
        refine tr_nil (hJ0 _ _ ?_)
        go_wp2_with fail
        go_meet
        have k1 := HO.out.far (grownSetM (b := p) (j := 0) (.int .i64 t8.pc)) (fun g e r' h => by injection e with e; subst e; exact HNE.out r' h)
        have k2 := k1.far (grownSetM (b := p) (j := 1) (.slice A8 n c8)) (fun g e r' h => by injection e with e; subst e; exact HNE.out r' h)
        have k3 := k2.far (grownSetM (b := p) (j := 2) (.int .i64 t8.halt)) (fun g e r' h => by injection e with e; subst e; exact HNE.out r' h)
        exact ⟨p, A8, c8, t8, k8, o8, rfl, rfl, rfl, set3M PA.out _ _ _, k3.rd, HRUN.out, bel3M Q.out PZ _ _ _⟩
    · intro J hJ
      go_wp2_with fail
      refine ⟨fun _ => ext_trans Q.out (ext_alloc _ _), ?_⟩
      obtain ⟨v6, hu⟩ : ∃ u, u = World.alloc v0 (.cells #[.int .i64 0, .slice none 0 0, .int .i64 0] 30) := ⟨_, rfl⟩
      rw [← hu]
      obtain ⟨p, hp⟩ : ∃ p, p = (v0).heap.size := ⟨_, rfl⟩
      have hpd : (v0).heap.size = p := hp.symm
      rw [hpd]
      have PA : Hid (v6.heap[p]? = some (.cells #[.int .i64 0, .slice none 0 0, .int .i64 0] 30 (0, 0))) := by rw [hu, hp]; exact Go.heap_alloc_new _ _
      have PZ : V1.heap.size ≤ p := by rw [hp]; exact Q.out.size
      have hb : Below (v0).heap.size v0 v6 := by rw [hu]; exact ext_alloc _ _
      have PS : Hid ((v0).heap.size = p) := hpd
      replace Q : Hid (Below V1.heap.size V1 v6) := ext_trans Q.out hb
      clear hu hp hpd hb
      refine tr_eff rfl ?_
      intro J hJ
      go_wp2_with fail
      refine (ownCode_c _ CA cn cd l (Lib.hid (RC.out.ext Q.out)) (by have := F1.out; omega)).mono ?_
      rintro e v7 ⟨A7, d7, rfl, hR, hb⟩
      rw [HCL.out] at hR ⊢
      have RC7 := Lib.hid hR
      clear hR
      replace PA := Lib.hid (keepG hb PA.out)
      replace Q : Hid (Below V1.heap.size V1 v7) := ext_trans Q.out hb
      clear hb
      go_wp2_with fail
      refine ⟨fun _ => Q.out, ?_⟩
      refine tr_eff rfl ?_
      intro J hJ
      go_wp2_with fail
      have PA0 := PA
      have Q0 := Q
      refine (run_c _ (Lib.hid (HF.out.ext Q.out)) A7 cn d7 l RC7 t1.pc A1 n c1 t1.halt t1.mem (Lib.hid (R1.out.ext Q.out)) HI1 (by have := F2.out; omega) b (by have := HA.out; have := HB.out; omega) (by have := HA.out; have := HB.out; omega)).mono ?_
      rintro e v8 ⟨t8, k8, o8, A8, c8, rfl, hrun, _, ho, hb⟩
      replace PA := Lib.hid (keepG hb PA.out)
      replace RC7 := Lib.hid (RC7.out.ext hb)
      replace Q : Hid (Below V1.heap.size V1 v8) := ext_trans Q.out hb
      have HO0 : OwnW v8 21 (v7).heap.size A8 n c8 t8.mem := ho
      have HNE : Hid (∀ r, A8 = some r → r.block ≠ p) := fun r hr => by have := (HO0.addr hr).1; have hpl := (Array.getElem?_eq_some_iff.1 PA0.out).1; omega
      have HO : Hid (OwnW v8 21 V1.heap.size A8 n c8 t8.mem) := HO0.up Q0.out.size
      rw [if_neg (by have := HA.out; have := HB.out; omega)] at hrun
      have HRUN := Lib.hid hrun
      clear HO0 ho hrun
      clear hb
      go_wp2_with fail
      refine ⟨fun _ => Q.out, ?_⟩
      iterate 4 (refine tr_pure (v := ?_) rfl (by rfl) ?_ ?_; rotate_left; (focus (intro u hC;  go_simp; try with_reducible rfl)); try go_simp)
      refine tr_eff rfl ?_
      intro J hJ
      obtain ⟨p0, p1, p2, f0, f1, f2⟩ := full3f PA.out
      go_wp2_with fail
      clear p0 p1 p2 f0 f1 f2
      refine ⟨fun _ => bel3M Q.out PZ _ _ _, ?_⟩
      iterate 2 (refine tr_pure (v := ?_) rfl (by rfl) ?_ ?_; rotate_left; (focus (intro u hC;  go_simp; try with_reducible rfl)); try go_simp)
      refine tr_nil (hJ0 _ _ ?_)
      go_wp2_with fail
      go_meet
      have k1 := HO.out.far (grownSetM (b := p) (j := 0) (.int .i64 t8.pc)) (fun g e r' h => by injection e with e; subst e; exact HNE.out r' h)
      have k2 := k1.far (grownSetM (b := p) (j := 1) (.slice A8 n c8)) (fun g e r' h => by injection e with e; subst e; exact HNE.out r' h)
      have k3 := k2.far (grownSetM (b := p) (j := 2) (.int .i64 t8.halt)) (fun g e r' h => by injection e with e; subst e; exact HNE.out r' h)
      exact ⟨p, A8, c8, t8, k8, o8, rfl, rfl, rfl, set3M PA.out _ _ _, k3.rd, HRUN.out, bel3M Q.out PZ _ _ _⟩
  case rest =>
  obtain ⟨p2, A2, c2, t2, k2, o2, rfl, rfl, rfl, hP, hR, hI, hb⟩ := hcut
  rename World => V2
  have P2 := Lib.hid hP
  have R2 := Lib.hid hR
  have I2 := Lib.hid hI
  clear hP hR hI
  replace C4 := Lib.hid (keepG hb C4.out)
  replace B := Lib.hid (ext_trans B.out hb)
  replace RC := Lib.hid (RC.out.ext hb)
  replace RS := Lib.hid (RS.out.ext hb)
  replace HF := Lib.hid (HF.out.ext hb)
  clear hb
  go_upto_region 6 with fail
  go_cut [15, 16, 17] (fun x y z wx => RunAt l ⟨pc, m, halt⟩ n (a + b) V2 x y z wx)
  case first =>
    refine wp_region_tr (fin := 99) (fun u => Below V2.heap.size V2 u) (.pure 0 (.pure 2 (.pure 4 (.pure 5 (.pure 6 (.two 1 (.two 3 (.two 7 (.pure 8 (.pure 9 (.pure 10 (.pure 11 (.eff 12 (.eff 13 (.pure 14 (.pure 15 .nil)))))))) 12 (.eff 7 (.pure 8 (.pure 9 (.pure 10 (.pure 11 (.eff 13 (.pure 14 (.pure 15 .nil))))))))) 12 (.eff 3 (.eff 7 (.pure 8 (.pure 9 (.pure 10 (.pure 11 (.eff 13 (.pure 14 (.pure 15 .nil)))))))))) 12 (.eff 1 (.eff 3 (.eff 7 (.pure 8 (.pure 9 (.pure 10 (.pure 11 (.eff 13 (.pure 14 (.pure 15 .nil)))))))))))))))) (by kernel_rfl) (by kernel_rfl) (by kernel_rfl) (fun _ _ d _ _ h => by cases d <;> exact h) (ext_drew V2) ?_
    intro J0 hJ0
    iterate 5 (refine tr_pure (v := ?_) rfl (by rfl) ?_ ?_; rotate_left; (focus (intro u hC; obtain ⟨x0, x1, x2⟩ := full3i (keepG hC C4.out); have iab := IAB.out; go_simp; try with_reducible rfl)); try go_simp)
    have Q : Hid (Below V2.heap.size V2 V2.drew) := ext_drew V2
    generalize V2.drew = v0 at Q ⊢
    refine tr_two rfl rfl ?_ ?_
    · intro J hJ
      go_wp2_with fail
      refine (ownCode_c _ CA cn cd l (Lib.hid (RC.out.ext Q.out)) (by have := F1.out; omega)).mono ?_
      rintro e v1 ⟨A7, d7, rfl, hR, hb⟩
      rw [HCL.out] at hR ⊢
      have RC7 := Lib.hid hR
      clear hR
      replace Q : Hid (Below V2.heap.size V2 v1) := ext_trans Q.out hb
      clear hb
      go_wp2_with fail
      refine ⟨fun _ => Q.out, ?_⟩
      refine tr_two rfl rfl ?_ ?_
      · intro J hJ
        go_wp2_with fail
        refine (own_c _ pc A n c halt m (Lib.hid (RS.out.ext Q.out)) (by have := F2.out; omega)).mono ?_
        rintro e v2 ⟨A6, c6, rfl, ho6, hb⟩
        have RX6 : Hid (RdW v2 A6 n c6 m) := ho6.rd
        clear ho6
        replace RC7 := Lib.hid (RC7.out.ext hb)
        replace Q : Hid (Below V2.heap.size V2 v2) := ext_trans Q.out hb
        clear hb
        go_wp2_with fail
        refine ⟨fun _ => Q.out, ?_⟩
        refine tr_two rfl rfl ?_ ?_
        · intro J hJ
          go_wp2_with fail
          have Q0 := Q
          refine (run_c _ (Lib.hid (HF.out.ext Q.out)) A7 cn d7 l RC7 pc A6 n c6 halt m (RX6) HSI (by have := F2.out; omega) (a + b) (by have := HA.out; have := HB.out; omega) (by have := HA.out; have := HB.out; omega)).mono ?_
          rintro e v3 ⟨t8, k8, o8, A8, c8, rfl, hrun, _, ho, hb⟩
          replace RC7 := Lib.hid (RC7.out.ext hb)
          replace RX6 := Lib.hid (RX6.out.ext hb)
          replace Q : Hid (Below V2.heap.size V2 v3) := ext_trans Q.out hb
          have HO0 : OwnW v3 21 (v2).heap.size A8 n c8 t8.mem := ho
          have HO : Hid (OwnW v3 21 V2.heap.size A8 n c8 t8.mem) := HO0.up Q0.out.size
          rw [if_neg (by have := HA.out; have := HB.out; omega)] at hrun
          have HRUN := Lib.hid hrun
          clear HO0 ho hrun
          clear hb
          go_wp2_with fail
          refine ⟨fun _ => Q.out, ?_⟩
          iterate 4 (refine tr_pure (v := ?_) rfl (by rfl) ?_ ?_; rotate_left; (focus (intro u hC;  go_simp; try with_reducible rfl)); try go_simp)
          refine tr_eff rfl ?_
          intro J hJ
          go_wp2_with fail
          refine ⟨fun _ => ext_trans Q.out (ext_alloc _ _), ?_⟩
          obtain ⟨v4, hu⟩ : ∃ u, u = World.alloc v3 (.cells #[.int .i64 0, .slice none 0 0, .int .i64 0] 30) := ⟨_, rfl⟩
          rw [← hu]
          obtain ⟨p, hp⟩ : ∃ p, p = (v3).heap.size := ⟨_, rfl⟩
          have hpd : (v3).heap.size = p := hp.symm
          rw [hpd]
          have PA : Hid (v4.heap[p]? = some (.cells #[.int .i64 0, .slice none 0 0, .int .i64 0] 30 (0, 0))) := by rw [hu, hp]; exact Go.heap_alloc_new _ _
          have PZ : V2.heap.size ≤ p := by rw [hp]; exact Q.out.size
          have hb : Below (v3).heap.size v3 v4 := by rw [hu]; exact ext_alloc _ _
          have PS : Hid ((v3).heap.size = p) := hpd
          have HNE : Hid (∀ r, A8 = some r → r.block ≠ p) := fun r hr => by have := (HO.out.addr hr).2; have := PS.out; omega
          replace RC7 := Lib.hid (RC7.out.ext hb)
          replace RX6 := Lib.hid (RX6.out.ext hb)
          replace HO := Lib.hid (HO.out.ext hb)
          replace Q : Hid (Below V2.heap.size V2 v4) := ext_trans Q.out hb
          clear hu hp hpd hb
          refine tr_eff rfl ?_
          intro J hJ
          obtain ⟨p0, p1, p2, f0, f1, f2⟩ := full3f PA.out
          go_wp2_with fail
          clear p0 p1 p2 f0 f1 f2
          refine ⟨fun _ => bel3M Q.out PZ _ _ _, ?_⟩
          iterate 2 (refine tr_pure (v := ?_) rfl (by rfl) ?_ ?_; rotate_left; (focus (intro u hC;  go_simp; try with_reducible rfl)); try go_simp)
          refine tr_nil (hJ0 _ _ ?_)
          go_wp2_with fail
          go_meet
          have k1 := HO.out.far (grownSetM (b := p) (j := 0) (.int .i64 t8.pc)) (fun g e r' h => by injection e with e; subst e; exact HNE.out r' h)
          have k2 := k1.far (grownSetM (b := p) (j := 1) (.slice A8 n c8)) (fun g e r' h => by injection e with e; subst e; exact HNE.out r' h)
          have k3 := k2.far (grownSetM (b := p) (j := 2) (.int .i64 t8.halt)) (fun g e r' h => by injection e with e; subst e; exact HNE.out r' h)
          exact ⟨p, A8, c8, t8, k8, o8, rfl, rfl, rfl, set3M PA.out _ _ _, k3.rd, HRUN.out, bel3M Q.out PZ _ _ _⟩
        · intro J hJ
          go_wp2_with fail
          refine ⟨fun _ => ext_trans Q.out (ext_alloc _ _), ?_⟩
          obtain ⟨v5, hu⟩ : ∃ u, u = World.alloc v2 (.cells #[.int .i64 0, .slice none 0 0, .int .i64 0] 30) := ⟨_, rfl⟩
          rw [← hu]
          obtain ⟨p, hp⟩ : ∃ p, p = (v2).heap.size := ⟨_, rfl⟩
          have hpd : (v2).heap.size = p := hp.symm
          rw [hpd]
          have PA : Hid (v5.heap[p]? = some (.cells #[.int .i64 0, .slice none 0 0, .int .i64 0] 30 (0, 0))) := by rw [hu, hp]; exact Go.heap_alloc_new _ _
          have PZ : V2.heap.size ≤ p := by rw [hp]; exact Q.out.size
          have hb : Below (v2).heap.size v2 v5 := by rw [hu]; exact ext_alloc _ _
          have PS : Hid ((v2).heap.size = p) := hpd
          replace RC7 := Lib.hid (RC7.out.ext hb)
          replace RX6 := Lib.hid (RX6.out.ext hb)
          replace Q : Hid (Below V2.heap.size V2 v5) := ext_trans Q.out hb
          clear hu hp hpd hb
          refine tr_eff rfl ?_
          intro J hJ
          go_wp2_with fail
          have PA0 := PA
          have Q0 := Q
          refine (run_c _ (Lib.hid (HF.out.ext Q.out)) A7 cn d7 l RC7 pc A6 n c6 halt m (RX6) HSI (by have := F2.out; omega) (a + b) (by have := HA.out; have := HB.out; omega) (by have := HA.out; have := HB.out; omega)).mono ?_
          rintro e v6 ⟨t8, k8, o8, A8, c8, rfl, hrun, _, ho, hb⟩
          replace RC7 := Lib.hid (RC7.out.ext hb)
          replace RX6 := Lib.hid (RX6.out.ext hb)
          replace PA := Lib.hid (keepG hb PA.out)
          replace Q : Hid (Below V2.heap.size V2 v6) := ext_trans Q.out hb
          have HO0 : OwnW v6 21 (v5).heap.size A8 n c8 t8.mem := ho
          have HNE : Hid (∀ r, A8 = some r → r.block ≠ p) := fun r hr => by have := (HO0.addr hr).1; have hpl := (Array.getElem?_eq_some_iff.1 PA0.out).1; omega
          have HO : Hid (OwnW v6 21 V2.heap.size A8 n c8 t8.mem) := HO0.up Q0.out.size
          rw [if_neg (by have := HA.out; have := HB.out; omega)] at hrun
          have HRUN := Lib.hid hrun
          clear HO0 ho hrun
          clear hb
          go_wp2_with fail
          refine ⟨fun _ => Q.out, ?_⟩
          iterate 4 (refine tr_pure (v := ?_) rfl (by rfl) ?_ ?_; rotate_left; (focus (intro u hC;  go_simp; try with_reducible rfl)); try go_simp)
          refine tr_eff rfl ?_
          intro J hJ
          obtain ⟨p0, p1, p2, f0, f1, f2⟩ := full3f PA.out
          go_wp2_with fail
          clear p0 p1 p2 f0 f1 f2
          refine ⟨fun _ => bel3M Q.out PZ _ _ _, ?_⟩
          iterate 2 (refine tr_pure (v := ?_) rfl (by rfl) ?_ ?_; rotate_left; (focus (intro u hC;  go_simp; try with_reducible rfl)); try go_simp)
          refine tr_nil (hJ0 _ _ ?_)
          go_wp2_with fail
          go_meet
          have k1 := HO.out.far (grownSetM (b := p) (j := 0) (.int .i64 t8.pc)) (fun g e r' h => by injection e with e; subst e; exact HNE.out r' h)
          have k2 := k1.far (grownSetM (b := p) (j := 1) (.slice A8 n c8)) (fun g e r' h => by injection e with e; subst e; exact HNE.out r' h)
          have k3 := k2.far (grownSetM (b := p) (j := 2) (.int .i64 t8.halt)) (fun g e r' h => by injection e with e; subst e; exact HNE.out r' h)
          exact ⟨p, A8, c8, t8, k8, o8, rfl, rfl, rfl, set3M PA.out _ _ _, k3.rd, HRUN.out, bel3M Q.out PZ _ _ _⟩
      · intro J hJ
        go_wp2_with fail
        refine ⟨fun _ => ext_trans Q.out (ext_alloc _ _), ?_⟩
        obtain ⟨v7, hu⟩ : ∃ u, u = World.alloc v1 (.cells #[.int .i64 0, .slice none 0 0, .int .i64 0] 30) := ⟨_, rfl⟩
        rw [← hu]
        obtain ⟨p, hp⟩ : ∃ p, p = (v1).heap.size := ⟨_, rfl⟩
        have hpd : (v1).heap.size = p := hp.symm
        rw [hpd]
        have PA : Hid (v7.heap[p]? = some (.cells #[.int .i64 0, .slice none 0 0, .int .i64 0] 30 (0, 0))) := by rw [hu, hp]; exact Go.heap_alloc_new _ _
        have PZ : V2.heap.size ≤ p := by rw [hp]; exact Q.out.size
        have hb : Below (v1).heap.size v1 v7 := by rw [hu]; exact ext_alloc _ _
        have PS : Hid ((v1).heap.size = p) := hpd
        replace RC7 := Lib.hid (RC7.out.ext hb)
        replace Q : Hid (Below V2.heap.size V2 v7) := ext_trans Q.out hb
        clear hu hp hpd hb
        refine tr_eff rfl ?_
        intro J hJ
        go_wp2_with fail
        refine (own_c _ pc A n c halt m (Lib.hid (RS.out.ext Q.out)) (by have := F2.out; omega)).mono ?_
        rintro e v8 ⟨A6, c6, rfl, ho6, hb⟩
        have RX6 : Hid (RdW v8 A6 n c6 m) := ho6.rd
        clear ho6
        replace RC7 := Lib.hid (RC7.out.ext hb)
        replace PA := Lib.hid (keepG hb PA.out)
        replace Q : Hid (Below V2.heap.size V2 v8) := ext_trans Q.out hb
        clear hb
        go_wp2_with fail
        refine ⟨fun _ => Q.out, ?_⟩
        refine tr_eff rfl ?_
        intro J hJ
        go_wp2_with fail
        have PA0 := PA
        have Q0 := Q
        refine (run_c _ (Lib.hid (HF.out.ext Q.out)) A7 cn d7 l RC7 pc A6 n c6 halt m (RX6) HSI (by have := F2.out; omega) (a + b) (by have := HA.out; have := HB.out; omega) (by have := HA.out; have := HB.out; omega)).mono ?_
        rintro e v9 ⟨t8, k8, o8, A8, c8, rfl, hrun, _, ho, hb⟩
        replace RC7 := Lib.hid (RC7.out.ext hb)
        replace PA := Lib.hid (keepG hb PA.out)
        replace RX6 := Lib.hid (RX6.out.ext hb)
        replace Q : Hid (Below V2.heap.size V2 v9) := ext_trans Q.out hb
        have HO0 : OwnW v9 21 (v8).heap.size A8 n c8 t8.mem := ho
        have HNE : Hid (∀ r, A8 = some r → r.block ≠ p) := fun r hr => by have := (HO0.addr hr).1; have hpl := (Array.getElem?_eq_some_iff.1 PA0.out).1; omega
        have HO : Hid (OwnW v9 21 V2.heap.size A8 n c8 t8.mem) := HO0.up Q0.out.size
        rw [if_neg (by have := HA.out; have := HB.out; omega)] at hrun
        have HRUN := Lib.hid hrun
        clear HO0 ho hrun
        clear hb
        go_wp2_with fail
        refine ⟨fun _ => Q.out, ?_⟩
        iterate 4 (refine tr_pure (v := ?_) rfl (by rfl) ?_ ?_; rotate_left; (focus (intro u hC;  go_simp; try with_reducible rfl)); try go_simp)
        refine tr_eff rfl ?_
        intro J hJ
        obtain ⟨p0, p1, p2, f0, f1, f2⟩ := full3f PA.out
        go_wp2_with fail
        clear p0 p1 p2 f0 f1 f2
        refine ⟨fun _ => bel3M Q.out PZ _ _ _, ?_⟩
        iterate 2 (refine tr_pure (v := ?_) rfl (by rfl) ?_ ?_; rotate_left; (focus (intro u hC;  go_simp; try with_reducible rfl)); try go_simp)
        refine tr_nil (hJ0 _ _ ?_)
        go_wp2_with fail
        go_meet
        have k1 := HO.out.far (grownSetM (b := p) (j := 0) (.int .i64 t8.pc)) (fun g e r' h => by injection e with e; subst e; exact HNE.out r' h)
        have k2 := k1.far (grownSetM (b := p) (j := 1) (.slice A8 n c8)) (fun g e r' h => by injection e with e; subst e; exact HNE.out r' h)
        have k3 := k2.far (grownSetM (b := p) (j := 2) (.int .i64 t8.halt)) (fun g e r' h => by injection e with e; subst e; exact HNE.out r' h)
        exact ⟨p, A8, c8, t8, k8, o8, rfl, rfl, rfl, set3M PA.out _ _ _, k3.rd, HRUN.out, bel3M Q.out PZ _ _ _⟩
    · intro J hJ
      go_wp2_with fail
      refine ⟨fun _ => ext_trans Q.out (ext_alloc _ _), ?_⟩
      obtain ⟨v10, hu⟩ : ∃ u, u = World.alloc v0 (.cells #[.int .i64 0, .slice none 0 0, .int .i64 0] 30) := ⟨_, rfl⟩
      rw [← hu]
      obtain ⟨p, hp⟩ : ∃ p, p = (v0).heap.size := ⟨_, rfl⟩
      have hpd : (v0).heap.size = p := hp.symm
      rw [hpd]
      have PA : Hid (v10.heap[p]? = some (.cells #[.int .i64 0, .slice none 0 0, .int .i64 0] 30 (0, 0))) := by rw [hu, hp]; exact Go.heap_alloc_new _ _
      have PZ : V2.heap.size ≤ p := by rw [hp]; exact Q.out.size
      have hb : Below (v0).heap.size v0 v10 := by rw [hu]; exact ext_alloc _ _
      have PS : Hid ((v0).heap.size = p) := hpd
      replace Q : Hid (Below V2.heap.size V2 v10) := ext_trans Q.out hb
      clear hu hp hpd hb
      refine tr_eff rfl ?_
      intro J hJ
      go_wp2_with fail
      refine (ownCode_c _ CA cn cd l (Lib.hid (RC.out.ext Q.out)) (by have := F1.out; omega)).mono ?_
      rintro e v11 ⟨A7, d7, rfl, hR, hb⟩
      rw [HCL.out] at hR ⊢
      have RC7 := Lib.hid hR
      clear hR
      replace PA := Lib.hid (keepG hb PA.out)
      replace Q : Hid (Below V2.heap.size V2 v11) := ext_trans Q.out hb
      clear hb
      go_wp2_with fail
      refine ⟨fun _ => Q.out, ?_⟩
      refine tr_eff rfl ?_
      intro J hJ
      go_wp2_with fail
      refine (own_c _ pc A n c halt m (Lib.hid (RS.out.ext Q.out)) (by have := F2.out; omega)).mono ?_
      rintro e v12 ⟨A6, c6, rfl, ho6, hb⟩
      have RX6 : Hid (RdW v12 A6 n c6 m) := ho6.rd
      clear ho6
      replace PA := Lib.hid (keepG hb PA.out)
      replace RC7 := Lib.hid (RC7.out.ext hb)
      replace Q : Hid (Below V2.heap.size V2 v12) := ext_trans Q.out hb
      clear hb
      go_wp2_with fail
      refine ⟨fun _ => Q.out, ?_⟩
      refine tr_eff rfl ?_
      intro J hJ
      go_wp2_with fail
      have PA0 := PA
      have Q0 := Q
      refine (run_c _ (Lib.hid (HF.out.ext Q.out)) A7 cn d7 l RC7 pc A6 n c6 halt m (RX6) HSI (by have := F2.out; omega) (a + b) (by have := HA.out; have := HB.out; omega) (by have := HA.out; have := HB.out; omega)).mono ?_
      rintro e v13 ⟨t8, k8, o8, A8, c8, rfl, hrun, _, ho, hb⟩
      replace PA := Lib.hid (keepG hb PA.out)
      replace RC7 := Lib.hid (RC7.out.ext hb)
      replace RX6 := Lib.hid (RX6.out.ext hb)
      replace Q : Hid (Below V2.heap.size V2 v13) := ext_trans Q.out hb
      have HO0 : OwnW v13 21 (v12).heap.size A8 n c8 t8.mem := ho
      have HNE : Hid (∀ r, A8 = some r → r.block ≠ p) := fun r hr => by have := (HO0.addr hr).1; have hpl := (Array.getElem?_eq_some_iff.1 PA0.out).1; omega
      have HO : Hid (OwnW v13 21 V2.heap.size A8 n c8 t8.mem) := HO0.up Q0.out.size
      rw [if_neg (by have := HA.out; have := HB.out; omega)] at hrun
      have HRUN := Lib.hid hrun
      clear HO0 ho hrun
      clear hb
      go_wp2_with fail
      refine ⟨fun _ => Q.out, ?_⟩
      iterate 4 (refine tr_pure (v := ?_) rfl (by rfl) ?_ ?_; rotate_left; (focus (intro u hC;  go_simp; try with_reducible rfl)); try go_simp)
      refine tr_eff rfl ?_
      intro J hJ
      obtain ⟨p0, p1, p2, f0, f1, f2⟩ := full3f PA.out
      go_wp2_with fail
      clear p0 p1 p2 f0 f1 f2
      refine ⟨fun _ => bel3M Q.out PZ _ _ _, ?_⟩
      iterate 2 (refine tr_pure (v := ?_) rfl (by rfl) ?_ ?_; rotate_left; (focus (intro u hC;  go_simp; try with_reducible rfl)); try go_simp)
      refine tr_nil (hJ0 _ _ ?_)
      go_wp2_with fail
      go_meet
      have k1 := HO.out.far (grownSetM (b := p) (j := 0) (.int .i64 t8.pc)) (fun g e r' h => by injection e with e; subst e; exact HNE.out r' h)
      have k2 := k1.far (grownSetM (b := p) (j := 1) (.slice A8 n c8)) (fun g e r' h => by injection e with e; subst e; exact HNE.out r' h)
      have k3 := k2.far (grownSetM (b := p) (j := 2) (.int .i64 t8.halt)) (fun g e r' h => by injection e with e; subst e; exact HNE.out r' h)
      exact ⟨p, A8, c8, t8, k8, o8, rfl, rfl, rfl, set3M PA.out _ _ _, k3.rd, HRUN.out, bel3M Q.out PZ _ _ _⟩
  case rest =>
  obtain ⟨p3, A3, c3, t3, k3, o3, rfl, rfl, rfl, hP, hR, hI, hb⟩ := hcut
  rename World => V3
  have P3 := Lib.hid hP
  have R3 := Lib.hid hR
  have I3 := Lib.hid hI
  clear hP hR hI
  replace C4 := Lib.hid (keepG hb C4.out)
  replace B := Lib.hid (ext_trans B.out hb)
  replace RC := Lib.hid (RC.out.ext hb)
  replace RS := Lib.hid (RS.out.ext hb)
  replace HF := Lib.hid (HF.out.ext hb)
  replace P2 := Lib.hid (keepG hb P2.out)
  replace R2 := Lib.hid (R2.out.ext hb)
  clear hb
  obtain ⟨e23, ek, eo⟩ := rests_join (by omega) (by omega) HRT.out I1.out I2.out I3.out
  have n1 := I1.out.few (by omega)
  have n2 := I2.out.few (by omega)
  have HK := Lib.hid ek
  have N1 : Hid ((k1 : Int) ≤ 100) := by have := HA.out; show _ ≤ _; omega
  have N2 : Hid ((k2 : Int) ≤ 100) := by have := HB.out; show _ ≤ _; omega
  obtain rfl : t2 = t3 := e23
  obtain rfl : o2 = o3 := eo
  have HI2 : Hid (∀ x ∈ t2.mem, In32 x) := I3.out.in_ HSI.out
  have hsum : ((k1 : Int) + (k2 : Int) != (k3 : Int)) = false := by rw [bne_eq_false_iff_eq]; omega
  have hsumN : (k1 + k2 != k3) = false := by rw [bne_eq_false_iff_eq]; omega
  have hk1 := N1.out
  have hk2 := N2.out
  clear ek I1 I2 P1 R1 HI1 n1 n2
  obtain ⟨x0, x1, x2⟩ := full3i P2.out
  obtain ⟨y0, y1, y2⟩ := full3i P3.out
  go_wp2_with fail
  refine (same_s _ t2.pc A2 n c2 t2.halt t2.mem R2 t2.pc A3 n c3 t2.halt t2.mem R3).mono ?_
  rw [sameM_self]
  rintro e V4 ⟨rfl, hb⟩
  replace C4 := Lib.hid (keepG hb C4.out)
  replace B := Lib.hid (ext_trans B.out hb)
  replace RC := Lib.hid (RC.out.ext hb)
  replace RS := Lib.hid (RS.out.ext hb)
  replace HF := Lib.hid (HF.out.ext hb)
  replace P3 := Lib.hid (keepG hb P3.out)
  replace R3 := Lib.hid (R3.out.ext hb)
  clear hb x0 x1 x2 y0 y1 y2 P2 R2
  cases o2 with
  | false =>
    have hk3 : ((k3 : Int) == (a : Int) + (b : Int)) = true := by rw [beq_iff_eq]; exact rests_on (by omega) HRT.out I3.out
    have hk3N : (k3 == a + b) = true := by rw [beq_iff_eq]; have := rests_on (by omega) HRT.out I3.out; omega
    have ha := HA.out
    have hb := HB.out
    have haI : (a : Int) < 100 := by omega
    have hbI : (b : Int) < 100 := by omega
    clear ha hb
    go_wp2_with fail
    refine (told_c _ HF).mono ?_
    rintro e v9 ⟨rfl, hb2⟩
    go_wp2_with fail
    go_ret
    exact ⟨rfl, ext_trans B.out hb2⟩
  | true =>
    skip
    go_upto_region 10 with fail
    clear hsum hsumN hk1 hk2
    refine wp_region_tr (fin := 99) (fun u => Below V4.heap.size V4 u) (.pure 0 (.pure 2 (.two 1 (.two 3 (.pure 4 (.pure 5 (.pure 6 (.pure 7 (.eff 8 (.eff 9 (.pure 10 (.pure 11 .nil)))))))) 8 (.eff 3 (.pure 4 (.pure 5 (.pure 6 (.pure 7 (.eff 9 (.pure 10 (.pure 11 .nil))))))))) 8 (.eff 1 (.eff 3 (.pure 4 (.pure 5 (.pure 6 (.pure 7 (.eff 9 (.pure 10 (.pure 11 .nil)))))))))))) (by kernel_rfl) (by kernel_rfl) (by kernel_rfl) (fun _ _ d _ _ h => by cases d <;> exact h) (ext_drew V4) ?_
    intro J0 hJ0
    iterate 2 (refine tr_pure (v := ?_) rfl (by rfl) ?_ ?_; rotate_left; (focus (intro u hC; obtain ⟨x0, x1, x2⟩ := full3i (keepG hC P3.out); go_simp; try with_reducible rfl)); try go_simp)
    have Q : Hid (Below V4.heap.size V4 V4.drew) := ext_drew V4
    generalize V4.drew = v0 at Q ⊢
    refine tr_two rfl rfl ?_ ?_
    · intro J hJ
      go_wp2_with fail
      refine (ownCode_c _ CA cn cd l (Lib.hid (RC.out.ext Q.out)) (by have := F1.out; omega)).mono ?_
      rintro e v1 ⟨A7, d7, rfl, hR, hb⟩
      rw [HCL.out] at hR ⊢
      have RC7 := Lib.hid hR
      clear hR
      replace Q : Hid (Below V4.heap.size V4 v1) := ext_trans Q.out hb
      clear hb
      go_wp2_with fail
      refine ⟨fun _ => Q.out, ?_⟩
      refine tr_two rfl rfl ?_ ?_
      · intro J hJ
        go_wp2_with fail
        have Q0 := Q
        refine (run_c _ (Lib.hid (HF.out.ext Q.out)) A7 cn d7 l RC7 t2.pc A3 n c3 t2.halt t2.mem (Lib.hid (R3.out.ext Q.out)) HI2 (by have := F2.out; omega) 50 (by have := HA.out; have := HB.out; omega) (by have := HA.out; have := HB.out; omega)).mono ?_
        rintro e v2 ⟨t8, k8, o8, A8, c8, rfl, hrun, _, ho, hb⟩
        replace RC7 := Lib.hid (RC7.out.ext hb)
        replace Q : Hid (Below V4.heap.size V4 v2) := ext_trans Q.out hb
        have HO0 : OwnW v2 21 (v1).heap.size A8 n c8 t8.mem := ho
        have HO : Hid (OwnW v2 21 V4.heap.size A8 n c8 t8.mem) := HO0.up Q0.out.size
        rw [if_neg (by have := HA.out; have := HB.out; omega)] at hrun
        have HRUN := Lib.hid hrun
        clear HO0 ho hrun
        clear hb
        go_wp2_with fail
        refine ⟨fun _ => Q.out, ?_⟩
        iterate 4 (refine tr_pure (v := ?_) rfl (by rfl) ?_ ?_; rotate_left; (focus (intro u hC;  go_simp; try with_reducible rfl)); try go_simp)
        refine tr_eff rfl ?_
        intro J hJ
        go_wp2_with fail
        refine ⟨fun _ => ext_trans Q.out (ext_alloc _ _), ?_⟩
        obtain ⟨v3, hu⟩ : ∃ u, u = World.alloc v2 (.cells #[.int .i64 0, .slice none 0 0, .int .i64 0] 30) := ⟨_, rfl⟩
        rw [← hu]
        obtain ⟨p, hp⟩ : ∃ p, p = (v2).heap.size := ⟨_, rfl⟩
        have hpd : (v2).heap.size = p := hp.symm
        rw [hpd]
        have PA : Hid (v3.heap[p]? = some (.cells #[.int .i64 0, .slice none 0 0, .int .i64 0] 30 (0, 0))) := by rw [hu, hp]; exact Go.heap_alloc_new _ _
        have PZ : V4.heap.size ≤ p := by rw [hp]; exact Q.out.size
        have hb : Below (v2).heap.size v2 v3 := by rw [hu]; exact ext_alloc _ _
        have PS : Hid ((v2).heap.size = p) := hpd
        have HNE : Hid (∀ r, A8 = some r → r.block ≠ p) := fun r hr => by have := (HO.out.addr hr).2; have := PS.out; omega
        replace RC7 := Lib.hid (RC7.out.ext hb)
        replace HO := Lib.hid (HO.out.ext hb)
        replace Q : Hid (Below V4.heap.size V4 v3) := ext_trans Q.out hb
        clear hu hp hpd hb
        refine tr_eff rfl ?_
        intro J hJ
        obtain ⟨p0, p1, p2, f0, f1, f2⟩ := full3f PA.out
        go_wp2_with fail
        clear p0 p1 p2 f0 f1 f2
        refine ⟨fun _ => bel3M Q.out PZ _ _ _, ?_⟩
        iterate 2 (refine tr_pure (v := ?_) rfl (by rfl) ?_ ?_; rotate_left; (focus (intro u hC;  go_simp; try with_reducible rfl)); try go_simp)
        refine tr_nil (hJ0 _ _ ?_)
        clear hJ0
        have P4 := Lib.hid (set3M PA.out (.int .i64 t8.pc) (.slice A8 n c8) (.int .i64 t8.halt))
        have k1 := HO.out.far (grownSetM (b := p) (j := 0) (.int .i64 t8.pc)) (fun g e r' h => by injection e with e; subst e; exact HNE.out r' h)
        have k2 := k1.far (grownSetM (b := p) (j := 1) (.slice A8 n c8)) (fun g e r' h => by injection e with e; subst e; exact HNE.out r' h)
        have k3 := k2.far (grownSetM (b := p) (j := 2) (.int .i64 t8.halt)) (fun g e r' h => by injection e with e; subst e; exact HNE.out r' h)
        have R4 := Lib.hid k3.rd
        have I4 := HRUN
        have hb := bel3M Q.out PZ (.int .i64 t8.pc) (.slice A8 n c8) (.int .i64 t8.halt)
        clear k1 k2 k3 HO Q PA HNE HRUN
        generalize World.setCell _ ⟨p, 2, none⟩ (.int .i64 t8.halt) = V5 at P4 R4 hb ⊢
        replace C4 := Lib.hid (keepG hb C4.out)
        replace B := Lib.hid (ext_trans B.out hb)
        replace RC := Lib.hid (RC.out.ext hb)
        replace RS := Lib.hid (RS.out.ext hb)
        replace HF := Lib.hid (HF.out.ext hb)
        replace P3 := Lib.hid (keepG hb P3.out)
        replace R3 := Lib.hid (R3.out.ext hb)
        clear hb
        obtain ⟨e4, ek4, eo4, est⟩ := rests_over HRT.out I3.out I4.out
        obtain rfl : t2 = t8 := e4.symm
        subst eo4
        have HK4 : Hid (((k8 : Int) == 0) = true) := by show _ = _; rw [beq_iff_eq]; omega
        have HK4N : Hid ((k8 == 0) = true) := by show _ = _; rw [beq_iff_eq]; omega
        have HST : Hid (stepV l t2 = t2) := est
        clear I3 I4 ek4 est
        go_upto_region 11 with fail
        refine wp_region_schedC (fun u => Below V5.heap.size V5 u) [(true, 0), (true, 1), (false, 2), (true, 3), (true, 4), (true, 6), (true, 8), (false, 5), (false, 7), (false, 9), (true, 10), (true, 11), (true, 12), (true, 13), (true, 14), (true, 15), (true, 16), (true, 17), (true, 18), (false, 19), (true, 20), (true, 21)] (by kernel_rfl) rfl (by kernel_rfl) (by kernel_rfl) (fun _ _ d _ _ h => by cases d <;> exact h) (ext_drew V5) ?_
        intro J0 hJ0
        have Q : Hid (Below V5.heap.size V5 V5.drew) := ext_drew V5
        iterate 2 (refine schedC_pure (v := ?_) rfl (by rfl) ?_ ?_; rotate_left; (focus (intro u hC; obtain ⟨x0, x1, x2⟩ := full3i (keepG hC P3.out); obtain ⟨y0, y1, y2⟩ := full3i (keepG hC P4.out); have hk4 := HK4.out; have hk4n := HK4N.out; go_simp; try with_reducible rfl)); try go_simp)
        refine schedC_eff rfl ?_
        intro J hJ
        go_wp2_with fail
        refine (same_s _ t2.pc A8 n c8 t2.halt t2.mem (Lib.hid (R4.out.ext Q.out)) t2.pc A3 n c3 t2.halt t2.mem (Lib.hid (R3.out.ext Q.out))).mono ?_
        rw [sameM_self]
        rintro e u ⟨rfl, hb⟩
        replace Q := Lib.hid (ext_trans Q.out hb)
        clear hb
        go_wp2_with fail
        refine ⟨Q.out, ?_⟩
        iterate 4 (refine schedC_pure (v := ?_) rfl (by rfl) ?_ ?_; rotate_left; (focus (intro u hC; obtain ⟨x0, x1, x2⟩ := full3i (keepG hC P3.out); obtain ⟨y0, y1, y2⟩ := full3i (keepG hC P4.out); have hk4 := HK4.out; have hk4n := HK4N.out; go_simp; try with_reducible rfl)); try go_simp)
        refine schedC_eff rfl ?_
        intro J hJ
        go_wp2_with fail
        refine (ownCode_c _ CA cn cd l (Lib.hid (RC.out.ext Q.out)) (by have := F1.out; omega)).mono ?_
        rintro e u ⟨A9, d9, rfl, hR, hb⟩
        replace Q := Lib.hid (ext_trans Q.out hb)
        rw [HCL.out] at hR ⊢
        have RC9 := Lib.hid hR
        clear hR
        clear hb
        go_wp2_with fail
        refine ⟨Q.out, ?_⟩
        refine schedC_eff rfl ?_
        intro J hJ
        go_wp2_with fail
        refine (stepS_c _ (Lib.hid (HF.out.ext Q.out)) A9 cn d9 l RC9 t2.pc A3 n c3 t2.halt t2.mem (Lib.hid (R3.out.ext Q.out)) HI2 (by have := F2.out; omega)).mono ?_
        rintro e u ⟨t9, A9, c9, rfl, ht9, _, ho, hb⟩
        replace Q := Lib.hid (ext_trans Q.out hb)
        obtain rfl : t2 = t9 := (ht9.trans HST.out).symm
        have R9 : Hid (RdW u A9 n c9 t2.mem) := ho.rd
        clear ho RC9 ht9
        clear hb
        go_wp2_with fail
        refine ⟨Q.out, ?_⟩
        refine schedC_eff rfl ?_
        intro J hJ
        go_wp2_with fail
        refine (same_s _ t2.pc A9 n c9 t2.halt t2.mem R9 t2.pc A3 n c3 t2.halt t2.mem (Lib.hid (R3.out.ext Q.out))).mono ?_
        rw [sameM_self]
        rintro e u ⟨rfl, hb⟩
        replace Q := Lib.hid (ext_trans Q.out hb)
        clear R9
        clear hb
        go_wp2_with fail
        refine ⟨Q.out, ?_⟩
        iterate 9 (refine schedC_pure (v := ?_) rfl (by rfl) ?_ ?_; rotate_left; (focus (intro u hC; obtain ⟨x0, x1, x2⟩ := full3i (keepG hC P3.out); obtain ⟨y0, y1, y2⟩ := full3i (keepG hC P4.out); have hk4 := HK4.out; have hk4n := HK4N.out; go_simp; try with_reducible rfl)); try go_simp)
        refine schedC_eff rfl ?_
        intro J hJ
        go_wp2_with fail
        refine (told_c _ (Lib.hid (HF.out.ext Q.out))).mono ?_
        rintro e u ⟨rfl, hb⟩
        replace Q := Lib.hid (ext_trans Q.out hb)
        clear hb
        go_wp2_with fail
        refine ⟨Q.out, ?_⟩
        iterate 2 (refine schedC_pure (v := ?_) rfl (by rfl) ?_ ?_; rotate_left; (focus (intro u hC; obtain ⟨x0, x1, x2⟩ := full3i (keepG hC P3.out); obtain ⟨y0, y1, y2⟩ := full3i (keepG hC P4.out); have hk4 := HK4.out; have hk4n := HK4N.out; go_simp; try with_reducible rfl)); try go_simp)
        refine schedC_nil (hJ0 _ _ ?_)
        clear hJ0
        go_wp2_with fail
        go_ret
        exact ⟨rfl, ext_trans B.out Q.out⟩
      · intro J hJ
        go_wp2_with fail
        refine ⟨fun _ => ext_trans Q.out (ext_alloc _ _), ?_⟩
        obtain ⟨v4, hu⟩ : ∃ u, u = World.alloc v1 (.cells #[.int .i64 0, .slice none 0 0, .int .i64 0] 30) := ⟨_, rfl⟩
        rw [← hu]
        obtain ⟨p, hp⟩ : ∃ p, p = (v1).heap.size := ⟨_, rfl⟩
        have hpd : (v1).heap.size = p := hp.symm
        rw [hpd]
        have PA : Hid (v4.heap[p]? = some (.cells #[.int .i64 0, .slice none 0 0, .int .i64 0] 30 (0, 0))) := by rw [hu, hp]; exact Go.heap_alloc_new _ _
        have PZ : V4.heap.size ≤ p := by rw [hp]; exact Q.out.size
        have hb : Below (v1).heap.size v1 v4 := by rw [hu]; exact ext_alloc _ _
        have PS : Hid ((v1).heap.size = p) := hpd
        replace RC7 := Lib.hid (RC7.out.ext hb)
        replace Q : Hid (Below V4.heap.size V4 v4) := ext_trans Q.out hb
        clear hu hp hpd hb
        refine tr_eff rfl ?_
        intro J hJ
        go_wp2_with fail
        have PA0 := PA
        have Q0 := Q
        refine (run_c _ (Lib.hid (HF.out.ext Q.out)) A7 cn d7 l RC7 t2.pc A3 n c3 t2.halt t2.mem (Lib.hid (R3.out.ext Q.out)) HI2 (by have := F2.out; omega) 50 (by have := HA.out; have := HB.out; omega) (by have := HA.out; have := HB.out; omega)).mono ?_
        rintro e v5 ⟨t8, k8, o8, A8, c8, rfl, hrun, _, ho, hb⟩
        replace RC7 := Lib.hid (RC7.out.ext hb)
        replace PA := Lib.hid (keepG hb PA.out)
        replace Q : Hid (Below V4.heap.size V4 v5) := ext_trans Q.out hb
        have HO0 : OwnW v5 21 (v4).heap.size A8 n c8 t8.mem := ho
        have HNE : Hid (∀ r, A8 = some r → r.block ≠ p) := fun r hr => by have := (HO0.addr hr).1; have hpl := (Array.getElem?_eq_some_iff.1 PA0.out).1; omega
        have HO : Hid (OwnW v5 21 V4.heap.size A8 n c8 t8.mem) := HO0.up Q0.out.size
        rw [if_neg (by have := HA.out; have := HB.out; omega)] at hrun
        have HRUN := Lib.hid hrun
        clear HO0 ho hrun
        clear hb
        go_wp2_with fail
        refine ⟨fun _ => Q.out, ?_⟩
        iterate 4 (refine tr_pure (v := ?_) rfl (by rfl) ?_ ?_; rotate_left; (focus (intro u hC;  go_simp; try with_reducible rfl)); try go_simp)
        refine tr_eff rfl ?_
        intro J hJ
        obtain ⟨p0, p1, p2, f0, f1, f2⟩ := full3f PA.out
        go_wp2_with fail
        clear p0 p1 p2 f0 f1 f2
        refine ⟨fun _ => bel3M Q.out PZ _ _ _, ?_⟩
        iterate 2 (refine tr_pure (v := ?_) rfl (by rfl) ?_ ?_; rotate_left; (focus (intro u hC;  go_simp; try with_reducible rfl)); try go_simp)
        refine tr_nil (hJ0 _ _ ?_)
        clear hJ0
        have P4 := Lib.hid (set3M PA.out (.int .i64 t8.pc) (.slice A8 n c8) (.int .i64 t8.halt))
        have k1 := HO.out.far (grownSetM (b := p) (j := 0) (.int .i64 t8.pc)) (fun g e r' h => by injection e with e; subst e; exact HNE.out r' h)
        have k2 := k1.far (grownSetM (b := p) (j := 1) (.slice A8 n c8)) (fun g e r' h => by injection e with e; subst e; exact HNE.out r' h)
        have k3 := k2.far (grownSetM (b := p) (j := 2) (.int .i64 t8.halt)) (fun g e r' h => by injection e with e; subst e; exact HNE.out r' h)
        have R4 := Lib.hid k3.rd
        have I4 := HRUN
        have hb := bel3M Q.out PZ (.int .i64 t8.pc) (.slice A8 n c8) (.int .i64 t8.halt)
        clear k1 k2 k3 HO Q PA HNE HRUN
        generalize World.setCell _ ⟨p, 2, none⟩ (.int .i64 t8.halt) = V5 at P4 R4 hb ⊢
        replace C4 := Lib.hid (keepG hb C4.out)
        replace B := Lib.hid (ext_trans B.out hb)
        replace RC := Lib.hid (RC.out.ext hb)
        replace RS := Lib.hid (RS.out.ext hb)
        replace HF := Lib.hid (HF.out.ext hb)
        replace P3 := Lib.hid (keepG hb P3.out)
        replace R3 := Lib.hid (R3.out.ext hb)
        clear hb
        obtain ⟨e4, ek4, eo4, est⟩ := rests_over HRT.out I3.out I4.out
        obtain rfl : t2 = t8 := e4.symm
        subst eo4
        have HK4 : Hid (((k8 : Int) == 0) = true) := by show _ = _; rw [beq_iff_eq]; omega
        have HK4N : Hid ((k8 == 0) = true) := by show _ = _; rw [beq_iff_eq]; omega
        have HST : Hid (stepV l t2 = t2) := est
        clear I3 I4 ek4 est
        go_upto_region 11 with fail
        refine wp_region_schedC (fun u => Below V5.heap.size V5 u) [(true, 0), (true, 1), (false, 2), (true, 3), (true, 4), (true, 6), (true, 8), (false, 5), (false, 7), (false, 9), (true, 10), (true, 11), (true, 12), (true, 13), (true, 14), (true, 15), (true, 16), (true, 17), (true, 18), (false, 19), (true, 20), (true, 21)] (by kernel_rfl) rfl (by kernel_rfl) (by kernel_rfl) (fun _ _ d _ _ h => by cases d <;> exact h) (ext_drew V5) ?_
        intro J0 hJ0
        have Q : Hid (Below V5.heap.size V5 V5.drew) := ext_drew V5
        iterate 2 (refine schedC_pure (v := ?_) rfl (by rfl) ?_ ?_; rotate_left; (focus (intro u hC; obtain ⟨x0, x1, x2⟩ := full3i (keepG hC P3.out); obtain ⟨y0, y1, y2⟩ := full3i (keepG hC P4.out); have hk4 := HK4.out; have hk4n := HK4N.out; go_simp; try with_reducible rfl)); try go_simp)
        refine schedC_eff rfl ?_
        intro J hJ
        go_wp2_with fail
        refine (same_s _ t2.pc A8 n c8 t2.halt t2.mem (Lib.hid (R4.out.ext Q.out)) t2.pc A3 n c3 t2.halt t2.mem (Lib.hid (R3.out.ext Q.out))).mono ?_
        rw [sameM_self]
        rintro e u ⟨rfl, hb⟩
        replace Q := Lib.hid (ext_trans Q.out hb)
        clear hb
        go_wp2_with fail
        refine ⟨Q.out, ?_⟩
        iterate 4 (refine schedC_pure (v := ?_) rfl (by rfl) ?_ ?_; rotate_left; (focus (intro u hC; obtain ⟨x0, x1, x2⟩ := full3i (keepG hC P3.out); obtain ⟨y0, y1, y2⟩ := full3i (keepG hC P4.out); have hk4 := HK4.out; have hk4n := HK4N.out; go_simp; try with_reducible rfl)); try go_simp)
        refine schedC_eff rfl ?_
        intro J hJ
        go_wp2_with fail
        refine (ownCode_c _ CA cn cd l (Lib.hid (RC.out.ext Q.out)) (by have := F1.out; omega)).mono ?_
        rintro e u ⟨A9, d9, rfl, hR, hb⟩
        replace Q := Lib.hid (ext_trans Q.out hb)
        rw [HCL.out] at hR ⊢
        have RC9 := Lib.hid hR
        clear hR
        clear hb
        go_wp2_with fail
        refine ⟨Q.out, ?_⟩
        refine schedC_eff rfl ?_
        intro J hJ
        go_wp2_with fail
        refine (stepS_c _ (Lib.hid (HF.out.ext Q.out)) A9 cn d9 l RC9 t2.pc A3 n c3 t2.halt t2.mem (Lib.hid (R3.out.ext Q.out)) HI2 (by have := F2.out; omega)).mono ?_
        rintro e u ⟨t9, A9, c9, rfl, ht9, _, ho, hb⟩
        replace Q := Lib.hid (ext_trans Q.out hb)
        obtain rfl : t2 = t9 := (ht9.trans HST.out).symm
        have R9 : Hid (RdW u A9 n c9 t2.mem) := ho.rd
        clear ho RC9 ht9
        clear hb
        go_wp2_with fail
        refine ⟨Q.out, ?_⟩
        refine schedC_eff rfl ?_
        intro J hJ
        go_wp2_with fail
        refine (same_s _ t2.pc A9 n c9 t2.halt t2.mem R9 t2.pc A3 n c3 t2.halt t2.mem (Lib.hid (R3.out.ext Q.out))).mono ?_
        rw [sameM_self]
        rintro e u ⟨rfl, hb⟩
        replace Q := Lib.hid (ext_trans Q.out hb)
        clear R9
        clear hb
        go_wp2_with fail
        refine ⟨Q.out, ?_⟩
        iterate 9 (refine schedC_pure (v := ?_) rfl (by rfl) ?_ ?_; rotate_left; (focus (intro u hC; obtain ⟨x0, x1, x2⟩ := full3i (keepG hC P3.out); obtain ⟨y0, y1, y2⟩ := full3i (keepG hC P4.out); have hk4 := HK4.out; have hk4n := HK4N.out; go_simp; try with_reducible rfl)); try go_simp)
        refine schedC_eff rfl ?_
        intro J hJ
        go_wp2_with fail
        refine (told_c _ (Lib.hid (HF.out.ext Q.out))).mono ?_
        rintro e u ⟨rfl, hb⟩
        replace Q := Lib.hid (ext_trans Q.out hb)
        clear hb
        go_wp2_with fail
        refine ⟨Q.out, ?_⟩
        iterate 2 (refine schedC_pure (v := ?_) rfl (by rfl) ?_ ?_; rotate_left; (focus (intro u hC; obtain ⟨x0, x1, x2⟩ := full3i (keepG hC P3.out); obtain ⟨y0, y1, y2⟩ := full3i (keepG hC P4.out); have hk4 := HK4.out; have hk4n := HK4N.out; go_simp; try with_reducible rfl)); try go_simp)
        refine schedC_nil (hJ0 _ _ ?_)
        clear hJ0
        go_wp2_with fail
        go_ret
        exact ⟨rfl, ext_trans B.out Q.out⟩
    · intro J hJ
      go_wp2_with fail
      refine ⟨fun _ => ext_trans Q.out (ext_alloc _ _), ?_⟩
      obtain ⟨v6, hu⟩ : ∃ u, u = World.alloc v0 (.cells #[.int .i64 0, .slice none 0 0, .int .i64 0] 30) := ⟨_, rfl⟩
      rw [← hu]
      obtain ⟨p, hp⟩ : ∃ p, p = (v0).heap.size := ⟨_, rfl⟩
      have hpd : (v0).heap.size = p := hp.symm
      rw [hpd]
      have PA : Hid (v6.heap[p]? = some (.cells #[.int .i64 0, .slice none 0 0, .int .i64 0] 30 (0, 0))) := by rw [hu, hp]; exact Go.heap_alloc_new _ _
      have PZ : V4.heap.size ≤ p := by rw [hp]; exact Q.out.size
      have hb : Below (v0).heap.size v0 v6 := by rw [hu]; exact ext_alloc _ _
      have PS : Hid ((v0).heap.size = p) := hpd
      replace Q : Hid (Below V4.heap.size V4 v6) := ext_trans Q.out hb
      clear hu hp hpd hb
      refine tr_eff rfl ?_
      intro J hJ
      go_wp2_with fail
      refine (ownCode_c _ CA cn cd l (Lib.hid (RC.out.ext Q.out)) (by have := F1.out; omega)).mono ?_
      rintro e v7 ⟨A7, d7, rfl, hR, hb⟩
      rw [HCL.out] at hR ⊢
      have RC7 := Lib.hid hR
      clear hR
      replace PA := Lib.hid (keepG hb PA.out)
      replace Q : Hid (Below V4.heap.size V4 v7) := ext_trans Q.out hb
      clear hb
      go_wp2_with fail
      refine ⟨fun _ => Q.out, ?_⟩
      refine tr_eff rfl ?_
      intro J hJ
      go_wp2_with fail
      have PA0 := PA
      have Q0 := Q
      refine (run_c _ (Lib.hid (HF.out.ext Q.out)) A7 cn d7 l RC7 t2.pc A3 n c3 t2.halt t2.mem (Lib.hid (R3.out.ext Q.out)) HI2 (by have := F2.out; omega) 50 (by have := HA.out; have := HB.out; omega) (by have := HA.out; have := HB.out; omega)).mono ?_
      rintro e v8 ⟨t8, k8, o8, A8, c8, rfl, hrun, _, ho, hb⟩
      replace PA := Lib.hid (keepG hb PA.out)
      replace RC7 := Lib.hid (RC7.out.ext hb)
      replace Q : Hid (Below V4.heap.size V4 v8) := ext_trans Q.out hb
      have HO0 : OwnW v8 21 (v7).heap.size A8 n c8 t8.mem := ho
      have HNE : Hid (∀ r, A8 = some r → r.block ≠ p) := fun r hr => by have := (HO0.addr hr).1; have hpl := (Array.getElem?_eq_some_iff.1 PA0.out).1; omega
      have HO : Hid (OwnW v8 21 V4.heap.size A8 n c8 t8.mem) := HO0.up Q0.out.size
      rw [if_neg (by have := HA.out; have := HB.out; omega)] at hrun
      have HRUN := Lib.hid hrun
      clear HO0 ho hrun
      clear hb
      go_wp2_with fail
      refine ⟨fun _ => Q.out, ?_⟩
      iterate 4 (refine tr_pure (v := ?_) rfl (by rfl) ?_ ?_; rotate_left; (focus (intro u hC;  go_simp; try with_reducible rfl)); try go_simp)
      refine tr_eff rfl ?_
      intro J hJ
      obtain ⟨p0, p1, p2, f0, f1, f2⟩ := full3f PA.out
      go_wp2_with fail
      clear p0 p1 p2 f0 f1 f2
      refine ⟨fun _ => bel3M Q.out PZ _ _ _, ?_⟩
      iterate 2 (refine tr_pure (v := ?_) rfl (by rfl) ?_ ?_; rotate_left; (focus (intro u hC;  go_simp; try with_reducible rfl)); try go_simp)
      refine tr_nil (hJ0 _ _ ?_)
      clear hJ0
      have P4 := Lib.hid (set3M PA.out (.int .i64 t8.pc) (.slice A8 n c8) (.int .i64 t8.halt))
      have k1 := HO.out.far (grownSetM (b := p) (j := 0) (.int .i64 t8.pc)) (fun g e r' h => by injection e with e; subst e; exact HNE.out r' h)
      have k2 := k1.far (grownSetM (b := p) (j := 1) (.slice A8 n c8)) (fun g e r' h => by injection e with e; subst e; exact HNE.out r' h)
      have k3 := k2.far (grownSetM (b := p) (j := 2) (.int .i64 t8.halt)) (fun g e r' h => by injection e with e; subst e; exact HNE.out r' h)
      have R4 := Lib.hid k3.rd
      have I4 := HRUN
      have hb := bel3M Q.out PZ (.int .i64 t8.pc) (.slice A8 n c8) (.int .i64 t8.halt)
      clear k1 k2 k3 HO Q PA HNE HRUN
      generalize World.setCell _ ⟨p, 2, none⟩ (.int .i64 t8.halt) = V5 at P4 R4 hb ⊢
      replace C4 := Lib.hid (keepG hb C4.out)
      replace B := Lib.hid (ext_trans B.out hb)
      replace RC := Lib.hid (RC.out.ext hb)
      replace RS := Lib.hid (RS.out.ext hb)
      replace HF := Lib.hid (HF.out.ext hb)
      replace P3 := Lib.hid (keepG hb P3.out)
      replace R3 := Lib.hid (R3.out.ext hb)
      clear hb
      obtain ⟨e4, ek4, eo4, est⟩ := rests_over HRT.out I3.out I4.out
      obtain rfl : t2 = t8 := e4.symm
      subst eo4
      have HK4 : Hid (((k8 : Int) == 0) = true) := by show _ = _; rw [beq_iff_eq]; omega
      have HK4N : Hid ((k8 == 0) = true) := by show _ = _; rw [beq_iff_eq]; omega
      have HST : Hid (stepV l t2 = t2) := est
      clear I3 I4 ek4 est
      go_upto_region 11 with fail
      refine wp_region_schedC (fun u => Below V5.heap.size V5 u) [(true, 0), (true, 1), (false, 2), (true, 3), (true, 4), (true, 6), (true, 8), (false, 5), (false, 7), (false, 9), (true, 10), (true, 11), (true, 12), (true, 13), (true, 14), (true, 15), (true, 16), (true, 17), (true, 18), (false, 19), (true, 20), (true, 21)] (by kernel_rfl) rfl (by kernel_rfl) (by kernel_rfl) (fun _ _ d _ _ h => by cases d <;> exact h) (ext_drew V5) ?_
      intro J0 hJ0
      have Q : Hid (Below V5.heap.size V5 V5.drew) := ext_drew V5
      iterate 2 (refine schedC_pure (v := ?_) rfl (by rfl) ?_ ?_; rotate_left; (focus (intro u hC; obtain ⟨x0, x1, x2⟩ := full3i (keepG hC P3.out); obtain ⟨y0, y1, y2⟩ := full3i (keepG hC P4.out); have hk4 := HK4.out; have hk4n := HK4N.out; go_simp; try with_reducible rfl)); try go_simp)
      refine schedC_eff rfl ?_
      intro J hJ
      go_wp2_with fail
      refine (same_s _ t2.pc A8 n c8 t2.halt t2.mem (Lib.hid (R4.out.ext Q.out)) t2.pc A3 n c3 t2.halt t2.mem (Lib.hid (R3.out.ext Q.out))).mono ?_
      rw [sameM_self]
      rintro e u ⟨rfl, hb⟩
      replace Q := Lib.hid (ext_trans Q.out hb)
      clear hb
      go_wp2_with fail
      refine ⟨Q.out, ?_⟩
      iterate 4 (refine schedC_pure (v := ?_) rfl (by rfl) ?_ ?_; rotate_left; (focus (intro u hC; obtain ⟨x0, x1, x2⟩ := full3i (keepG hC P3.out); obtain ⟨y0, y1, y2⟩ := full3i (keepG hC P4.out); have hk4 := HK4.out; have hk4n := HK4N.out; go_simp; try with_reducible rfl)); try go_simp)
      refine schedC_eff rfl ?_
      intro J hJ
      go_wp2_with fail
      refine (ownCode_c _ CA cn cd l (Lib.hid (RC.out.ext Q.out)) (by have := F1.out; omega)).mono ?_
      rintro e u ⟨A9, d9, rfl, hR, hb⟩
      replace Q := Lib.hid (ext_trans Q.out hb)
      rw [HCL.out] at hR ⊢
      have RC9 := Lib.hid hR
      clear hR
      clear hb
      go_wp2_with fail
      refine ⟨Q.out, ?_⟩
      refine schedC_eff rfl ?_
      intro J hJ
      go_wp2_with fail
      refine (stepS_c _ (Lib.hid (HF.out.ext Q.out)) A9 cn d9 l RC9 t2.pc A3 n c3 t2.halt t2.mem (Lib.hid (R3.out.ext Q.out)) HI2 (by have := F2.out; omega)).mono ?_
      rintro e u ⟨t9, A9, c9, rfl, ht9, _, ho, hb⟩
      replace Q := Lib.hid (ext_trans Q.out hb)
      obtain rfl : t2 = t9 := (ht9.trans HST.out).symm
      have R9 : Hid (RdW u A9 n c9 t2.mem) := ho.rd
      clear ho RC9 ht9
      clear hb
      go_wp2_with fail
      refine ⟨Q.out, ?_⟩
      refine schedC_eff rfl ?_
      intro J hJ
      go_wp2_with fail
      refine (same_s _ t2.pc A9 n c9 t2.halt t2.mem R9 t2.pc A3 n c3 t2.halt t2.mem (Lib.hid (R3.out.ext Q.out))).mono ?_
      rw [sameM_self]
      rintro e u ⟨rfl, hb⟩
      replace Q := Lib.hid (ext_trans Q.out hb)
      clear R9
      clear hb
      go_wp2_with fail
      refine ⟨Q.out, ?_⟩
      iterate 9 (refine schedC_pure (v := ?_) rfl (by rfl) ?_ ?_; rotate_left; (focus (intro u hC; obtain ⟨x0, x1, x2⟩ := full3i (keepG hC P3.out); obtain ⟨y0, y1, y2⟩ := full3i (keepG hC P4.out); have hk4 := HK4.out; have hk4n := HK4N.out; go_simp; try with_reducible rfl)); try go_simp)
      refine schedC_eff rfl ?_
      intro J hJ
      go_wp2_with fail
      refine (told_c _ (Lib.hid (HF.out.ext Q.out))).mono ?_
      rintro e u ⟨rfl, hb⟩
      replace Q := Lib.hid (ext_trans Q.out hb)
      clear hb
      go_wp2_with fail
      refine ⟨Q.out, ?_⟩
      iterate 2 (refine schedC_pure (v := ?_) rfl (by rfl) ?_ ?_; rotate_left; (focus (intro u hC; obtain ⟨x0, x1, x2⟩ := full3i (keepG hC P3.out); obtain ⟨y0, y1, y2⟩ := full3i (keepG hC P4.out); have hk4 := HK4.out; have hk4n := HK4N.out; go_simp; try with_reducible rfl)); try go_simp)
      refine schedC_nil (hJ0 _ _ ?_)
      clear hJ0
      go_wp2_with fail
      go_ret
      exact ⟨rfl, ext_trans B.out Q.out⟩
#print axioms walkMachineRests
end Go.Proofs.YtbeileihbhooaaaDoor
