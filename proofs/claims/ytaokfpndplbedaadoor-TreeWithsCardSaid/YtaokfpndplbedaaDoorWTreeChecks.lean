/-
  TreeChecks: the walk.
-/
import Derived.Test.YtaokfpndplbedaaDoorTUni
import Derived.Test.YtaokfpndplbedaaDoorTRef3
import Derived.Test.YtaokfpndplbedaaDoorSchedT
namespace Go.Proofs.YtaokfpndplbedaaDoor
open Go.ChangeShapes Go.WideShapes Go.ChangeAt Go.RowKit Go.Deep

set_option maxRecDepth 100000 in
theorem open_u16 {H : Type} {enc : TypeId × Value → H} {t : TypeId} (ht : Tryd.prog.underlying t = some (.int .u16)) {W : World} {base : Nat} {v : Value} {d : DataW H} {p : List MemPlace}
    (hv : Value.okWide Tryd.prog W .any base t v) (h : DataW.Trod enc Tryd.prog W 0 (fun _ => true) true t v d p) : ∃ m : Nat, v = .int .u16 m ∧ m < 65536 := by
  obtain ⟨k, rfl, rfl, rfl, hw⟩ := open_int ht hv h
  simp [Lit.wf, IntKind.min, IntKind.max, IntKind.signed, IntKind.bits] at hw
  exact ⟨k.toNat, by congr 1; omega, by omega⟩
theorem schedC_skip2 {P : Program} {ops : Array Oper} {C : World → Prop} {K : Act → World → Prop} {i : Nat} {s : List (Bool × Nat)} {o : Oper} {a : Act} {w : World} (hi : ops[i]? = some o) (hw : Region.wanted o (yielded ops a.tmps) = false)
    (h : wpSchedC P ops C K s (a.put o.dst undef) w) : wpSchedC P ops C K ((true, i) :: s) a w := ⟨o, undef, hi, .inr ⟨hw, rfl⟩, h⟩
def RWith (y : Nat) (ok : Bool) (w : World) (x1 x2 : Value) (wx : World) : Prop := ∃ g, x1 = .pointer (some ⟨g, 0, none⟩) ∧ x2 = .bool ok ∧ wx.heap[g]? = some (.cells #[.int .u8 (byt y 0), .int .u8 (byt y 1), .int .u8 (byt y 2), .int .u8 (byt y 3), .int .u8 (byt y 4), .int .u8 (byt y 5), .int .u8 (byt y 6), .int .u8 (byt y 7)] 25 (0, 0)) ∧ w.heap.size ≤ g ∧ Below w.heap.size w wx

set_option maxRecDepth 100000 in
set_option maxHeartbeats 8000000 in
theorem walkTreeChecks (w : World) (A : Option Addr) (n c : Nat) (f : Nat → Nat) (i : Int) (k : Nat) (h : RdX w A n c (fun j => .int .u16 (f j))) (hf : ∀ j, j < n → f j < 65536) (_ : -9223372036854775808 ≤ i) (_ : i < 9223372036854775808) (hk : k < 65536) : Calls Tryd.prog 6 #[.slice A n c, .int .i64 i, .int .u16 k] w (Holds w) := by
  obtain ⟨m, hm⟩ : ∃ m, m = min n 70 := ⟨_, rfl⟩
  have m70 : m ≤ 70 := by omega
  obtain ⟨l, hl⟩ : ∃ l, l = leavesN f m := ⟨_, rfl⟩
  have SC := Lib.hid (some_c w A n c f 70 (Lib.hid h) hf (by omega))
  rw [← hm, ← hl] at SC
  clear hm hl h hf
  go_enter Tryd.func6, Tryd.ntmps6
  go_wp2_with fail
  refine SC.out.mono ?_
  rintro e w1 ⟨A1, c1, rfl, hO, hb⟩
  have O := Lib.hid hO
  have HLl := Lib.hid hO.len
  have B := Lib.hid hb
  clear hO hb SC
  by_cases hm0 : m = 0
  · subst hm0
    go_wp2_with fail
    refine (told_c _).mono ?_
    rintro e w7 ⟨rfl, hb⟩
    replace B := Lib.hid (ext_trans B.out hb)
    clear hb
    go_wp2_with fail
    go_ret
    exact ⟨rfl, B.out⟩
  · have gm : ¬ (m : Int) = 0 := by omega
    obtain ⟨a, ha⟩ : ∃ a : Nat, IntKind.u64.wrap i = (a : Int) := ⟨(IntKind.u64.wrap i).toNat, by have := wrap_u64_nonneg i; omega⟩
    obtain ⟨r, hr⟩ : ∃ r, r = a % m := ⟨_, rfl⟩
    have lr : r < m := by rw [hr]; exact Nat.mod_lt _ (by omega)
    have v3 : (a : Int) % (m : Int) = (r : Int) := by rw [hr]; exact (Int.natCast_emod _ _).symm
    have v4 : (a : Int).tmod (m : Int) = (r : Int) := by rw [Int.tmod_eq_emod_of_nonneg (by omega)]; exact v3
    have v5 : IntKind.i64.wrap (r : Int) = (r : Int) := by rw [IntKind.wrap_i64]; omega
    have v2 : IntKind.u64.wrap (m : Int) = (m : Int) := by simp [IntKind.wrap, IntKind.bits, IntKind.signed]; omega
    have v6 : ¬ (m : Int) = 0 := by omega
    clear hr
    obtain ⟨b, rfl, hbW, hb1, hmc⟩ := O.out.block (by omega)
    have HSm : Hid (Small l) := O.out.small
    have RL := Lib.hid O.out.rd
    clear O
    obtain ⟨H, hH⟩ : ∃ H, H = hgt m := ⟨_, rfl⟩
    have HHg := Lib.hid hH
    have H12 : H ≤ 12 := by rw [hH]; exact hgt_le (by omega)
    have HGE : m ≤ 2 ^ H := by rw [hH]; exact hgt_ge m
    obtain ⟨p, hp⟩ : ∃ p, p = pathN l r H := ⟨_, rfl⟩
    have HP := Lib.hid hp
    have HPL : Hid (p.length = H) := by show _ = _; rw [hp]; exact pathN_len _ _ _
    have HPS : Hid (Small p) := by rw [hp]; exact pathN_small HSm.out _ _
    obtain ⟨y, hy⟩ : ∃ y, y = treeN l H := ⟨_, rfl⟩
    have HY := Lib.hid hy
    have ly : y < 18446744073709551616 := by rw [hy]; exact treeN_lt HSm.out _
    obtain ⟨q, hq⟩ : ∃ q, q = l.getD r 0 := ⟨_, rfl⟩
    have HQ := Lib.hid hq
    have lq : q < 18446744073709551616 := by rw [hq]; exact small_getD HSm.out _
    have hr2 : r < 2 ^ H := Nat.lt_of_lt_of_le lr HGE
    have C1 : comes (r : Int) q p = (y, true) := by
      rw [comes_at (H := H) HPL.out H12 hr2, hp, hy, hq]
      rw [with_path (l := l) (i := r) (H := H) (by rw [HLl.out]; exact lr) (by rw [HLl.out]; exact HGE)]
    have Y1 : Hid (((comes (r : Int) q p).2 && decide ((comes (r : Int) q p).1 = y)) = true) := by show _ = _; rw [C1]; simp
    obtain ⟨x, hx⟩ : ∃ x, x = mark 3 k := ⟨_, rfl⟩
    have lx : x < 18446744073709551616 := by rw [hx]; exact mark_lt hk (by omega)
    have HBY := Lib.hid (byt_add hk (show 3 < 256 by omega))
    rw [← hx] at HBY
    obtain ⟨z, hz⟩ : ∃ z, z = withN r x p := ⟨_, rfl⟩
    have lz : z < 18446744073709551616 := by rw [hz]; exact withN_lt lx HPS.out
    have C2 : comes (r : Int) x p = (z, true) := by rw [comes_at (H := H) HPL.out H12 hr2, hz]
    have HC1 : Hid ((comes (r : Int) x p).1 = z) := by show _ = _; rw [C2]
    have HC2 : Hid ((comes (r : Int) x p).2 = true) := by show _ = _; rw [C2]
    obtain ⟨t, ht⟩ : ∃ t : Bool, t = decide (z = y) := ⟨_, rfl⟩
    have HT := Lib.hid ht
    have Y2 : Hid (((comes (r : Int) x p).2 && decide ((comes (r : Int) x p).1 = y)) = t) := by show _ = _; rw [C2, ht]; simp
    have HXQ : Hid (x = q → t = true) := fun e => by
      rw [ht]
      refine decide_eq_true ?_
      have e2 := C2
      rw [e, C1] at e2
      injection e2 with e3 _
      exact e3.symm
    have E1 := eql_r lz ly
    rw [← ht] at E1
    have G1 := guard_r .eql z y
    have E2 := neq_d lx lq
    obtain ⟨tn, htn⟩ : ∃ tn : Bool, tn = !decide (x = q) := ⟨_, rfl⟩
    rw [← htn] at E2
    have HTN : Hid (tn = true ∨ t = true) := by
      by_cases e : x = q
      · exact .inr (HXQ.out e)
      · exact .inl (by rw [htn, decide_eq_false e]; rfl)
    have G2 := guard_d .neq x q
    unfold digV at E1 G1 E2 G2
    have W0 := byt_lt x 1
    have u1 : IntKind.u8.wrap (k : Int) = (byt x 0 : Int) := by have := HBY.out.1; simp [IntKind.wrap, IntKind.bits, IntKind.signed]; omega
    have u2 : (k : Int) / 256 = (byt x 1 : Int) := by have := HBY.out.2.1; omega
    have u3 : (k : Int).tdiv 256 = (byt x 1 : Int) := by rw [Int.tdiv_eq_ediv_of_nonneg (by omega)]; exact u2
    have u4 : IntKind.u16.wrap ((byt x 1 : Nat) : Int) = (byt x 1 : Int) := by simp [IntKind.wrap, IntKind.bits, IntKind.signed]; omega
    have u5 : IntKind.u8.wrap ((byt x 1 : Nat) : Int) = (byt x 1 : Int) := by simp [IntKind.wrap, IntKind.bits, IntKind.signed]; omega
    have HCX : Hid ((#[.int .u8 (byt x 0), .int .u8 (byt x 1), .int .u8 3, .int .u8 0, .int .u8 0, .int .u8 0, .int .u8 0, .int .u8 0] : Array Value) = #[.int .u8 (byt x 0), .int .u8 (byt x 1), .int .u8 (byt x 2), .int .u8 (byt x 3), .int .u8 (byt x 4), .int .u8 (byt x 5), .int .u8 (byt x 6), .int .u8 (byt x 7)]) := by
      obtain ⟨_, _, k2, k3, k4, k5, k6, k7⟩ := HBY.out
      show _ = _
      rw [k2, k3, k4, k5, k6, k7]
      rfl
    clear W0 hp hy hq hH hx hz ht htn C1 C2
    go_wp2_with fail
    refine (root_ok _ b 0 m c1 l RL (by omega) (by omega)).mono ?_
    rw [← HHg.out, ← HY.out]
    unfold digV
    rintro e w2 ⟨rfl, hb⟩
    replace RL := Lib.hid (RL.out.ext hb)
    replace B := Lib.hid (ext_trans B.out hb)
    clear hb
    go_upto_region 6 with fail
    obtain ⟨g, hg⟩ : ∃ g, g = w2.heap.size := ⟨_, rfl⟩
    have DY : Hid ((World.alloc w2 (.cells #[.int .u8 (byt y 0), .int .u8 (byt y 1), .int .u8 (byt y 2), .int .u8 (byt y 3), .int .u8 (byt y 4), .int .u8 (byt y 5), .int .u8 (byt y 6), .int .u8 (byt y 7)] 26)).heap[g]? = some (.cells #[.int .u8 (byt y 0), .int .u8 (byt y 1), .int .u8 (byt y 2), .int .u8 (byt y 3), .int .u8 (byt y 4), .int .u8 (byt y 5), .int .u8 (byt y 6), .int .u8 (byt y 7)] 26 (0, 0))) := by rw [hg]; exact Go.heap_alloc_new w2 _
    replace RL : Hid (RdD (World.alloc w2 (.cells #[.int .u8 (byt y 0), .int .u8 (byt y 1), .int .u8 (byt y 2), .int .u8 (byt y 3), .int .u8 (byt y 4), .int .u8 (byt y 5), .int .u8 (byt y 6), .int .u8 (byt y 7)] 26)) (some ⟨b, 0, none⟩) m c1 l) := RL.out.ext (ext_alloc _ _)
    replace B : Hid (Below w.heap.size w (World.alloc w2 (.cells #[.int .u8 (byt y 0), .int .u8 (byt y 1), .int .u8 (byt y 2), .int .u8 (byt y 3), .int .u8 (byt y 4), .int .u8 (byt y 5), .int .u8 (byt y 6), .int .u8 (byt y 7)] 26))) := ext_trans B.out (ext_alloc _ _)
    rw [← hg]
    clear hg
    generalize World.alloc w2 (.cells #[.int .u8 (byt y 0), .int .u8 (byt y 1), .int .u8 (byt y 2), .int .u8 (byt y 3), .int .u8 (byt y 4), .int .u8 (byt y 5), .int .u8 (byt y 6), .int .u8 (byt y 7)] 26) = V1 at *
    go_wp2_with fail
    refine (path_ok _ b 0 m c1 l r RL (by omega) (by omega) lr).mono ?_
    rw [← HHg.out, ← HP.out]
    unfold Paths
    rw [HPL.out]
    rintro e V ⟨A4, c4, rfl, hO4, hb⟩
    have P4 := Lib.hid hO4.rd
    replace DY := Lib.hid (keepB hb DY.out)
    replace RL := Lib.hid (RL.out.ext hb)
    replace B := Lib.hid (ext_trans B.out hb)
    clear hb hO4
    obtain ⟨b', o', hA, blV, oc⟩ := RL.out.at lr
    injection hA with hA
    injection hA with e1 e2 _
    subst e1 e2
    rw [← HQ.out] at oc
    simp only [Nat.zero_add] at oc
    have OC := Lib.hid oc
    have rI : (r : Int) < (m : Int) := by omega
    have rI0 : (0 : Int) ≤ (r : Int) := by omega
    clear oc
    go_upto_region 7 with fail
    refine wp_region_schedC (fun u => Below V.heap.size V u) [(true, 0), (true, 1), (true, 2), (true, 3), (true, 4), (true, 5), (true, 6), (true, 7), (true, 8), (true, 9), (true, 10), (true, 11), (true, 12), (true, 13), (false, 14), (true, 15), (true, 16), (true, 17), (false, 18), (true, 19), (true, 20)] (by kernel_rfl) rfl (by kernel_rfl) (by kernel_rfl) (fun _ _ d _ _ h => by cases d <;> exact h) (ext_drew V) ?_
    intro J0 hJ0
    have Q : Hid (Below V.heap.size V V.drew) := ext_drew V
    iterate 14 (refine schedC_pure (v := ?_) rfl (by rfl) ?_ ?_; rotate_left; (focus (intro u hC; obtain ⟨b0, b1, b2, b3, b4, b5, b6, b7, _, _, _, _, _, _, _, _⟩ := full8 (keepB hC DY.out); obtain ⟨o0, o1, o2, o3, o4, o5, o6, o7⟩ := cells8b hC blV OC.out; go_simp; try with_reducible rfl)); try go_simp)
    refine schedC_eff rfl ?_
    intro J hJ
    go_wp2_with fail
    rw [← show digV y = .agg #[.int .u8 (byt y 0), .int .u8 (byt y 1), .int .u8 (byt y 2), .int .u8 (byt y 3), .int .u8 (byt y 4), .int .u8 (byt y 5), .int .u8 (byt y 6), .int .u8 (byt y 7)] from rfl, ← show digV q = .agg #[.int .u8 (byt q 0), .int .u8 (byt q 1), .int .u8 (byt q 2), .int .u8 (byt q 3), .int .u8 (byt q 4), .int .u8 (byt q 5), .int .u8 (byt q 6), .int .u8 (byt q 7)] from rfl]
    refine (check_c _ y ly (r : Int) q lq A4 H c4 p (Lib.hid (P4.out.ext Q.out))).mono ?_
    rw [Y1.out]
    rintro e v9 ⟨rfl, hb⟩
    have Q2 : Hid (Below V.heap.size V v9) := Lib.hid (ext_trans Q.out hb)
    clear hb Q
    go_wp2_with fail
    refine ⟨Q2.out, ?_⟩
    have Q := Q2
    clear Q2
    iterate 3 (refine schedC_pure (v := ?_) rfl (by rfl) ?_ ?_; rotate_left; (focus (intro u hC; obtain ⟨b0, b1, b2, b3, b4, b5, b6, b7, _, _, _, _, _, _, _, _⟩ := full8 (keepB hC DY.out); obtain ⟨o0, o1, o2, o3, o4, o5, o6, o7⟩ := cells8b hC blV OC.out; go_simp; try with_reducible rfl)); try go_simp)
    refine schedC_eff rfl ?_
    intro J hJ
    go_wp2_with fail
    refine (told_c _).mono ?_
    rintro e v9 ⟨rfl, hb⟩
    have Q2 : Hid (Below V.heap.size V v9) := Lib.hid (ext_trans Q.out hb)
    clear hb Q
    go_wp2_with fail
    refine ⟨Q2.out, ?_⟩
    have Q := Q2
    clear Q2
    iterate 2 (refine schedC_pure (v := ?_) rfl (by rfl) ?_ ?_; rotate_left; (focus (intro u hC; obtain ⟨b0, b1, b2, b3, b4, b5, b6, b7, _, _, _, _, _, _, _, _⟩ := full8 (keepB hC DY.out); obtain ⟨o0, o1, o2, o3, o4, o5, o6, o7⟩ := cells8b hC blV OC.out; go_simp; try with_reducible rfl)); try go_simp)
    refine schedC_nil (hJ0 _ _ ?_)
    clear hJ0
    go_upto_region 10 with fail
    rw [HCX.out]
    obtain ⟨gx, hgx⟩ : ∃ g, g = v9.heap.size := ⟨_, rfl⟩
    have DX : Hid ((World.alloc v9 (.cells #[.int .u8 (byt x 0), .int .u8 (byt x 1), .int .u8 (byt x 2), .int .u8 (byt x 3), .int .u8 (byt x 4), .int .u8 (byt x 5), .int .u8 (byt x 6), .int .u8 (byt x 7)] 26)).heap[gx]? = some (.cells #[.int .u8 (byt x 0), .int .u8 (byt x 1), .int .u8 (byt x 2), .int .u8 (byt x 3), .int .u8 (byt x 4), .int .u8 (byt x 5), .int .u8 (byt x 6), .int .u8 (byt x 7)] 26 (0, 0))) := by rw [hgx]; exact Go.heap_alloc_new v9 _
    have QX : Hid (Below V.heap.size V (World.alloc v9 (.cells #[.int .u8 (byt x 0), .int .u8 (byt x 1), .int .u8 (byt x 2), .int .u8 (byt x 3), .int .u8 (byt x 4), .int .u8 (byt x 5), .int .u8 (byt x 6), .int .u8 (byt x 7)] 26))) := ext_trans Q.out (ext_alloc _ _)
    have DYU : Hid ((World.alloc v9 (.cells #[.int .u8 (byt x 0), .int .u8 (byt x 1), .int .u8 (byt x 2), .int .u8 (byt x 3), .int .u8 (byt x 4), .int .u8 (byt x 5), .int .u8 (byt x 6), .int .u8 (byt x 7)] 26)).heap[g]? = some (.cells #[.int .u8 (byt y 0), .int .u8 (byt y 1), .int .u8 (byt y 2), .int .u8 (byt y 3), .int .u8 (byt y 4), .int .u8 (byt y 5), .int .u8 (byt y 6), .int .u8 (byt y 7)] 26 (0, 0))) := keepA (keepB Q.out DY.out)
    have PU : Hid (RdD (World.alloc v9 (.cells #[.int .u8 (byt x 0), .int .u8 (byt x 1), .int .u8 (byt x 2), .int .u8 (byt x 3), .int .u8 (byt x 4), .int .u8 (byt x 5), .int .u8 (byt x 6), .int .u8 (byt x 7)] 26)) A4 H c4 p) := P4.out.ext QX.out
    have OCU : Hid ((World.alloc v9 (.cells #[.int .u8 (byt x 0), .int .u8 (byt x 1), .int .u8 (byt x 2), .int .u8 (byt x 3), .int .u8 (byt x 4), .int .u8 (byt x 5), .int .u8 (byt x 6), .int .u8 (byt x 7)] 26)).cell? ⟨b, r * 8, none⟩ = some (.int .u8 (byt q 0)) ∧ (World.alloc v9 (.cells #[.int .u8 (byt x 0), .int .u8 (byt x 1), .int .u8 (byt x 2), .int .u8 (byt x 3), .int .u8 (byt x 4), .int .u8 (byt x 5), .int .u8 (byt x 6), .int .u8 (byt x 7)] 26)).cell? ⟨b, r * 8 + 1, none⟩ = some (.int .u8 (byt q 1)) ∧ (World.alloc v9 (.cells #[.int .u8 (byt x 0), .int .u8 (byt x 1), .int .u8 (byt x 2), .int .u8 (byt x 3), .int .u8 (byt x 4), .int .u8 (byt x 5), .int .u8 (byt x 6), .int .u8 (byt x 7)] 26)).cell? ⟨b, r * 8 + 2, none⟩ = some (.int .u8 (byt q 2)) ∧ (World.alloc v9 (.cells #[.int .u8 (byt x 0), .int .u8 (byt x 1), .int .u8 (byt x 2), .int .u8 (byt x 3), .int .u8 (byt x 4), .int .u8 (byt x 5), .int .u8 (byt x 6), .int .u8 (byt x 7)] 26)).cell? ⟨b, r * 8 + 3, none⟩ = some (.int .u8 (byt q 3)) ∧ (World.alloc v9 (.cells #[.int .u8 (byt x 0), .int .u8 (byt x 1), .int .u8 (byt x 2), .int .u8 (byt x 3), .int .u8 (byt x 4), .int .u8 (byt x 5), .int .u8 (byt x 6), .int .u8 (byt x 7)] 26)).cell? ⟨b, r * 8 + 4, none⟩ = some (.int .u8 (byt q 4)) ∧ (World.alloc v9 (.cells #[.int .u8 (byt x 0), .int .u8 (byt x 1), .int .u8 (byt x 2), .int .u8 (byt x 3), .int .u8 (byt x 4), .int .u8 (byt x 5), .int .u8 (byt x 6), .int .u8 (byt x 7)] 26)).cell? ⟨b, r * 8 + 5, none⟩ = some (.int .u8 (byt q 5)) ∧ (World.alloc v9 (.cells #[.int .u8 (byt x 0), .int .u8 (byt x 1), .int .u8 (byt x 2), .int .u8 (byt x 3), .int .u8 (byt x 4), .int .u8 (byt x 5), .int .u8 (byt x 6), .int .u8 (byt x 7)] 26)).cell? ⟨b, r * 8 + 6, none⟩ = some (.int .u8 (byt q 6)) ∧ (World.alloc v9 (.cells #[.int .u8 (byt x 0), .int .u8 (byt x 1), .int .u8 (byt x 2), .int .u8 (byt x 3), .int .u8 (byt x 4), .int .u8 (byt x 5), .int .u8 (byt x 6), .int .u8 (byt x 7)] 26)).cell? ⟨b, r * 8 + 7, none⟩ = some (.int .u8 (byt q 7))) := cells8b QX.out blV OC.out
    have BU : Hid (Below w.heap.size w (World.alloc v9 (.cells #[.int .u8 (byt x 0), .int .u8 (byt x 1), .int .u8 (byt x 2), .int .u8 (byt x 3), .int .u8 (byt x 4), .int .u8 (byt x 5), .int .u8 (byt x 6), .int .u8 (byt x 7)] 26))) := ext_trans B.out QX.out
    have blU : b < (World.alloc v9 (.cells #[.int .u8 (byt x 0), .int .u8 (byt x 1), .int .u8 (byt x 2), .int .u8 (byt x 3), .int .u8 (byt x 4), .int .u8 (byt x 5), .int .u8 (byt x 6), .int .u8 (byt x 7)] 26)).heap.size := Nat.lt_of_lt_of_le blV QX.out.size
    rw [← hgx]
    clear hgx Q QX B DY P4 RL OC blV
    generalize World.alloc v9 (.cells #[.int .u8 (byt x 0), .int .u8 (byt x 1), .int .u8 (byt x 2), .int .u8 (byt x 3), .int .u8 (byt x 4), .int .u8 (byt x 5), .int .u8 (byt x 6), .int .u8 (byt x 7)] 26) = U at *
    go_upto_region 10 with fail
    go_cut [14, 15] (fun x1 x2 wx => RWith z true U x1 x2 wx)
    case first =>
      refine wp_region_tr (fin := 99) (fun v => Below U.heap.size U v) (.pure 0 (.pure 1 (.pure 2 (.two 3 (.two 4 (.pure 5 (.pure 6 (.pure 7 (.eff 8 (.eff 9 (.pure 10 .nil)))))) 8 (.eff 4 (.pure 5 (.pure 6 (.pure 7 (.eff 9 (.pure 10 .nil))))))) 8 (.eff 3 (.eff 4 (.pure 5 (.pure 6 (.pure 7 (.eff 9 (.pure 10 .nil))))))))))) (by kernel_rfl) (by kernel_rfl) (by kernel_rfl) (fun _ _ d _ _ h => by cases d <;> exact h) (ext_drew U) ?_
      intro J0 hJ0
      iterate 3 (refine tr_pure (v := ?_) rfl (by rfl) ?_ ?_; rotate_left; (focus (intro u hC; obtain ⟨d0, d1, d2, d3, d4, d5, d6, d7, _, _, _, _, _, _, _, _⟩ := full8 (keepB hC DX.out); go_simp; try with_reducible rfl)); try go_simp)
      have Q : Hid (Below U.heap.size U U.drew) := Lib.hid (ext_drew U)
      obtain ⟨V0, hV0⟩ : ∃ V0, V0 = U.drew := ⟨_, rfl⟩
      rw [← hV0] at Q ⊢
      clear hV0
      refine tr_two rfl rfl ?_ ?_
      · skip
        intro J hJ
        go_wp2_with fail
        refine (plain_c _ A4 H c4 p (Lib.hid (PU.out.ext Q.out)) (by omega)).mono ?_
        rintro e u1 ⟨A3, c3, rfl, hO3, hb⟩
        have R3 := Lib.hid hO3.rd
        have KP := Lib.hid hb
        have Q : Hid (Below U.heap.size U u1) := ext_trans Q.out hb
        clear hO3 hb
        go_wp2_with fail
        refine ⟨by first | exact Q.out | exact fun _ => Q.out, ?_⟩
        refine tr_two rfl rfl ?_ ?_
        · skip
          intro J hJ
          go_wp2_with fail
          rw [← show digV x = .agg #[.int .u8 (byt x 0), .int .u8 (byt x 1), .int .u8 (byt x 2), .int .u8 (byt x 3), .int .u8 (byt x 4), .int .u8 (byt x 5), .int .u8 (byt x 6), .int .u8 (byt x 7)] from rfl]
          refine (rwith_c _ (r : Int) x lx A3 H c3 p R3).mono ?_
          rw [HC1.out, HC2.out]
          unfold digV
          rintro e u2 ⟨rfl, hb⟩
          have Q : Hid (Below U.heap.size U u2) := ext_trans Q.out hb
          clear hb
          go_wp2_with fail
          refine ⟨by first | exact Q.out | exact fun _ => Q.out, ?_⟩
          iterate 3 (refine tr_pure (v := ?_) rfl (by rfl) ?_ ?_; rotate_left; (focus (intro u hC; go_simp; try with_reducible rfl)); try go_simp)
          refine tr_eff rfl ?_
          intro J hJ
          go_wp2_with fail
          refine ⟨by first | exact ext_trans Q.out (ext_alloc _ _) | exact fun _ => ext_trans Q.out (ext_alloc _ _), ?_⟩
          obtain ⟨g, hg⟩ : ∃ g, g = u2.heap.size := ⟨_, rfl⟩
          obtain ⟨u3, hu⟩ : ∃ u, u = World.alloc u2 (.cells #[.int .u8 0, .int .u8 0, .int .u8 0, .int .u8 0, .int .u8 0, .int .u8 0, .int .u8 0, .int .u8 0] 25) := ⟨_, rfl⟩
          rw [← hu, ← hg]
          have PA : Hid (u3.heap[g]? = some (.cells #[.int .u8 0, .int .u8 0, .int .u8 0, .int .u8 0, .int .u8 0, .int .u8 0, .int .u8 0, .int .u8 0] 25 (0, 0))) := by rw [hu, hg]; exact Go.heap_alloc_new _ _
          have PZ : U.heap.size ≤ g := by rw [hg]; exact Q.out.size
          have Q : Hid (Below U.heap.size U u3) := by rw [hu]; exact ext_trans Q.out (ext_alloc _ _)
          clear hu hg
          refine tr_eff rfl ?_
          intro J hJ
          obtain ⟨c0, c1, c2, c3, c4, c5, c6, c7, f0, f1, f2, f3, f4, f5, f6, f7⟩ := full8 PA.out
          go_wp2_with fail
          refine ⟨by first | exact bel8 Q.out (Nat.le_refl _) PZ _ _ _ _ _ _ _ _ | exact fun _ => bel8 Q.out (Nat.le_refl _) PZ _ _ _ _ _ _ _ _, ?_⟩
          iterate 1 (refine tr_pure (v := ?_) rfl (by rfl) ?_ ?_; rotate_left; (focus (intro u hC; go_simp; try with_reducible rfl)); try go_simp)
          refine tr_nil (hJ0 _ _ ?_)
          go_wp2_with fail
          go_meet
          exact ⟨g, rfl, rfl, set8 PA.out (.int .u8 (byt z 0)) (.int .u8 (byt z 1)) (.int .u8 (byt z 2)) (.int .u8 (byt z 3)) (.int .u8 (byt z 4)) (.int .u8 (byt z 5)) (.int .u8 (byt z 6)) (.int .u8 (byt z 7)), PZ, bel8 Q.out (Nat.le_refl _) PZ (.int .u8 (byt z 0)) (.int .u8 (byt z 1)) (.int .u8 (byt z 2)) (.int .u8 (byt z 3)) (.int .u8 (byt z 4)) (.int .u8 (byt z 5)) (.int .u8 (byt z 6)) (.int .u8 (byt z 7))⟩
        · skip
          intro J hJ
          go_wp2_with fail
          refine ⟨by first | exact ext_trans Q.out (ext_alloc _ _) | exact fun _ => ext_trans Q.out (ext_alloc _ _), ?_⟩
          obtain ⟨g, hg⟩ : ∃ g, g = u1.heap.size := ⟨_, rfl⟩
          obtain ⟨u3, hu⟩ : ∃ u, u = World.alloc u1 (.cells #[.int .u8 0, .int .u8 0, .int .u8 0, .int .u8 0, .int .u8 0, .int .u8 0, .int .u8 0, .int .u8 0] 25) := ⟨_, rfl⟩
          rw [← hu, ← hg]
          have PA : Hid (u3.heap[g]? = some (.cells #[.int .u8 0, .int .u8 0, .int .u8 0, .int .u8 0, .int .u8 0, .int .u8 0, .int .u8 0, .int .u8 0] 25 (0, 0))) := by rw [hu, hg]; exact Go.heap_alloc_new _ _
          have PZ : U.heap.size ≤ g := by rw [hg]; exact Q.out.size
          have R3 : Hid (RdD u3 A3 H c3 p) := by rw [hu]; exact R3.out.ext (ext_alloc _ _)
          have Q : Hid (Below U.heap.size U u3) := by rw [hu]; exact ext_trans Q.out (ext_alloc _ _)
          clear hu hg
          refine tr_eff rfl ?_
          intro J hJ
          go_wp2_with fail
          rw [← show digV x = .agg #[.int .u8 (byt x 0), .int .u8 (byt x 1), .int .u8 (byt x 2), .int .u8 (byt x 3), .int .u8 (byt x 4), .int .u8 (byt x 5), .int .u8 (byt x 6), .int .u8 (byt x 7)] from rfl]
          refine (rwith_c _ (r : Int) x lx A3 H c3 p R3).mono ?_
          rw [HC1.out, HC2.out]
          unfold digV
          rintro e u2 ⟨rfl, hb⟩
          have Q : Hid (Below U.heap.size U u2) := ext_trans Q.out hb
          have PA := Lib.hid (keepB hb PA.out)
          clear hb
          go_wp2_with fail
          refine ⟨by first | exact Q.out | exact fun _ => Q.out, ?_⟩
          iterate 3 (refine tr_pure (v := ?_) rfl (by rfl) ?_ ?_; rotate_left; (focus (intro u hC; go_simp; try with_reducible rfl)); try go_simp)
          refine tr_eff rfl ?_
          intro J hJ
          obtain ⟨c0, c1, c2, c3, c4, c5, c6, c7, f0, f1, f2, f3, f4, f5, f6, f7⟩ := full8 PA.out
          go_wp2_with fail
          refine ⟨by first | exact bel8 Q.out (Nat.le_refl _) PZ _ _ _ _ _ _ _ _ | exact fun _ => bel8 Q.out (Nat.le_refl _) PZ _ _ _ _ _ _ _ _, ?_⟩
          iterate 1 (refine tr_pure (v := ?_) rfl (by rfl) ?_ ?_; rotate_left; (focus (intro u hC; go_simp; try with_reducible rfl)); try go_simp)
          refine tr_nil (hJ0 _ _ ?_)
          go_wp2_with fail
          go_meet
          exact ⟨g, rfl, rfl, set8 PA.out (.int .u8 (byt z 0)) (.int .u8 (byt z 1)) (.int .u8 (byt z 2)) (.int .u8 (byt z 3)) (.int .u8 (byt z 4)) (.int .u8 (byt z 5)) (.int .u8 (byt z 6)) (.int .u8 (byt z 7)), PZ, bel8 Q.out (Nat.le_refl _) PZ (.int .u8 (byt z 0)) (.int .u8 (byt z 1)) (.int .u8 (byt z 2)) (.int .u8 (byt z 3)) (.int .u8 (byt z 4)) (.int .u8 (byt z 5)) (.int .u8 (byt z 6)) (.int .u8 (byt z 7))⟩
      · skip
        intro J hJ
        go_wp2_with fail
        refine ⟨by first | exact ext_trans Q.out (ext_alloc _ _) | exact fun _ => ext_trans Q.out (ext_alloc _ _), ?_⟩
        obtain ⟨g, hg⟩ : ∃ g, g = V0.heap.size := ⟨_, rfl⟩
        obtain ⟨u3, hu⟩ : ∃ u, u = World.alloc V0 (.cells #[.int .u8 0, .int .u8 0, .int .u8 0, .int .u8 0, .int .u8 0, .int .u8 0, .int .u8 0, .int .u8 0] 25) := ⟨_, rfl⟩
        rw [← hu, ← hg]
        have PA : Hid (u3.heap[g]? = some (.cells #[.int .u8 0, .int .u8 0, .int .u8 0, .int .u8 0, .int .u8 0, .int .u8 0, .int .u8 0, .int .u8 0] 25 (0, 0))) := by rw [hu, hg]; exact Go.heap_alloc_new _ _
        have PZ : U.heap.size ≤ g := by rw [hg]; exact Q.out.size
        have Q : Hid (Below U.heap.size U u3) := by rw [hu]; exact ext_trans Q.out (ext_alloc _ _)
        clear hu hg
        refine tr_eff rfl ?_
        intro J hJ
        go_wp2_with fail
        refine (plain_c _ A4 H c4 p (Lib.hid (PU.out.ext Q.out)) (by omega)).mono ?_
        rintro e u1 ⟨A3, c3, rfl, hO3, hb⟩
        have R3 := Lib.hid hO3.rd
        have KP := Lib.hid hb
        have Q : Hid (Below U.heap.size U u1) := ext_trans Q.out hb
        clear hO3 hb
        go_wp2_with fail
        refine ⟨by first | exact Q.out | exact fun _ => Q.out, ?_⟩
        have PA := Lib.hid (keepB KP.out PA.out)
        refine tr_eff rfl ?_
        intro J hJ
        go_wp2_with fail
        rw [← show digV x = .agg #[.int .u8 (byt x 0), .int .u8 (byt x 1), .int .u8 (byt x 2), .int .u8 (byt x 3), .int .u8 (byt x 4), .int .u8 (byt x 5), .int .u8 (byt x 6), .int .u8 (byt x 7)] from rfl]
        refine (rwith_c _ (r : Int) x lx A3 H c3 p R3).mono ?_
        rw [HC1.out, HC2.out]
        unfold digV
        rintro e u2 ⟨rfl, hb⟩
        have Q : Hid (Below U.heap.size U u2) := ext_trans Q.out hb
        have PA := Lib.hid (keepB hb PA.out)
        clear hb
        go_wp2_with fail
        refine ⟨by first | exact Q.out | exact fun _ => Q.out, ?_⟩
        iterate 3 (refine tr_pure (v := ?_) rfl (by rfl) ?_ ?_; rotate_left; (focus (intro u hC; go_simp; try with_reducible rfl)); try go_simp)
        refine tr_eff rfl ?_
        intro J hJ
        obtain ⟨c0, c1, c2, c3, c4, c5, c6, c7, f0, f1, f2, f3, f4, f5, f6, f7⟩ := full8 PA.out
        go_wp2_with fail
        refine ⟨by first | exact bel8 Q.out (Nat.le_refl _) PZ _ _ _ _ _ _ _ _ | exact fun _ => bel8 Q.out (Nat.le_refl _) PZ _ _ _ _ _ _ _ _, ?_⟩
        iterate 1 (refine tr_pure (v := ?_) rfl (by rfl) ?_ ?_; rotate_left; (focus (intro u hC; go_simp; try with_reducible rfl)); try go_simp)
        refine tr_nil (hJ0 _ _ ?_)
        go_wp2_with fail
        go_meet
        exact ⟨g, rfl, rfl, set8 PA.out (.int .u8 (byt z 0)) (.int .u8 (byt z 1)) (.int .u8 (byt z 2)) (.int .u8 (byt z 3)) (.int .u8 (byt z 4)) (.int .u8 (byt z 5)) (.int .u8 (byt z 6)) (.int .u8 (byt z 7)), PZ, bel8 Q.out (Nat.le_refl _) PZ (.int .u8 (byt z 0)) (.int .u8 (byt z 1)) (.int .u8 (byt z 2)) (.int .u8 (byt z 3)) (.int .u8 (byt z 4)) (.int .u8 (byt z 5)) (.int .u8 (byt z 6)) (.int .u8 (byt z 7))⟩
    case rest =>
      obtain ⟨gz, rfl, rfl, hz, hgz, hbw⟩ := hcut
      obtain ⟨wx, hwb, hwx⟩ : ∃ wx, Below U.heap.size U wx ∧ wx = _ := ⟨_, hbw, rfl⟩
      subst hwx
      clear hwb
      have DZ := Lib.hid hz
      replace DX := Lib.hid (keepB hbw DX.out)
      replace DYU := Lib.hid (keepB hbw DYU.out)
      replace PU := Lib.hid (PU.out.ext hbw)
      replace BU := Lib.hid (ext_trans BU.out hbw)
      have OCX := Lib.hid (cells8b hbw blU OCU.out)
      have blX : b < wx.heap.size := Nat.lt_of_lt_of_le blU hbw.size
      clear hz hbw OCU
      go_upto_region 11 with fail
      refine wp_region_schedC (fun u => Below wx.heap.size wx u) [(true, 0), (true, 1), (true, 2), (true, 3), (true, 5), (true, 6), (true, 7), (false, 4), (true, 8), (true, 9), (true, 10), (true, 11), (true, 12), (true, 13), (true, 14), (true, 15), (true, 16), (true, 17), (true, 18), (true, 19), (true, 20), (true, 21), (true, 22)] (by kernel_rfl) rfl (by kernel_rfl) (by kernel_rfl) (fun _ _ d _ _ h => by cases d <;> exact h) (ext_drew wx) ?_
      intro J0 hJ0
      have Q : Hid (Below wx.heap.size wx wx.drew) := ext_drew wx
      iterate 6 (refine schedC_pure (v := ?_) rfl (by rfl) ?_ ?_; rotate_left; (focus (intro u hC; obtain ⟨b0, b1, b2, b3, b4, b5, b6, b7, _, _, _, _, _, _, _, _⟩ := full8 (keepB hC DYU.out); obtain ⟨a0, a1, a2, a3, a4, a5, a6, a7, _, _, _, _, _, _, _, _⟩ := full8 (keepB hC DX.out); obtain ⟨z0, z1, z2, z3, z4, z5, z6, z7, _, _, _, _, _, _, _, _⟩ := full8 (keepB hC DZ.out); obtain ⟨o0, o1, o2, o3, o4, o5, o6, o7⟩ := cells8b hC blX OCX.out; go_simp; try with_reducible rfl)); try go_simp)
      refine schedC_pure (v := .bool t) rfl (by rfl) (fun u hC => exec_run rfl rfl rfl (G1 _ _ u) (E1 u)) ?_
      try go_simp
      refine schedC_eff rfl ?_
      intro J hJ
      go_wp2_with fail
      rw [← show digV y = .agg #[.int .u8 (byt y 0), .int .u8 (byt y 1), .int .u8 (byt y 2), .int .u8 (byt y 3), .int .u8 (byt y 4), .int .u8 (byt y 5), .int .u8 (byt y 6), .int .u8 (byt y 7)] from rfl, ← show digV x = .agg #[.int .u8 (byt x 0), .int .u8 (byt x 1), .int .u8 (byt x 2), .int .u8 (byt x 3), .int .u8 (byt x 4), .int .u8 (byt x 5), .int .u8 (byt x 6), .int .u8 (byt x 7)] from rfl]
      refine (check_c _ y ly (r : Int) x lx A4 H c4 p (Lib.hid (PU.out.ext Q.out))).mono ?_
      rw [Y2.out]
      rintro e v9 ⟨rfl, hb⟩
      have Q2 : Hid (Below wx.heap.size wx v9) := Lib.hid (ext_trans Q.out hb)
      clear hb Q
      go_wp2_with fail
      refine ⟨Q2.out, ?_⟩
      have Q := Q2
      clear Q2
      iterate 7 (refine schedC_pure (v := ?_) rfl (by rfl) ?_ ?_; rotate_left; (focus (intro u hC; obtain ⟨b0, b1, b2, b3, b4, b5, b6, b7, _, _, _, _, _, _, _, _⟩ := full8 (keepB hC DYU.out); obtain ⟨a0, a1, a2, a3, a4, a5, a6, a7, _, _, _, _, _, _, _, _⟩ := full8 (keepB hC DX.out); obtain ⟨z0, z1, z2, z3, z4, z5, z6, z7, _, _, _, _, _, _, _, _⟩ := full8 (keepB hC DZ.out); obtain ⟨o0, o1, o2, o3, o4, o5, o6, o7⟩ := cells8b hC blX OCX.out; go_simp; try with_reducible rfl)); try go_simp)
      refine schedC_pure (v := .bool tn) rfl (by rfl) (fun u hC => exec_run rfl rfl rfl (G2 _ _ u) (E2 u)) ?_
      try go_simp
      iterate 1 (refine schedC_pure (v := ?_) rfl (by rfl) ?_ ?_; rotate_left; (focus (intro u hC; obtain ⟨b0, b1, b2, b3, b4, b5, b6, b7, _, _, _, _, _, _, _, _⟩ := full8 (keepB hC DYU.out); obtain ⟨a0, a1, a2, a3, a4, a5, a6, a7, _, _, _, _, _, _, _, _⟩ := full8 (keepB hC DX.out); obtain ⟨z0, z1, z2, z3, z4, z5, z6, z7, _, _, _, _, _, _, _, _⟩ := full8 (keepB hC DZ.out); obtain ⟨o0, o1, o2, o3, o4, o5, o6, o7⟩ := cells8b hC blX OCX.out; go_simp; try with_reducible rfl)); try go_simp)
      cases tn
      · have ht1 : t = true := by simpa using HTN.out
        subst ht1
        iterate 2 (refine schedC_pure (v := ?_) rfl (by rfl) ?_ ?_; rotate_left; (focus (intro u hC; obtain ⟨b0, b1, b2, b3, b4, b5, b6, b7, _, _, _, _, _, _, _, _⟩ := full8 (keepB hC DYU.out); obtain ⟨a0, a1, a2, a3, a4, a5, a6, a7, _, _, _, _, _, _, _, _⟩ := full8 (keepB hC DX.out); obtain ⟨z0, z1, z2, z3, z4, z5, z6, z7, _, _, _, _, _, _, _, _⟩ := full8 (keepB hC DZ.out); obtain ⟨o0, o1, o2, o3, o4, o5, o6, o7⟩ := cells8b hC blX OCX.out; go_simp; try with_reducible rfl)); try go_simp)
        refine schedC_pure (v := .bool true) rfl (by rfl) (fun u hC => exec_run rfl rfl rfl (G1 _ _ u) (E1 u)) ?_
        try go_simp
        iterate 3 (refine schedC_pure (v := ?_) rfl (by rfl) ?_ ?_; rotate_left; (focus (intro u hC; obtain ⟨b0, b1, b2, b3, b4, b5, b6, b7, _, _, _, _, _, _, _, _⟩ := full8 (keepB hC DYU.out); obtain ⟨a0, a1, a2, a3, a4, a5, a6, a7, _, _, _, _, _, _, _, _⟩ := full8 (keepB hC DX.out); obtain ⟨z0, z1, z2, z3, z4, z5, z6, z7, _, _, _, _, _, _, _, _⟩ := full8 (keepB hC DZ.out); obtain ⟨o0, o1, o2, o3, o4, o5, o6, o7⟩ := cells8b hC blX OCX.out; go_simp; try with_reducible rfl)); try go_simp)
        refine schedC_nil (hJ0 _ _ ?_)
        clear hJ0
        go_wp2_with fail
        go_ret
        exact ⟨rfl, ext_trans BU.out Q.out⟩
      · iterate 3 (refine schedC_skip2 rfl (by rfl) ?_; try go_simp)
        iterate 3 (refine schedC_pure (v := ?_) rfl (by rfl) ?_ ?_; rotate_left; (focus (intro u hC; obtain ⟨b0, b1, b2, b3, b4, b5, b6, b7, _, _, _, _, _, _, _, _⟩ := full8 (keepB hC DYU.out); obtain ⟨a0, a1, a2, a3, a4, a5, a6, a7, _, _, _, _, _, _, _, _⟩ := full8 (keepB hC DX.out); obtain ⟨z0, z1, z2, z3, z4, z5, z6, z7, _, _, _, _, _, _, _, _⟩ := full8 (keepB hC DZ.out); obtain ⟨o0, o1, o2, o3, o4, o5, o6, o7⟩ := cells8b hC blX OCX.out; go_simp; try with_reducible rfl)); try go_simp)
        refine schedC_nil (hJ0 _ _ ?_)
        clear hJ0
        go_wp2_with fail
        go_ret
        exact ⟨rfl, ext_trans BU.out Q.out⟩
#print axioms walkTreeChecks
end Go.Proofs.YtaokfpndplbedaaDoor
