/-
  CodeWithin: the walk.
-/
import Derived.Test.YtibmkihehaedjaaDoorGRight
import Derived.Test.YtibmkihehaedjaaDoorGPure2
import Derived.Test.YtibmkihehaedjaaDoorGOpen
import Derived.Test.YtibmkihehaedjaaDoorFrame
namespace Go.Proofs.YtibmkihehaedjaaDoor
open Go.RowKit

theorem all_at {l : List Int} {P : Int → Prop} (h : ∀ x ∈ l, P x) {k : Nat} (hk : k < l.length) : P (l.getD k 0) := by
  rw [show l.getD k 0 = l[k] by simp [List.getD, hk]]
  exact h _ (List.getElem_mem _)

set_option maxRecDepth 100000 in
set_option maxHeartbeats 8000000 in
theorem walkCodeWithin (w : World) (o a b c : Int) (n m d q : Nat) (_ho : In64 o) (_ha : In64 a) (_hb : In64 b) (_hc : In64 c) (ln : n < 65536) (lm : m < 65536) (ld : d < 65536) (lq : q < 65536) (hf : Hid (Forms w)) : Calls Tryd.prog 5 #[.agg #[.int .i64 o, .int .i64 a, .int .i64 b, .int .i64 c], .int .u16 n, .int .u16 m, .int .u16 d, .int .u16 q] w (Holds w) := by
  obtain ⟨R, hR⟩ : ∃ R, R = rightV o a b c n m := ⟨_, rfl⟩
  have HR := Lib.hid hR
  clear hR _ho _ha _hb _hc
  have w1 : IntKind.i64.wrap (n : Int) = (n : Int) := IntWalk.i64_in _ (by omega)
  have w2 : IntKind.i64.wrap (m : Int) = (m : Int) := IntWalk.i64_in _ (by omega)
  go_enter Tryd.func5, Tryd.ntmps5
  go_upto_region 3 with fail
  obtain ⟨U1, hU1⟩ : ∃ U, U = World.alloc w (.cells #[.int .i64 o, .int .i64 a, .int .i64 b, .int .i64 c] 23) := ⟨_, rfl⟩
  have B : Hid (Below w.heap.size w U1) := by rw [hU1]; exact ext_alloc w _
  have hs : w.heap.size + 1 = U1.heap.size := by rw [hU1]; simp
  rw [← hU1, hs]
  clear hU1 hs
  obtain ⟨g7, hg7⟩ : ∃ g, g = U1.heap.size := ⟨_, rfl⟩
  obtain ⟨U, hU⟩ : ∃ U, U = World.alloc U1 (.cells #[.int .i64 o, .int .i64 a, .int .i64 b, .int .i64 c] 33) := ⟨_, rfl⟩
  have C7 : Hid (U.heap[g7]? = some (.cells #[.int .i64 o, .int .i64 a, .int .i64 b, .int .i64 c] 33 (0, 0))) := by rw [hU, hg7]; exact Go.heap_alloc_new U1 _
  have BU : Hid (Below U1.heap.size U1 U) := by rw [hU]; exact ext_alloc U1 _
  replace B := Lib.hid (ext_trans B.out BU.out)
  rw [← hU, ← hg7]
  clear hU hg7 BU U1
  have HF := Lib.hid (hf.out.ext B.out)
  clear hf
  go_wp2_with fail
  refine (codeKnown_c _ HF).mono ?_
  rintro e v ⟨rfl, hb⟩
  replace C7 := Lib.hid (keepG hb C7.out)
  replace B := Lib.hid (ext_trans B.out hb)
  replace HF := Lib.hid (HF.out.ext hb)
  clear hb
  obtain ⟨x0, x1, x2, x3⟩ := full4i C7.out
  go_wp2_with fail
  clear x0 x1 x2 x3
  refine (right_c _ HF o a b c n m).mono ?_
  rw [← HR.out]
  rintro e v1 ⟨rfl, hb⟩
  replace C7 := Lib.hid (keepG hb C7.out)
  replace B := Lib.hid (ext_trans B.out hb)
  replace HF := Lib.hid (HF.out.ext hb)
  clear hb
  by_cases hR : R = false
  · subst hR
    go_wp2_with fail
    refine (codeKnown_c _ HF).mono ?_
    rintro e v2 ⟨rfl, hb⟩
    go_wp2_with fail
    go_ret
    exact ⟨rfl, ext_trans B.out hb⟩
  · obtain rfl : R = true := by cases R <;> simp_all
    clear hR
    by_cases hn : n = 0
    · subst hn
      go_wp2_with fail
      refine (codeKnown_c _ HF).mono ?_
      rintro e v2 ⟨rfl, hb⟩
      go_wp2_with fail
      go_ret
      exact ⟨rfl, ext_trans B.out hb⟩
    · have n0 : ((n : Int) == 0) = false := by rw [beq_eq_false_iff_ne]; omega
      have HO := Lib.hid (right_parts HR.out.symm).1
      have HRD := Lib.hid (reads_in HR.out.symm)
      have HWR := writes_in HR.out.symm (by omega)
      obtain ⟨wv, hwv⟩ : ∃ x, x = writesV o a := ⟨_, rfl⟩
      rw [← hwv] at HWR
      obtain ⟨wv1, wv2⟩ := HWR
      have HWV := Lib.hid hwv
      obtain ⟨i, hi⟩ : ∃ i, i = q % n := ⟨_, rfl⟩
      have lin : i < n := by rw [hi]; exact Nat.mod_lt _ (by omega)
      have r1 : (q : Int) % (n : Int) = (i : Int) := by rw [hi]; exact (Int.natCast_emod _ _).symm
      have r2 : (q : Int).tmod (n : Int) = (i : Int) := by rw [Int.tmod_eq_emod_of_nonneg (by omega)]; exact r1
      have r3 : IntKind.i64.wrap (i : Int) = (i : Int) := IntWalk.i64_in _ (by omega)
      have r4 : IntKind.i64.wrap (q : Int) = (q : Int) := IntWalk.i64_in _ (by omega)
      have HNX := Lib.hid (next_in (i := (i : Int)) HR.out.symm (by omega) (by omega))
      have HNL := Lib.hid (next_len o a i HO.out)
      have HM1 : Hid (rightV o a b c ((n : Int) + (d : Int)) (m : Int) = true) := by
        have := right_more (d := (d : Int)) (e := 0) (by omega) (by omega) HR.out.symm
        rw [Int.add_zero] at this
        exact this
      have HM2 : Hid (rightV o a b c (n : Int) ((m : Int) + (d : Int)) = true) := by
        have := right_more (d := 0) (e := (d : Int)) (by omega) (by omega) HR.out.symm
        rw [Int.add_zero] at this
        exact this
      clear hi hwv hn
      obtain ⟨x0, x1, x2, x3⟩ := full4i C7.out
      go_wp2_with fail
      clear x0 x1 x2 x3
      refine (reads_c _ HF o a b c).mono ?_
      rintro e v2 ⟨A1, n1, d1, rfl, hRd, hb⟩
      have R1 := Lib.hid hRd
      have hle1 := hRd.le
      have hmx1 := hRd.max
      have HL1 := Lib.hid hRd.len
      clear hRd
      replace C7 := Lib.hid (keepG hb C7.out)
      replace B := Lib.hid (ext_trans B.out hb)
      replace HF := Lib.hid (HF.out.ext hb)
      clear hb
      obtain ⟨l1, hl1⟩ : ∃ l, l = readsV o a b c := ⟨_, rfl⟩
      rw [← hl1] at HRD R1 HL1
      clear hl1
      go_wp2_with fail
      go_loopw [43] (fun iv wr => ∃ k : Nat, k ≤ n1 ∧ iv = .int .i64 k ∧ wr = v2) (fun iv _ => n1 - (intOf iv).toNat)
      case atStart => exact ⟨0, Nat.zero_le _, rfl, rfl⟩
      case round =>
        obtain ⟨k, hk, rfl, rfl⟩ := hrel
        by_cases hlt : k < n1
        · obtain ⟨bb, oo, rfl, _, c1⟩ := R1.out.at hlt
          obtain ⟨y1, y2⟩ := all_at HRD.out (k := k) (by rw [HL1.out]; exact hlt)
          obtain ⟨y, hy⟩ : ∃ y : Int, y = l1.getD k 0 := ⟨_, rfl⟩
          rw [← hy] at c1 y1 y2
          have y3 : ¬ y < 0 := by omega
          have y4 : ¬ (m : Int) ≤ y := by omega
          have hltI : (k : Int) < (n1 : Int) := by omega
          have hkI : (0 : Int) ≤ (k : Int) := by omega
          clear hy
          go_wp2_with fail
          exact ⟨⟨k + 1, by omega, by go_num, by first | trivial | rfl⟩, by simp [intOf]; omega⟩
        · obtain rfl : k = n1 := by omega
          clear R1 HL1 HRD hle1 hmx1
          obtain ⟨x0, x1, x2, x3⟩ := full4i C7.out
          go_wp2_with fail
          clear x0 x1 x2 x3
          refine (writes_c _ HF o a b c).mono ?_
          rw [← HWV.out]
          rintro e v3 ⟨rfl, hb⟩
          replace C7 := Lib.hid (keepG hb C7.out)
          replace B := Lib.hid (ext_trans B.out hb)
          replace HF := Lib.hid (HF.out.ext hb)
          clear hb
          have wv3 : ¬ wv < -1 := by omega
          have wv4 : ¬ (m : Int) ≤ wv := by omega
          obtain ⟨x0, x1, x2, x3⟩ := full4i C7.out
          go_wp2_with fail
          clear x0 x1 x2 x3
          refine (next_c _ o a b c i (by omega) (by omega)).mono ?_
          rintro e v4 ⟨A2, n2, d2, rfl, hRd, hb⟩
          have R2 := Lib.hid hRd
          have hle2 := hRd.le
          have hmx2 := hRd.max
          have HL2 := Lib.hid hRd.len
          clear hRd
          replace C7 := Lib.hid (keepG hb C7.out)
          replace B := Lib.hid (ext_trans B.out hb)
          replace HF := Lib.hid (HF.out.ext hb)
          clear hb
          obtain ⟨l2, hl2⟩ : ∃ l, l = nextV o a i := ⟨_, rfl⟩
          rw [← hl2] at HNX HNL R2 HL2
          clear hl2
          go_wp2_with fail
          go_loopw [73] (fun iv wr => ∃ k : Nat, k ≤ n2 ∧ iv = .int .i64 k ∧ wr = v4) (fun iv _ => n2 - (intOf iv).toNat)
          case atStart => exact ⟨0, Nat.zero_le _, rfl, rfl⟩
          case round =>
            obtain ⟨k2, hk2, rfl, rfl⟩ := hrel
            by_cases hlt : k2 < n2
            · obtain ⟨bb, oo, rfl, _, c1⟩ := R2.out.at hlt
              obtain ⟨y1, y2, y5⟩ := all_at HNX.out (k := k2) (by rw [HL2.out]; exact hlt)
              obtain ⟨y, hy⟩ : ∃ y : Int, y = l2.getD k2 0 := ⟨_, rfl⟩
              rw [← hy] at c1 y1 y2 y5
              have y3 : ¬ y < 0 := by omega
              have y4 : ¬ (n : Int) < y := by omega
              have hltI : (k2 : Int) < (n2 : Int) := by omega
              have hkI : (0 : Int) ≤ (k2 : Int) := by omega
              clear hy
              by_cases hyn : y = (n : Int)
              · have z1 : (y == (n : Int)) = true := by rw [beq_iff_eq]; exact hyn
                have z2 := y5 hyn
                have z3 : IntKind.i64.wrap ((n : Int) - 1) = (i : Int) := by rw [← z2]; exact r3
                have z4 : ((i : Int) != (n : Int) - 1) = false := by rw [bne_eq_false_iff_eq]; exact z2
                clear y5 hyn z2
                go_wp2_with fail
                exact ⟨⟨k2 + 1, by omega, by go_num, by first | trivial | rfl⟩, by simp [intOf]; omega⟩
              · have z1 : (y == (n : Int)) = false := by rw [beq_eq_false_iff_ne]; exact hyn
                clear y5 hyn
                go_wp2_with fail
                exact ⟨⟨k2 + 1, by omega, by go_num, by first | trivial | rfl⟩, by simp [intOf]; omega⟩
            · obtain rfl : k2 = n2 := by omega
              obtain ⟨e1, e2⟩ := HNL.out
              rw [HL2.out] at e1 e2
              have e1I : (k2 : Int) ≤ 2 := by omega
              clear R2 HL2 HNX HNL hle2 hmx2
              have u1 : IntKind.i64.wrap (d : Int) = (d : Int) := IntWalk.i64_in _ (by omega)
              have u2 : IntKind.i64.wrap ((n : Int) + (d : Int)) = (n : Int) + (d : Int) := IntWalk.i64_in _ (by omega)
              have u3 : IntKind.i64.wrap ((m : Int) + (d : Int)) = (m : Int) + (d : Int) := IntWalk.i64_in _ (by omega)
              obtain ⟨x0, x1, x2, x3⟩ := full4i C7.out
              by_cases o0 : o = 0
              · have q1 : ((k2 : Int) == 0) = true := by rw [beq_iff_eq]; have := e2.2 o0; omega
                have q2 : (o == 0) = true := by rw [beq_iff_eq]; exact o0
                clear e1 e2 o0
                go_wp2_with fail
                clear x0 x1 x2 x3
                refine (right_c _ HF o a b c ((n : Int) + (d : Int)) m).mono ?_
                rw [HM1.out]
                rintro e v5 ⟨rfl, hb⟩
                replace C7 := Lib.hid (keepG hb C7.out)
                replace B := Lib.hid (ext_trans B.out hb)
                replace HF := Lib.hid (HF.out.ext hb)
                clear hb
                obtain ⟨x0, x1, x2, x3⟩ := full4i C7.out
                go_wp2_with fail
                clear x0 x1 x2 x3
                refine (right_c _ HF o a b c n ((m : Int) + (d : Int))).mono ?_
                rw [HM2.out]
                rintro e v6 ⟨rfl, hb⟩
                go_wp2_with fail
                go_ret
                exact ⟨rfl, ext_trans B.out hb⟩
              · have q1 : ((k2 : Int) == 0) = false := by rw [beq_eq_false_iff_ne]; intro h; exact o0 (e2.1 (by omega))
                have q2 : (o == 0) = false := by rw [beq_eq_false_iff_ne]; exact o0
                clear e1 e2 o0
                go_wp2_with fail
                clear x0 x1 x2 x3
                refine (right_c _ HF o a b c ((n : Int) + (d : Int)) m).mono ?_
                rw [HM1.out]
                rintro e v5 ⟨rfl, hb⟩
                replace C7 := Lib.hid (keepG hb C7.out)
                replace B := Lib.hid (ext_trans B.out hb)
                replace HF := Lib.hid (HF.out.ext hb)
                clear hb
                obtain ⟨x0, x1, x2, x3⟩ := full4i C7.out
                go_wp2_with fail
                clear x0 x1 x2 x3
                refine (right_c _ HF o a b c n ((m : Int) + (d : Int))).mono ?_
                rw [HM2.out]
                rintro e v6 ⟨rfl, hb⟩
                go_wp2_with fail
                go_ret
                exact ⟨rfl, ext_trans B.out hb⟩
#print axioms walkCodeWithin
end Go.Proofs.YtibmkihehaedjaaDoor
