/-
  TreePaths: the walk.
-/
import Derived.Test.YtaokfpndplbedaaDoorTUni
namespace Go.Proofs.YtaokfpndplbedaaDoor
open Go.ChangeShapes Go.WideShapes Go.ChangeAt Go.RowKit Go.Deep

theorem pathV_len (l : List Nat) (i : Int) : (pathV l i).1.length ≤ 12 := by
  unfold pathV
  split
  · rename_i h0
    split
    · show (pathN l i.toNat (hgt l.length)).length ≤ 12
      rw [pathN_len]; exact hgt_le h0.2
    · simp
  · simp
set_option maxRecDepth 100000 in
set_option maxHeartbeats 4000000 in
theorem walkTreePaths (w : World) (A : Option Addr) (n c : Nat) (f : Nat → Nat) (i : Int) (h : RdX w A n c (fun j => .int .u16 (f j))) (hf : ∀ j, j < n → f j < 65536) (_ : -9223372036854775808 ≤ i) (_ : i < 9223372036854775808) : Calls Tryd.prog 4 #[.slice A n c, .int .i64 i] w (Holds w) := by
  obtain ⟨m, hm⟩ : ∃ m, m = min n 70 := ⟨_, rfl⟩
  have m70 : m ≤ 70 := by omega
  obtain ⟨l, hl⟩ : ∃ l, l = leavesN f m := ⟨_, rfl⟩
  have SC := Lib.hid (some_c w A n c f 70 (Lib.hid h) hf (by omega))
  rw [← hm, ← hl] at SC
  clear hm hl h hf
  go_enter Tryd.func4, Tryd.ntmps4
  go_wp2_with fail
  refine SC.out.mono ?_
  rintro e w1 ⟨A1, c1, rfl, hO, hb⟩
  have RL := Lib.hid hO.rd
  have B := Lib.hid hb
  clear hO hb SC
  go_wp2_with fail
  go_loopw [6] (fun kv wr => ∃ k : Nat, k ≤ 2 ∧ kv = .int .i64 k ∧ Hid (RdD wr A1 m c1 l) ∧ Hid (Below w.heap.size w wr)) (fun kv _ => 2 - (intOf kv).toNat)
  case atStart => exact ⟨0, Nat.zero_le _, rfl, RL.out, B.out⟩
  case round =>
    clear RL B
    obtain ⟨k, hk, rfl, RL, B⟩ := hrel
    by_cases hlt : k < 2
    · have gk : (k : Int) < 2 := by omega
      by_cases hk1 : k = 1
      · subst hk1
        by_cases hm0 : 0 < m
        · have gm : (0 : Int) < (m : Int) := by omega
          obtain ⟨a, ha⟩ : ∃ a : Nat, IntKind.u64.wrap i = (a : Int) := ⟨(IntKind.u64.wrap i).toNat, by have := wrap_u64_nonneg i; omega⟩
          obtain ⟨r, hr⟩ : ∃ r, r = a % m := ⟨_, rfl⟩
          have lr : r < m := by rw [hr]; exact Nat.mod_lt _ (by omega)
          have v2 : IntKind.u64.wrap (m : Int) = (m : Int) := by simp [IntKind.wrap, IntKind.bits, IntKind.signed]; omega
          have v3 : (a : Int) % (m : Int) = (r : Int) := by rw [hr]; exact (Int.natCast_emod _ _).symm
          have v4 : (a : Int).tmod (m : Int) = (r : Int) := by rw [Int.tmod_eq_emod_of_nonneg (by omega)]; exact v3
          have v5 : IntKind.i64.wrap (r : Int) = (r : Int) := by rw [IntKind.wrap_i64]; omega
          have v6 : ¬ (m : Int) = 0 := by omega
          clear hr
          obtain ⟨p, hp⟩ : ∃ p, p = (pathV l (r : Int)).1 := ⟨_, rfl⟩
          obtain ⟨er, her⟩ : ∃ er, er = (pathV l (r : Int)).2 := ⟨_, rfl⟩
          have HP := Lib.hid hp
          have HE := Lib.hid her
          obtain ⟨pl, hpl⟩ : ∃ pl, pl = p.length := ⟨_, rfl⟩
          have HPL := Lib.hid hpl
          have pl12 : pl ≤ 12 := by rw [hpl, hp]; exact pathV_len l (r : Int)
          clear hp her hpl
          go_wp2_with fail
          refine (path_c _ A1 m c1 l (r : Int) RL).mono ?_
          rw [← HP.out, ← HE.out]
          unfold Paths
          rw [← HPL.out]
          rintro e w2 ⟨A2, c2, rfl, hO, hb⟩
          replace RL := Lib.hid (RL.out.ext hb)
          have P2 := Lib.hid hO.rd
          replace B := Lib.hid (ext_trans B.out hb)
          clear hO hb
          go_wp2_with fail
          refine (plain_c _ A1 m c1 l RL (by omega)).mono ?_
          rintro e w3 ⟨A3, c3, rfl, hO, hb⟩
          replace RL := Lib.hid (RL.out.ext hb)
          replace P2 := Lib.hid (P2.out.ext hb)
          have R3 := Lib.hid hO.rd
          replace B := Lib.hid (ext_trans B.out hb)
          clear hO hb
          go_wp2_with fail
          refine (rpath_c _ A3 m c3 l (r : Int) R3).mono ?_
          rw [← HP.out, ← HE.out]
          unfold PathsR
          rw [← HPL.out]
          rintro e w4 ⟨A4, c4, rfl, hO, hb⟩
          replace RL := Lib.hid (RL.out.ext hb)
          replace P2 := Lib.hid (P2.out.ext hb)
          have P4 := Lib.hid hO.rd
          replace B := Lib.hid (ext_trans B.out hb)
          clear hO hb R3
          go_wp2_with fail
          refine (plain_c _ A2 pl c2 p P2 (by omega)).mono ?_
          rintro e w5 ⟨A5, c5, rfl, hO, hb⟩
          replace RL := Lib.hid (RL.out.ext hb)
          replace P4 := Lib.hid (P4.out.ext hb)
          have P5 := Lib.hid hO.rd
          replace B := Lib.hid (ext_trans B.out hb)
          clear hO hb P2
          go_wp2_with fail
          refine (rsame_c _ A5 pl c5 p A4 pl c4 p P5 P4).mono ?_
          rw [decide_eq_true rfl]
          rintro e w6 ⟨rfl, hb⟩
          replace RL := Lib.hid (RL.out.ext hb)
          replace B := Lib.hid (ext_trans B.out hb)
          clear hb P4 P5
          go_wp2_with fail
          exact ⟨⟨1 + 1, by omega, by go_num, RL.out, B.out⟩, by simp [intOf]⟩
        · have gm : ¬ (0 : Int) < (m : Int) := by omega
          obtain ⟨p, hp⟩ : ∃ p, p = (pathV l i).1 := ⟨_, rfl⟩
          obtain ⟨er, her⟩ : ∃ er, er = (pathV l i).2 := ⟨_, rfl⟩
          have HP := Lib.hid hp
          have HE := Lib.hid her
          obtain ⟨pl, hpl⟩ : ∃ pl, pl = p.length := ⟨_, rfl⟩
          have HPL := Lib.hid hpl
          have pl12 : pl ≤ 12 := by rw [hpl, hp]; exact pathV_len l i
          clear hp her hpl
          go_wp2_with fail
          refine (path_c _ A1 m c1 l i RL).mono ?_
          rw [← HP.out, ← HE.out]
          unfold Paths
          rw [← HPL.out]
          rintro e w2 ⟨A2, c2, rfl, hO, hb⟩
          replace RL := Lib.hid (RL.out.ext hb)
          have P2 := Lib.hid hO.rd
          replace B := Lib.hid (ext_trans B.out hb)
          clear hO hb
          go_wp2_with fail
          refine (plain_c _ A1 m c1 l RL (by omega)).mono ?_
          rintro e w3 ⟨A3, c3, rfl, hO, hb⟩
          replace RL := Lib.hid (RL.out.ext hb)
          replace P2 := Lib.hid (P2.out.ext hb)
          have R3 := Lib.hid hO.rd
          replace B := Lib.hid (ext_trans B.out hb)
          clear hO hb
          go_wp2_with fail
          refine (rpath_c _ A3 m c3 l i R3).mono ?_
          rw [← HP.out, ← HE.out]
          unfold PathsR
          rw [← HPL.out]
          rintro e w4 ⟨A4, c4, rfl, hO, hb⟩
          replace RL := Lib.hid (RL.out.ext hb)
          replace P2 := Lib.hid (P2.out.ext hb)
          have P4 := Lib.hid hO.rd
          replace B := Lib.hid (ext_trans B.out hb)
          clear hO hb R3
          go_wp2_with fail
          refine (plain_c _ A2 pl c2 p P2 (by omega)).mono ?_
          rintro e w5 ⟨A5, c5, rfl, hO, hb⟩
          replace RL := Lib.hid (RL.out.ext hb)
          replace P4 := Lib.hid (P4.out.ext hb)
          have P5 := Lib.hid hO.rd
          replace B := Lib.hid (ext_trans B.out hb)
          clear hO hb P2
          go_wp2_with fail
          refine (rsame_c _ A5 pl c5 p A4 pl c4 p P5 P4).mono ?_
          rw [decide_eq_true rfl]
          rintro e w6 ⟨rfl, hb⟩
          replace RL := Lib.hid (RL.out.ext hb)
          replace B := Lib.hid (ext_trans B.out hb)
          clear hb P4 P5
          go_wp2_with fail
          exact ⟨⟨1 + 1, by omega, by go_num, RL.out, B.out⟩, by simp [intOf]⟩
      · have g1 : ¬ (k : Int) = 1 := by omega
        obtain ⟨p, hp⟩ : ∃ p, p = (pathV l i).1 := ⟨_, rfl⟩
        obtain ⟨er, her⟩ : ∃ er, er = (pathV l i).2 := ⟨_, rfl⟩
        have HP := Lib.hid hp
        have HE := Lib.hid her
        obtain ⟨pl, hpl⟩ : ∃ pl, pl = p.length := ⟨_, rfl⟩
        have HPL := Lib.hid hpl
        have pl12 : pl ≤ 12 := by rw [hpl, hp]; exact pathV_len l i
        clear hp her hpl
        go_wp2_with fail
        refine (path_c _ A1 m c1 l i RL).mono ?_
        rw [← HP.out, ← HE.out]
        unfold Paths
        rw [← HPL.out]
        rintro e w2 ⟨A2, c2, rfl, hO, hb⟩
        replace RL := Lib.hid (RL.out.ext hb)
        have P2 := Lib.hid hO.rd
        replace B := Lib.hid (ext_trans B.out hb)
        clear hO hb
        go_wp2_with fail
        refine (plain_c _ A1 m c1 l RL (by omega)).mono ?_
        rintro e w3 ⟨A3, c3, rfl, hO, hb⟩
        replace RL := Lib.hid (RL.out.ext hb)
        replace P2 := Lib.hid (P2.out.ext hb)
        have R3 := Lib.hid hO.rd
        replace B := Lib.hid (ext_trans B.out hb)
        clear hO hb
        go_wp2_with fail
        refine (rpath_c _ A3 m c3 l i R3).mono ?_
        rw [← HP.out, ← HE.out]
        unfold PathsR
        rw [← HPL.out]
        rintro e w4 ⟨A4, c4, rfl, hO, hb⟩
        replace RL := Lib.hid (RL.out.ext hb)
        replace P2 := Lib.hid (P2.out.ext hb)
        have P4 := Lib.hid hO.rd
        replace B := Lib.hid (ext_trans B.out hb)
        clear hO hb R3
        go_wp2_with fail
        refine (plain_c _ A2 pl c2 p P2 (by omega)).mono ?_
        rintro e w5 ⟨A5, c5, rfl, hO, hb⟩
        replace RL := Lib.hid (RL.out.ext hb)
        replace P4 := Lib.hid (P4.out.ext hb)
        have P5 := Lib.hid hO.rd
        replace B := Lib.hid (ext_trans B.out hb)
        clear hO hb P2
        go_wp2_with fail
        refine (rsame_c _ A5 pl c5 p A4 pl c4 p P5 P4).mono ?_
        rw [decide_eq_true rfl]
        rintro e w6 ⟨rfl, hb⟩
        replace RL := Lib.hid (RL.out.ext hb)
        replace B := Lib.hid (ext_trans B.out hb)
        clear hb P4 P5
        go_wp2_with fail
        exact ⟨⟨k + 1, by omega, by go_num, RL.out, B.out⟩, by simp [intOf]; omega⟩
    · obtain rfl : k = 2 := by omega
      go_wp2_with fail
      refine (told_c _).mono ?_
      rintro e w7 ⟨rfl, hb⟩
      replace B := Lib.hid (ext_trans B.out hb)
      clear hb
      go_wp2_with fail
      go_ret
      exact ⟨rfl, B.out⟩
#print axioms walkTreePaths
end Go.Proofs.YtaokfpndplbedaaDoor
