/-
  HashChains: the walk.
-/
import Derived.Test.YtbiflklmkppnkaaHKnown
import Derived.Test.YtbiflklmkppnkaaHFrame
namespace Go.Proofs.Ytbiflklmkppnkaa
open Go.ChangeShapes Go.WideShapes Go.ChangeAt Go.RowKit

theorem open_u16 {H : Type} {enc : TypeId × Value → H} {t : TypeId} (ht : Try.prog.underlying t = some (.int .u16)) {W : World} {base : Nat} {v : Value} {d : DataW H} {p : List MemPlace}
    (hv : Value.okWide Try.prog W .any base t v) (h : DataW.Trod enc Try.prog W 0 (fun _ => true) true t v d p) : ∃ m : Nat, v = .int .u16 m ∧ m < 65536 := by
  obtain ⟨k, rfl, rfl, rfl, hw⟩ := open_int ht hv h
  simp [Lit.wf, IntKind.min, IntKind.max, IntKind.signed, IntKind.bits] at hw
  exact ⟨k.toNat, by congr 1; omega, by omega⟩

theorem chainI_nat {n k : Nat} (h : k ≤ 1048576) : chainI n k = chainN n k := by
  unfold chainI
  by_cases h1 : 1 ≤ k
  · rw [if_pos (by omega), Int.toNat_natCast]
  · obtain rfl : k = 0 := by omega
    rw [if_neg (by omega)]; rfl
theorem chainN_add (n a : Nat) : ∀ b, chainN (chainN n a) b = chainN n (a + b)
  | 0 => rfl
  | b + 1 => by
    show oneN (chainN (chainN n a) b) = oneN (chainN n (a + b))
    rw [chainN_add n a b]

theorem schedC_skip {P : Program} {ops : Array Oper} {C : World → Prop} {K : Act → World → Prop} {i : Nat} {s : List (Bool × Nat)} {o : Oper} {a : Act} {w : World} (hi : ops[i]? = some o) (hw : Region.wanted o (yielded ops a.tmps) = false)
    (h : wpSchedC P ops C K s (a.put o.dst undef) w) : wpSchedC P ops C K ((true, i) :: s) a w := ⟨o, undef, hi, .inr ⟨hw, rfl⟩, h⟩

set_option maxRecDepth 100000 in
set_option maxHeartbeats 4000000 in
theorem walkHashChains (w : World) (d m n : Nat) (far : Int) (hd : d < 18446744073709551616) (hm : m < 65536) (hn : n < 65536) (_ : -9223372036854775808 ≤ far) (_ : far < 9223372036854775808) :
    Calls Try.prog 6 #[digV d, .int .u16 m, .int .u16 n, .int .i64 far] w (Holds w) := by
  obtain ⟨a, ha⟩ : ∃ a : Nat, a = m % 300 := ⟨_, rfl⟩
  obtain ⟨b, hb⟩ : ∃ b : Nat, b = n % 300 := ⟨_, rfl⟩
  have ea : (m : Int) % 300 = (a : Int) := by omega
  have eb : (n : Int) % 300 = (b : Int) := by omega
  have la : a < 300 := by omega
  have lb : b < 300 := by omega
  clear ha hb
  obtain ⟨X, hX⟩ : ∃ X, X = chainN d a := ⟨_, rfl⟩
  obtain ⟨Y, hY⟩ : ∃ Y, Y = chainN d (a + b) := ⟨_, rfl⟩
  obtain ⟨Z, hZ⟩ : ∃ Z, Z = chainN d (a + 1) := ⟨_, rfl⟩
  have LX : X < 18446744073709551616 := by rw [hX]; exact chainN_lt hd _
  have LY : Y < 18446744073709551616 := by rw [hY]; exact chainN_lt hd _
  have LZ : Z < 18446744073709551616 := by rw [hZ]; exact chainN_lt hd _
  have HXa : Hid (chainI d (a : Int) = X) := by rw [hX]; exact chainI_nat (by omega)
  have HYa : Hid (chainI d ((a : Int) + (b : Int)) = Y) := by rw [hY]; exact chainI_nat (k := a + b) (by omega)
  have HYb : Hid (chainI X (b : Int) = Y) := by rw [hY, hX, ← chainN_add]; exact chainI_nat (by omega)
  have HZa : Hid (chainI d ((a : Int) + 1) = Z) := by rw [hZ]; exact chainI_nat (k := a + 1) (by omega)
  have HZb : Hid (oneN X = Z) := by rw [hZ, hX]; rfl
  clear hX hY hZ
  have E1 := neq_r LX LX
  rw [decide_eq_true rfl] at E1
  have G1 := guard_r .neq X X
  have E2 := neq_d LY LY
  rw [decide_eq_true rfl] at E2
  have G2 := guard_d .neq Y Y
  have E3 := neq_d LZ LZ
  rw [decide_eq_true rfl] at E3
  have G3 := guard_d .neq Z Z
  have E4 := eql_d hd hd
  rw [decide_eq_true rfl] at E4
  have G4 := guard_d .eql d d
  unfold digV at E1 G1 E2 G2 E3 G3 E4 G4 ⊢
  go_enter Try.func6, Try.ntmps6
  go_wp2_with fail
  generalize hW : World.alloc (World.alloc w (.cells #[.int .u8 (byt d 0), .int .u8 (byt d 1), .int .u8 (byt d 2), .int .u8 (byt d 3), .int .u8 (byt d 4), .int .u8 (byt d 5), .int .u8 (byt d 6), .int .u8 (byt d 7)] 23)) (.cells #[.int .u8 (byt d 0), .int .u8 (byt d 1), .int .u8 (byt d 2), .int .u8 (byt d 3), .int .u8 (byt d 4), .int .u8 (byt d 5), .int .u8 (byt d 6), .int .u8 (byt d 7)] 25) = W
  have D : Hid (W.heap[w.heap.size]? = some (.cells #[.int .u8 (byt d 0), .int .u8 (byt d 1), .int .u8 (byt d 2), .int .u8 (byt d 3), .int .u8 (byt d 4), .int .u8 (byt d 5), .int .u8 (byt d 6), .int .u8 (byt d 7)] 23 (0, 0))) := by rw [← hW]; exact keepA (Go.heap_alloc_new w _)
  have R : Hid (W.heap[w.heap.size + 1]? = some (.cells #[.int .u8 (byt d 0), .int .u8 (byt d 1), .int .u8 (byt d 2), .int .u8 (byt d 3), .int .u8 (byt d 4), .int .u8 (byt d 5), .int .u8 (byt d 6), .int .u8 (byt d 7)] 25 (0, 0))) := by rw [← hW]; exact heap_alloc_newest (w := World.alloc _ _) (by simp)
  have B0 : Hid (Below w.heap.size w W) := by rw [← hW]; exact ext_trans (ext_alloc _ _) (ext_alloc _ _)
  clear hW
  refine wp_region_schedC (fun v => Below W.heap.size W v) [(false, 0), (true, 1), (true, 2), (true, 3), (true, 4), (true, 6), (true, 7), (false, 5), (false, 8), (true, 9), (true, 10), (true, 11), (true, 12), (true, 13), (true, 15), (true, 17), (true, 18), (true, 19), (true, 20), (false, 14), (false, 16), (false, 21), (true, 22), (true, 23), (true, 24), (true, 25), (true, 26), (true, 27), (true, 29), (true, 30), (false, 28), (false, 31), (false, 32), (true, 33), (true, 34)] (by kernel_rfl) rfl (by kernel_rfl) (by kernel_rfl) (fun _ _ d _ _ h => by cases d <;> exact h) (ext_drew W) ?_
  intro J0 hJ0
  refine schedC_eff rfl ?_
  intro J hJ
  go_wp2_with fail
  refine (known_c _).mono ?_
  try unfold digV
  rintro e w1 ⟨rfl, hb⟩
  have B : Hid (Below W.heap.size W w1) := Lib.hid (ext_trans (ext_drew W) hb)
  clear hb
  go_wp2_with fail
  refine ⟨B.out, ?_⟩
  iterate 6 (refine schedC_pure (v := ?_) rfl (by rfl) ?_ ?_; rotate_left; (focus (intro v hC; obtain ⟨ d0, d1, d2, d3, d4, d5, d6, d7, _, _, _, _, _, _, _, _⟩ := full8 (keepB hC D.out); obtain ⟨ r0, r1, r2, r3, r4, r5, r6, r7, _, _, _, _, _, _, _, _⟩ := full8 (keepB hC R.out); go_simp; try with_reducible rfl)); try go_simp)
  refine schedC_eff rfl ?_
  intro J hJ
  go_wp2_with fail
  refine (chain_c _ d hd (a : Int)).mono ?_
  rw [HXa.out]
  try unfold digV
  rintro e w2 ⟨rfl, hb⟩
  replace B : Hid (Below W.heap.size W w2) := Lib.hid (ext_trans B.out hb)
  clear hb
  go_wp2_with fail
  refine ⟨B.out, ?_⟩
  refine schedC_eff rfl ?_
  intro J hJ
  go_wp2_with fail
  refine (rchain_c _ d hd (a : Int)).mono ?_
  rw [HXa.out]
  try unfold digV
  rintro e w3 ⟨rfl, hb⟩
  replace B : Hid (Below W.heap.size W w3) := Lib.hid (ext_trans B.out hb)
  clear hb
  go_wp2_with fail
  refine ⟨B.out, ?_⟩
  iterate 10 (refine schedC_pure (v := ?_) rfl (by rfl) ?_ ?_; rotate_left; (focus (intro v hC; obtain ⟨ d0, d1, d2, d3, d4, d5, d6, d7, _, _, _, _, _, _, _, _⟩ := full8 (keepB hC D.out); obtain ⟨ r0, r1, r2, r3, r4, r5, r6, r7, _, _, _, _, _, _, _, _⟩ := full8 (keepB hC R.out); go_simp; try with_reducible rfl)); try go_simp)
  refine schedC_eff rfl ?_
  intro J hJ
  go_wp2_with fail
  refine (chain_c _ d hd (a : Int)).mono ?_
  rw [HXa.out]
  try unfold digV
  rintro e w4 ⟨rfl, hb⟩
  replace B : Hid (Below W.heap.size W w4) := Lib.hid (ext_trans B.out hb)
  clear hb
  go_wp2_with fail
  refine ⟨B.out, ?_⟩
  refine schedC_eff rfl ?_
  intro J hJ
  go_wp2_with fail
  refine (chain_c _ X LX (b : Int)).mono ?_
  rw [HYb.out]
  try unfold digV
  rintro e w5 ⟨rfl, hb⟩
  replace B : Hid (Below W.heap.size W w5) := Lib.hid (ext_trans B.out hb)
  clear hb
  go_wp2_with fail
  refine ⟨B.out, ?_⟩
  refine schedC_eff rfl ?_
  intro J hJ
  go_wp2_with fail
  refine (chain_c _ d hd ((a : Int) + (b : Int))).mono ?_
  rw [HYa.out]
  try unfold digV
  rintro e w6 ⟨rfl, hb⟩
  replace B : Hid (Below W.heap.size W w6) := Lib.hid (ext_trans B.out hb)
  clear hb
  go_wp2_with fail
  refine ⟨B.out, ?_⟩
  iterate 8 (refine schedC_pure (v := ?_) rfl (by rfl) ?_ ?_; rotate_left; (focus (intro v hC; obtain ⟨ d0, d1, d2, d3, d4, d5, d6, d7, _, _, _, _, _, _, _, _⟩ := full8 (keepB hC D.out); obtain ⟨ r0, r1, r2, r3, r4, r5, r6, r7, _, _, _, _, _, _, _, _⟩ := full8 (keepB hC R.out); go_simp; try with_reducible rfl)); try go_simp)
  refine schedC_eff rfl ?_
  intro J hJ
  go_wp2_with fail
  refine (chain_c _ d hd ((a : Int) + 1)).mono ?_
  rw [HZa.out]
  try unfold digV
  rintro e w7 ⟨rfl, hb⟩
  replace B : Hid (Below W.heap.size W w7) := Lib.hid (ext_trans B.out hb)
  clear hb
  go_wp2_with fail
  refine ⟨B.out, ?_⟩
  refine schedC_eff rfl ?_
  intro J hJ
  go_wp2_with fail
  refine (chain_c _ d hd (a : Int)).mono ?_
  rw [HXa.out]
  try unfold digV
  rintro e w8 ⟨rfl, hb⟩
  replace B : Hid (Below W.heap.size W w8) := Lib.hid (ext_trans B.out hb)
  clear hb
  go_wp2_with fail
  refine ⟨B.out, ?_⟩
  refine schedC_eff rfl ?_
  intro J hJ
  go_wp2_with fail
  refine (one_c _ X LX).mono ?_
  rw [HZb.out]
  try unfold digV
  rintro e w9 ⟨rfl, hb⟩
  replace B : Hid (Below W.heap.size W w9) := Lib.hid (ext_trans B.out hb)
  clear hb
  go_wp2_with fail
  refine ⟨B.out, ?_⟩
  iterate 2 (refine schedC_pure (v := ?_) rfl (by rfl) ?_ ?_; rotate_left; (focus (intro v hC; obtain ⟨ d0, d1, d2, d3, d4, d5, d6, d7, _, _, _, _, _, _, _, _⟩ := full8 (keepB hC D.out); obtain ⟨ r0, r1, r2, r3, r4, r5, r6, r7, _, _, _, _, _, _, _, _⟩ := full8 (keepB hC R.out); go_simp; try with_reducible rfl)); try go_simp)
  refine schedC_nil (hJ0 _ _ ?_)
  clear hJ0
  replace D := Lib.hid (keepB B.out D.out)
  replace R := Lib.hid (keepB B.out R.out)
  replace B0 := Lib.hid (ext_trans B0.out B.out)
  clear B
  by_cases f1 : 1 ≤ far
  · by_cases f2 : far ≤ 1048576
    · go_wp2_with fail
      go_quiet (fail)
      go_wp2_with fail
      go_ret
      exact ⟨rfl, ext_trans B0.out (ext_draws _ _)⟩
    · have HF : Hid (chainI d far = d) := if_neg (by omega)
      have q1 : decide (1 ≤ far) = true := by simpa using f1
      have q2 : decide (far ≤ 1048576) = false := by simpa using f2
      go_wp2_with fail
      refine wp_region_schedC (fun v => Below w9.heap.size w9 v) [(true, 0), (true, 1), (true, 2), (true, 3), (true, 4), (true, 5), (true, 6), (true, 7), (true, 8), (true, 10), (false, 9), (true, 11), (true, 12), (true, 13)] (by kernel_rfl) rfl (by kernel_rfl) (by kernel_rfl) (fun _ _ d _ _ h => by cases d <;> exact h) (ext_drew w9) ?_
      intro J0 hJ0
      iterate 10 (refine schedC_pure (v := ?_) rfl (by rfl) ?_ ?_; rotate_left; (focus (intro v hC; obtain ⟨ d0, d1, d2, d3, d4, d5, d6, d7, _, _, _, _, _, _, _, _⟩ := full8 (keepB hC D.out); obtain ⟨ r0, r1, r2, r3, r4, r5, r6, r7, _, _, _, _, _, _, _, _⟩ := full8 (keepB hC R.out); go_simp; try with_reducible rfl)); try go_simp)
      refine schedC_eff rfl ?_
      intro J hJ
      go_wp2_with fail
      refine (chain_c _ d hd far).mono ?_
      rw [HF.out]
      try unfold digV
      rintro e w10 ⟨rfl, hb⟩
      have B10 : Hid (Below w9.heap.size w9 w10) := Lib.hid (ext_trans (ext_drew w9) hb)
      clear hb
      go_wp2_with fail
      refine ⟨B10.out, ?_⟩
      iterate 3 (refine schedC_pure (v := ?_) rfl (by rfl) ?_ ?_; rotate_left; (focus (intro v hC; obtain ⟨ d0, d1, d2, d3, d4, d5, d6, d7, _, _, _, _, _, _, _, _⟩ := full8 (keepB hC D.out); obtain ⟨ r0, r1, r2, r3, r4, r5, r6, r7, _, _, _, _, _, _, _, _⟩ := full8 (keepB hC R.out); go_simp; try with_reducible rfl)); try go_simp)
      refine schedC_nil (hJ0 _ _ ?_)
      go_wp2_with fail
      go_ret
      exact ⟨rfl, ext_trans B0.out B10.out⟩
  · have HF : Hid (chainI d far = d) := if_neg (by omega)
    have q1 : decide (1 ≤ far) = false := by simpa using f1
    go_wp2_with fail
    refine wp_region_schedC (fun v => Below w9.heap.size w9 v) [(true, 0), (true, 1), (true, 2), (true, 3), (true, 4), (true, 5), (true, 6), (true, 7), (true, 8), (true, 10), (false, 9), (true, 11), (true, 12), (true, 13)] (by kernel_rfl) rfl (by kernel_rfl) (by kernel_rfl) (fun _ _ d _ _ h => by cases d <;> exact h) (ext_drew w9) ?_
    intro J0 hJ0
    iterate 3 (refine schedC_pure (v := ?_) rfl (by rfl) ?_ ?_; rotate_left; (focus (intro v hC; obtain ⟨ d0, d1, d2, d3, d4, d5, d6, d7, _, _, _, _, _, _, _, _⟩ := full8 (keepB hC D.out); obtain ⟨ r0, r1, r2, r3, r4, r5, r6, r7, _, _, _, _, _, _, _, _⟩ := full8 (keepB hC R.out); go_simp; try with_reducible rfl)); try go_simp)
    iterate 2 (refine schedC_skip rfl (by rfl) ?_)
    iterate 5 (refine schedC_pure (v := ?_) rfl (by rfl) ?_ ?_; rotate_left; (focus (intro v hC; obtain ⟨ d0, d1, d2, d3, d4, d5, d6, d7, _, _, _, _, _, _, _, _⟩ := full8 (keepB hC D.out); obtain ⟨ r0, r1, r2, r3, r4, r5, r6, r7, _, _, _, _, _, _, _, _⟩ := full8 (keepB hC R.out); go_simp; try with_reducible rfl)); try go_simp)
    refine schedC_eff rfl ?_
    intro J hJ
    go_wp2_with fail
    refine (chain_c _ d hd far).mono ?_
    rw [HF.out]
    try unfold digV
    rintro e w10 ⟨rfl, hb⟩
    have B10 : Hid (Below w9.heap.size w9 w10) := Lib.hid (ext_trans (ext_drew w9) hb)
    clear hb
    go_wp2_with fail
    refine ⟨B10.out, ?_⟩
    iterate 3 (refine schedC_pure (v := ?_) rfl (by rfl) ?_ ?_; rotate_left; (focus (intro v hC; obtain ⟨ d0, d1, d2, d3, d4, d5, d6, d7, _, _, _, _, _, _, _, _⟩ := full8 (keepB hC D.out); obtain ⟨ r0, r1, r2, r3, r4, r5, r6, r7, _, _, _, _, _, _, _, _⟩ := full8 (keepB hC R.out); go_simp; try with_reducible rfl)); try go_simp)
    refine schedC_nil (hJ0 _ _ ?_)
    go_wp2_with fail
    go_ret
    exact ⟨rfl, ext_trans B0.out B10.out⟩
#print axioms walkHashChains
end Go.Proofs.Ytbiflklmkppnkaa
