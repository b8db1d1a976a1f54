/-
  OctetInts: the walk.
-/
import Derived.Test.YtcikknhjhokmdaaInts0
import Derived.Test.YtcikknhjhokmdaaFrame
import Derived.Test.YtcikknhjhokmdaaSched
namespace Go.Proofs.Ytcikknhjhokmdaa
open Go.RowKit

/-- Int of a reader whose bytes begin with a number with a sign -/
theorem int_rn (w : World) (b : Nat) (A : Option Addr) (n c : Nat) (k : Int) (r : List UInt8) (h1 : -9223372036854775808 ≤ k) (h2 : k < 9223372036854775808) (h : Rdr w b A n c (num (fold k) ++ r) 0) :
    Calls Try.prog 24 #[.pointer (some ⟨b, 0, none⟩)] w (Reads1 w b (.int .i64 k) r 0) := by
  have hf := fold_lt h1 h2
  have := int_r w b A n c _ 0 h
  rw [rnum_num hf r (by omega)] at this
  simp only [unfold_fold] at this
  exact this

theorem rd_tail {w : World} {b o n c : Nat} {bs : List UInt8} (h : Rd w (some ⟨b, o, none⟩) n c bs) (h1 : 1 ≤ n) : Rd w (if c = 1 then some ⟨b, o, none⟩ else some ⟨b, o + 1, none⟩) (n - 1) (c - 1) (bs.drop 1) := by
  by_cases hc : c = 1
  · rw [if_pos hc]
    subst hc
    exact h.cutEnd h1
  · rw [if_neg hc]
    have := h.cut h1
    simpa [Addr.add_lit] using this
theorem same_tails (w : World) (b1 o1 c1 b2 o2 c2 : Nat) (x y : UInt8) (t : List UInt8) (n k : Nat) (hk : n - 1 = k) (hn : 1 ≤ n) (h1 : Rd w (some ⟨b1, o1, none⟩) n c1 (x :: t)) (h2 : Rd w (some ⟨b2, o2, none⟩) n c2 (y :: t)) :
    Calls Try.prog 17 #[.slice (if c1 = 1 then some ⟨b1, o1, none⟩ else some ⟨b1, o1 + 1, none⟩) k (c1 - 1), .slice (if c2 = 1 then some ⟨b2, o2, none⟩ else some ⟨b2, o2 + 1, none⟩) k (c2 - 1)] w
      (fun e w' => e = .returned (.bool true) ∧ Below w.heap.size w w') := by
  subst hk
  exact same_yes w _ _ _ t (rd_tail h1 hn) _ _ (rd_tail h2 hn)
theorem Rd.zero (w : World) (a : Addr) (c : Nat) (h : c ≤ 9223372036854775807) : Rd w (some a) 0 c [] := ⟨rfl, Nat.zero_le _, h, fun h0 => absurd h0 (by omega), fun h => by cases h⟩
theorem rd_tail2 {w : World} {b o n c : Nat} {x : UInt8} {t : List UInt8} (h : Rd w (some ⟨b, o, none⟩) n c (x :: t)) (h1 : 1 ≤ n) : Rd w (some ⟨b, o + 1, none⟩) (n - 1) (c - 1) t := by
  have := h.cut h1
  simpa [Addr.add_lit] using this
theorem head_cell {w : World} {A : Option Addr} {n c : Nat} {x : UInt8} {t : List UInt8} (h : Rd w A n c (x :: t)) : ∃ b o, A = some ⟨b, o, none⟩ ∧ b < w.heap.size ∧ w.cell? ⟨b, o, none⟩ = some (.int .u8 (x.toNat : Nat)) := by
  obtain ⟨b, o, hA, hb, hc⟩ := h.cells (by have := h.len; simp at this; omega)
  exact ⟨b, o, hA, hb, by have := hc 0 (by have := h.len; simp at this; omega); simpa using this⟩

set_option maxRecDepth 100000 in
set_option maxHeartbeats 2000000 in
theorem ints_pos (w : World) (K : Nat) (hK : Hid (K < 9223372036854775808)) :
    Calls Try.prog 9 #[.int .i64 (K : Int)] w (Holds w) := by
  obtain ⟨x, t, e1, e2, hx, hx1, ht, ht2⟩ := num_pair K
  have f1 : fold (K : Int) = 2 * K := by have := fold_pos (k := (K : Int)) (by omega); omega
  have f2 : fold (-(K : Int) - 1) = 2 * K + 1 := by have := fold_neg (k := -(K : Int) - 1) (by omega); omega
  have g1 := unfold_fold (k := (K : Int))
  have g2 := unfold_fold (k := -(K : Int) - 1)
  have E1 := Lib.hid e1
  have E2 := Lib.hid e2
  have F1 := Lib.hid f1
  have F2 := Lib.hid f2
  have G1 := Lib.hid g1
  have G2 := Lib.hid g2
  have X1 := Lib.hid hx1
  have HT := Lib.hid ht
  have HT2 := Lib.hid ht2
  clear e1 e2 f1 f2 g1 g2 hx1 ht ht2
  have hKi : (0 : Int) ≤ (K : Int) := by omega
  have hKm : (K : Int) ≤ 9223372036854775807 := by have := hK.out; omega
  go_enter Try.func9, Try.ntmps9
  go_wp2_with fail
  refine (putInt_c _ _ _ _ [] (Rd.nil _) (by omega) (K : Int) (by omega) (by omega)).mono ?_
  rintro e w1 ⟨A1, n1, c1, rfl, ho1, hb1⟩
  go_wp2_with fail
  refine (putInt_c _ _ _ _ [] (Rd.nil _) (by omega) (-(K : Int) - 1) (by omega) (by omega)).mono ?_
  rintro e w2 ⟨A2, n2, c2, rfl, ho2, hb2⟩
  have r1 : Rd w2 A1 n1 c1 (x :: t) := by have := ho1.rd.ext hb2; rw [F1.out, E1.out] at this; exact this
  have r2 : Rd w2 A2 n2 c2 ((x + 1) :: t) := by have := ho2.rd; rw [F2.out, E2.out] at this; exact this
  have q2 : Below w.heap.size w w2 := ext_trans hb1 hb2
  obtain rfl : n2 = n1 := by have := r1.len; have := r2.len; simp at *; omega
  have hn0 : 0 < n2 := by have := r1.len; simp at this; omega
  have hn1 : n2 ≤ 10 := by have := ho2.len; have := num_ten (fold_lt (k := -(K : Int) - 1) (by omega) (by omega)); simp at *; omega
  have hsm : K < 64 → n2 = 1 := fun h => by have := r1.len; rw [HT.out h] at this; simp at this; omega
  obtain ⟨b1, o1, rfl, hl1, k1⟩ := head_cell r1
  obtain ⟨b2, o2, rfl, hl2, k2⟩ := head_cell r2
  rw [X1.out] at k2
  have R1 := Lib.hid r1
  have R2 := Lib.hid r2
  have HS := Lib.hid hsm
  clear ho1 ho2 hb1 hb2 r1 r2 hsm
  have z1 : ((n2 : Int) == 0) = false := by rw [beq_eq_false_iff_ne]; omega
  have hw : IntKind.u8.wrap ((x.toNat : Int) + 1) = (x.toNat : Int) + 1 := by rw [IntKind.wrap_u8']; omega
  have d0 : decide ((K : Int) < 0) = false := by simp
  have n1w : IntKind.i64.wrap (-(K : Int)) = -(K : Int) := IntWalk.i64_in _ (by omega)
  have n2w : IntKind.i64.wrap (-(K : Int) - 1) = -(K : Int) - 1 := IntWalk.i64_in _ (by omega)
  by_cases h64 : K < 64
  · obtain rfl := HS.out h64
    have d64 : decide ((K : Int) < 64) = true := by simp; omega
    go_wp2_with fail
    go_quiet (fail)
    go_wp2_with fail
    refine (newReader_c _ _ _ _ _ (R1.out.ext (ext_draws _ _)) (by omega)).mono ?_
    rintro e w3 ⟨p1, B1, m1, g1, rfl, hr1, hp1, hb3⟩
    have q3 : Below w2.heap.size w2 w3 := ext_trans (ext_draws _ _) hb3
    have hp1' : w2.heap.size ≤ p1 := hp1
    clear hb3 hp1
    go_wp2_with fail
    refine (newReader_c _ _ _ _ _ (R2.out.ext q3) (by omega)).mono ?_
    rintro e w4 ⟨p2, B2, m2, g2, rfl, hr2, hp2, hb4⟩
    have hr1' := hr1.ext hb4
    have hlt1 := hr1.lt
    have hne : p1 ≠ p2 := by omega
    have q4 : Below w2.heap.size w2 w4 := ext_trans q3 hb4
    have hp2' : w2.heap.size ≤ p2 := Nat.le_trans q3.size hp2
    clear hb4 hp2 hr1 hlt1
    have T1 : Hid (Rdr w4 p1 B1 m1 g1 (num (fold (K : Int)) ++ []) 0) := by show Rdr _ _ _ _ _ _ _; rw [List.append_nil, F1.out, E1.out]; exact hr1'
    have T2 : Hid (Rdr w4 p2 B2 m2 g2 (num (fold (-(K : Int) - 1)) ++ []) 0) := by show Rdr _ _ _ _ _ _ _; rw [List.append_nil, F2.out, E2.out]; exact hr2
    have P := Lib.hid (And.intro hne (And.intro hp1' hp2'))
    clear hr1' hr2 hp1' hp2' hne k1 k2 E1 E2
    have Q4 := Lib.hid q4
    clear q4
    go_wp2_with fail
    refine wp_region_sched [(false, 0), (true, 1), (true, 2), (true, 4), (false, 3), (true, 5), (true, 6), (true, 7), (true, 8), (true, 10), (true, 11), (true, 12), (false, 9), (true, 13), (true, 14), (true, 15), (true, 16), (true, 17), (true, 18), (true, 19), (false, 20), (true, 21), (true, 22)] (by kernel_rfl) rfl (by kernel_rfl) (by kernel_rfl) (fun _ _ d _ _ h => by cases d <;> exact h) ?_
    intro J0 hJ0
    refine sched_eff rfl ?_
    intro J hJ
    go_wp2_with fail
    refine (known_c _).mono ?_
    rintro e w5 ⟨rfl, hb5⟩
    have Q5 := Lib.hid (show Below w4.heap.size w4 w5 from ext_trans (ext_drew _) hb5)
    have T5 := Lib.hid (T1.out.ext Q5.out)
    have U5 := Lib.hid (T2.out.ext Q5.out)
    clear hb5
    go_wp2_with fail
    repeat (refine sched_pure (v := ?_) rfl (by rfl) ?_ ?_; rotate_left; (focus (intro w; go_simp; try with_reducible rfl)); try go_simp)
    refine sched_eff rfl ?_
    intro J1 hJ1
    go_wp2_with fail
    refine (int_rn _ _ _ _ _ (K : Int) [] (by omega) (by omega) T5.out).mono ?_
    rintro e w6 ⟨rfl, A6, n6, c6, h6, hg6⟩
    have U6 := Lib.hid (U5.out.other T5.out P.out.1.symm hg6)
    have Q6 := Lib.hid (show Below w2.heap.size w2 w6 from below_grown (ext_trans Q4.out Q5.out) (ext_trans Q4.out Q5.out).size hg6 (fun k hk => by injection hk with hk; rw [← hk]; exact P.out.2.1))
    clear h6 hg6
    go_wp2_with fail
    repeat (refine sched_pure (v := ?_) rfl (by rfl) ?_ ?_; rotate_left; (focus (intro w; go_simp; try with_reducible rfl)); try go_simp)
    refine sched_eff rfl ?_
    intro J2 hJ2
    go_wp2_with fail
    refine (int_rn _ _ _ _ _ (-(K : Int) - 1) [] (by omega) (by omega) U6.out).mono ?_
    rintro e w7 ⟨rfl, A7, n7, c7, h7, hg7⟩
    have Q7 := Lib.hid (show Below w2.heap.size w2 w7 from below_grown Q6.out Q6.out.size hg7 (fun k hk => by injection hk with hk; rw [← hk]; exact P.out.2.2))
    clear h7 hg7
    go_wp2_with fail
    repeat (refine sched_pure (v := ?_) rfl (by rfl) ?_ ?_; rotate_left; (focus (intro w; go_simp; try with_reducible rfl)); try go_simp)
    refine sched_eff rfl ?_
    intro J3 hJ3
    go_wp2_with fail
    all_goals refine (same_yes _ _ _ _ [] (Rd.zero _ _ _ (by have := R1.out.max; omega)) _ _ (Rd.zero _ _ _ (by have := R2.out.max; omega))).mono ?_
    all_goals rintro e w8 ⟨rfl, hb8⟩
    all_goals go_wp2_with fail
    all_goals repeat (refine sched_pure (v := ?_) rfl (by rfl) ?_ ?_; rotate_left; (focus (intro w; go_simp; try with_reducible rfl)); try go_simp)
    all_goals refine sched_nil (hJ0 _ _ ?_)
    all_goals go_wp2_with fail
    all_goals go_ret
    all_goals exact ⟨rfl, ext_trans q2 (ext_trans Q7.out hb8)⟩
  · have hn2 : 2 ≤ n2 := by have := R1.out.len; have := HT2.out h64; simp only [List.length_cons] at *; omega
    have hc1 : ¬ c1 = 1 := by have := R1.out.le; omega
    have hc2 : ¬ c2 = 1 := by have := R2.out.le; omega
    have hcl1 : (1 : Int) ≤ (n2 : Int) := by omega
    have d64 : decide ((K : Int) < 64) = false := by simp; omega
    go_wp2_with fail
    go_quiet (fail)
    go_wp2_with fail
    refine (newReader_c _ _ _ _ _ (R1.out.ext (ext_draws _ _)) (by omega)).mono ?_
    rintro e w3 ⟨p1, B1, m1, g1, rfl, hr1, hp1, hb3⟩
    have q3 : Below w2.heap.size w2 w3 := ext_trans (ext_draws _ _) hb3
    have hp1' : w2.heap.size ≤ p1 := hp1
    clear hb3 hp1
    go_wp2_with fail
    refine (newReader_c _ _ _ _ _ (R2.out.ext q3) (by omega)).mono ?_
    rintro e w4 ⟨p2, B2, m2, g2, rfl, hr2, hp2, hb4⟩
    have hr1' := hr1.ext hb4
    have hlt1 := hr1.lt
    have hne : p1 ≠ p2 := by omega
    have q4 : Below w2.heap.size w2 w4 := ext_trans q3 hb4
    have hp2' : w2.heap.size ≤ p2 := Nat.le_trans q3.size hp2
    clear hb4 hp2 hr1 hlt1
    have T1 : Hid (Rdr w4 p1 B1 m1 g1 (num (fold (K : Int)) ++ []) 0) := by show Rdr _ _ _ _ _ _ _; rw [List.append_nil, F1.out, E1.out]; exact hr1'
    have T2 : Hid (Rdr w4 p2 B2 m2 g2 (num (fold (-(K : Int) - 1)) ++ []) 0) := by show Rdr _ _ _ _ _ _ _; rw [List.append_nil, F2.out, E2.out]; exact hr2
    have P := Lib.hid (And.intro hne (And.intro hp1' hp2'))
    clear hr1' hr2 hp1' hp2' hne k1 k2 E1 E2
    have Q4 := Lib.hid q4
    clear q4
    go_wp2_with fail
    refine wp_region_sched [(false, 0), (true, 1), (true, 2), (true, 4), (false, 3), (true, 5), (true, 6), (true, 7), (true, 8), (true, 10), (true, 11), (true, 12), (false, 9), (true, 13), (true, 14), (true, 15), (true, 16), (true, 17), (true, 18), (true, 19), (false, 20), (true, 21), (true, 22)] (by kernel_rfl) rfl (by kernel_rfl) (by kernel_rfl) (fun _ _ d _ _ h => by cases d <;> exact h) ?_
    intro J0 hJ0
    refine sched_eff rfl ?_
    intro J hJ
    go_wp2_with fail
    refine (known_c _).mono ?_
    rintro e w5 ⟨rfl, hb5⟩
    have Q5 := Lib.hid (show Below w4.heap.size w4 w5 from ext_trans (ext_drew _) hb5)
    have T5 := Lib.hid (T1.out.ext Q5.out)
    have U5 := Lib.hid (T2.out.ext Q5.out)
    clear hb5
    go_wp2_with fail
    repeat (refine sched_pure (v := ?_) rfl (by rfl) ?_ ?_; rotate_left; (focus (intro w; go_simp; try with_reducible rfl)); try go_simp)
    refine sched_eff rfl ?_
    intro J1 hJ1
    go_wp2_with fail
    refine (int_rn _ _ _ _ _ (K : Int) [] (by omega) (by omega) T5.out).mono ?_
    rintro e w6 ⟨rfl, A6, n6, c6, h6, hg6⟩
    have U6 := Lib.hid (U5.out.other T5.out P.out.1.symm hg6)
    have Q6 := Lib.hid (show Below w2.heap.size w2 w6 from below_grown (ext_trans Q4.out Q5.out) (ext_trans Q4.out Q5.out).size hg6 (fun k hk => by injection hk with hk; rw [← hk]; exact P.out.2.1))
    clear h6 hg6
    go_wp2_with fail
    repeat (refine sched_pure (v := ?_) rfl (by rfl) ?_ ?_; rotate_left; (focus (intro w; go_simp; try with_reducible rfl)); try go_simp)
    refine sched_eff rfl ?_
    intro J2 hJ2
    go_wp2_with fail
    refine (int_rn _ _ _ _ _ (-(K : Int) - 1) [] (by omega) (by omega) U6.out).mono ?_
    rintro e w7 ⟨rfl, A7, n7, c7, h7, hg7⟩
    have Q7 := Lib.hid (show Below w2.heap.size w2 w7 from below_grown Q6.out Q6.out.size hg7 (fun k hk => by injection hk with hk; rw [← hk]; exact P.out.2.2))
    clear h7 hg7
    go_wp2_with fail
    repeat (refine sched_pure (v := ?_) rfl (by rfl) ?_ ?_; rotate_left; (focus (intro w; go_simp; try with_reducible rfl)); try go_simp)
    refine sched_eff rfl ?_
    intro J3 hJ3
    go_wp2_with fail
    refine (same_yes _ _ _ _ _ (rd_tail2 (R1.out.ext Q7.out) (by omega)) _ _ (rd_tail2 (R2.out.ext Q7.out) (by omega))).mono ?_
    all_goals rintro e w8 ⟨rfl, hb8⟩
    all_goals go_wp2_with fail
    all_goals repeat (refine sched_pure (v := ?_) rfl (by rfl) ?_ ?_; rotate_left; (focus (intro w; go_simp; try with_reducible rfl)); try go_simp)
    all_goals refine sched_nil (hJ0 _ _ ?_)
    all_goals go_wp2_with fail
    all_goals go_ret
    all_goals exact ⟨rfl, ext_trans q2 (ext_trans Q7.out hb8)⟩
#print axioms ints_pos
end Go.Proofs.Ytcikknhjhokmdaa
