/-
  CoinKeeps: the walk.
-/
import Derived.Test.YtonmaaoekljfdaaCAsk2
namespace Go.Proofs.Ytonmaaoekljfdaa
open Go.RowKit

set_option maxRecDepth 100000 in
set_option maxHeartbeats 4000000 in
theorem keeps_ok (w : World) (amount : Int) (S : Nat) (A : Option Addr) (n c : Nat) (xs : Nat → Int × Int) (last : Int) (h : Hid (RdP w A n c xs)) (hn : n ≤ 40) (ha : Hid (Amt amount)) (h1 : 1 ≤ S) (h8 : S ≤ 8) :
    Calls Try.prog 8 #[.int .i64 amount, .int .i64 S, .agg #[.slice A n c, .int .i64 last]] w (Holds w) := by
  have hle := h.out.le
  have hmax := h.out.max
  have gI : ¬ (40 : Int) < (n : Int) := by omega
  have a0 : 0 ≤ amount := ha.out.1
  have a1 : amount ≤ 1125899906842624 := ha.out.2
  go_enter Try.func8, Try.ntmps8
  go_wp2_with fail
  generalize hW : World.alloc w (.cells #[.slice A n c, .int .i64 last] 56) = W
  have D : Hid (W.heap[w.heap.size]? = some (.cells #[.slice A n c, .int .i64 last] 56 (0, 0))) := by rw [← hW]; exact Go.heap_alloc_new w _
  have B : Hid (Below w.heap.size w W) := by rw [← hW]; exact ext_alloc _ _
  clear hW
  refine wp_region_schedC (fun v => Below W.heap.size W v) [(true, 0), (true, 1), (true, 2), (true, 3), (true, 4), (true, 5)] (by kernel_rfl) rfl (by kernel_rfl) (by kernel_rfl) (fun _ _ d _ _ h => by cases d <;> exact h) (ext_drew W) ?_
  intro J0 hJ0
  iterate 6 (refine schedC_pure (v := ?_) rfl (by rfl) ?_ ?_; rotate_left; (focus (intro v hC; obtain ⟨e0, e1⟩ := full2 (keepB hC D.out); go_simp; try with_reducible rfl)); try go_simp)
  refine schedC_nil (hJ0 _ _ ?_)
  clear hJ0
  replace B : Hid (Below w.heap.size w W.drew) := ext_trans B.out (ext_drew W)
  clear D
  generalize W.drew = V at *
  go_wp2_with fail
  refine (newPot_ok V amount S ha (by omega) (by omega)).mono ?_
  rintro e w1 ⟨b, rfl, hp, hbw, hb⟩
  have P1 := Lib.hid hp
  have zb : w.heap.size ≤ b := Nat.le_trans B.out.size hbw
  replace B := Lib.hid (ext_trans B.out hb)
  clear hp hb hbw
  go_wp2_with fail
  go_loopw [11] (fun iv wr => ∃ (k : Nat) (left : Int) (hs : List Int), k ≤ n ∧ iv = .int .i64 k ∧ Hid (Pot wr b left S hs) ∧ Hid ((hs.take S).sum + left = amount) ∧ Hid (Below w.heap.size w wr)) (fun iv _ => n - (intOf iv).toNat)
  case atStart => exact ⟨0, amount, _, Nat.zero_le _, rfl, P1.out, by show _ = _; rw [List.take_replicate, Nat.min_eq_left h8]; simp, B.out⟩
  case round =>
    clear P1 B
    rename World => w2
    obtain ⟨k, left, hs, hk, rfl, PT, SM, B⟩ := hrel
    have f1 := PT.out.fits.1
    have HL := Lib.hid PT.out.len
    by_cases hlt : k < n
    · obtain ⟨b0, o0, rfl, hb0, hc0⟩ := h.out.cells (by omega)
      obtain ⟨q1, q2⟩ := hc0 k hlt
      obtain ⟨s, hs1⟩ : ∃ s, s = (xs k).1 := ⟨_, rfl⟩
      obtain ⟨a, hs2⟩ : ∃ a, a = (xs k).2 := ⟨_, rfl⟩
      rw [← hs1] at q1
      rw [← hs2] at q2
      have Q1 := Lib.hid ((B.out.cell (p := ⟨b0, o0 + k * 2, none⟩) hb0).trans q1)
      have Q2 := Lib.hid ((B.out.cell (p := ⟨b0, o0 + k * 2 + 1, none⟩) hb0).trans q2)
      have zb0 : b0 < w2.heap.size := Nat.lt_of_lt_of_le hb0 B.out.size
      have nb : ¬ some b0 = some b := by intro e; injection e with e; omega
      clear q1 q2 hs1 hs2 hc0
      obtain ⟨x, hx⟩ : ∃ x, x = min (max a 0) left := ⟨_, rfl⟩
      have x0 : 0 ≤ x := by omega
      have x1 : x ≤ left := by omega
      have HX := Lib.hid hx
      clear hx
      obtain ⟨j, hj⟩ : ∃ j, j = seatAt s S := ⟨_, rfl⟩
      have jS : j < S := by rw [hj]; exact seatAt_lt s S h1
      have HJ := Lib.hid hj
      clear hj
      have SM2 : Hid (((hs.set j (hs.getD j 0 + x)).take S).sum + (left - x) = amount) := by show _ = _; rw [take_paid hs S j x jS (by rw [HL.out]; exact h8), ← SM.out]; omega
      have hltI : (k : Int) < (n : Int) := by omega
      have hkI : (0 : Int) ≤ (k : Int) := by omega
      go_wp2_with fail
      refine wp_region_schedC (fun v => World.grownBy w2 v (some b)) [(true, 0), (true, 1), (true, 2), (true, 3), (true, 4), (true, 5), (true, 6), (true, 7), (true, 8), (true, 9), (true, 10), (false, 11), (true, 12)] (by kernel_rfl) rfl (by kernel_rfl) (by kernel_rfl) (fun _ _ d _ _ h => by cases d <;> exact h) (drew_grown w2 _) ?_
      intro J0 hJ0
      iterate 11 (refine schedC_pure (v := ?_) rfl (by rfl) ?_ ?_; rotate_left; (focus (intro v hC; have r1 := (World.cell?_of_block (a := ⟨b0, o0 + k * 2, none⟩) (hC.block b0 zb0 nb)).trans Q1.out; have r2 := (World.cell?_of_block (a := ⟨b0, o0 + k * 2 + 1, none⟩) (hC.block b0 zb0 nb)).trans Q2.out; go_simp; try with_reducible rfl)); try go_simp)
      refine schedC_eff rfl ?_
      intro J hJ
      go_wp2_with fail
      refine (pay_c _ b left S hs (PT.out.ext (ext_drew w2)) s a).mono ?_
      rw [← HX.out, ← HJ.out]
      rintro e w3 ⟨rfl, hp, hg⟩
      have P3 := Lib.hid hp
      have G3 : Hid (World.grownBy w2 w3 (some b)) := grown_then (drew_grown w2 _) hg
      clear hp hg
      go_wp2_with fail
      refine ⟨G3.out, ?_⟩
      iterate 1 (refine schedC_pure (v := ?_) rfl (by rfl) ?_ ?_; rotate_left; (focus (intro v hC; go_simp; try with_reducible rfl)); try go_simp)
      refine schedC_nil (hJ0 _ _ ?_)
      clear hJ0 PT SM
      replace B := Lib.hid (below_grown B.out B.out.size G3.out (fun k hk => by injection hk with hk; omega))
      obtain ⟨hs2, hh⟩ : ∃ l, l = hs.set j (hs.getD j 0 + x) := ⟨_, rfl⟩
      rw [← hh] at P3 SM2
      obtain ⟨l2, hl2⟩ : ∃ l, l = left - x := ⟨_, rfl⟩
      rw [← hl2] at P3 SM2
      have HF := Lib.hid P3.out.fits
      have l20 : 0 ≤ l2 := P3.out.fits.1
      obtain ⟨t, ht⟩ : ∃ t, t = (hs2.take S).sum := ⟨_, rfl⟩
      have t0 : 0 ≤ t := by rw [ht]; exact sum_nonneg _ (P3.out.nonneg S)
      have tI : t + l2 = amount := by rw [ht]; exact SM2.out
      have ST : Hid (sumF 0 (hs2.take S) = (t, 0)) := by show _ = _; rw [sumF_all _ 0 (by omega) (P3.out.nonneg S) (by rw [← ht]; omega), ← ht, Int.zero_add]
      clear hh hl2 ht Q1 Q2 G3
      go_wp2_with fail
      refine (pays_c _ b l2 S hs2 P3).mono ?_
      rw [Int.toNat_natCast]
      rintro e w4 ⟨A4, c4, rfl, ho, hb⟩
      have O4 := Lib.hid ho.rd
      have P4 := Lib.hid (P3.out.ext hb)
      replace B := Lib.hid (ext_trans B.out hb)
      clear ho hb P3
      go_wp2_with fail
      refine (sum_c _ _ _ _ _ O4.out).mono ?_
      rw [ST.out]
      rintro e w5 ⟨rfl, rfl⟩
      go_wp2_with fail
      refine (left_c _ b l2 S hs2 P4.out).mono ?_
      rintro e w5 ⟨rfl, rfl⟩
      go_wp2_with fail
      refine (left_c _ b l2 S hs2 P4.out).mono ?_
      rintro e w5 ⟨rfl, rfl⟩
      go_wp2_with fail
      exact ⟨⟨k + 1, l2, hs2, by omega, by go_num, P4.out, SM2.out, B.out⟩, by simp [intOf]; omega⟩
    · obtain rfl : n = k := by omega
      have hLI : ¬ (n : Int) < (n : Int) := by omega
      obtain ⟨j, hj⟩ : ∃ j, j = seatAt last S := ⟨_, rfl⟩
      have jS : j < S := by rw [hj]; exact seatAt_lt last S h1
      have HJ := Lib.hid hj
      clear hj
      have SM2 : Hid (((hs.set j (hs.getD j 0 + left)).take S).sum = amount) := by show _ = _; rw [take_paid hs S j left jS (by rw [HL.out]; exact h8), ← SM.out]
      go_wp2_with fail
      refine (rest_c _ b left S hs PT last).mono ?_
      rw [← HJ.out]
      unfold Rests
      rw [Int.toNat_natCast]
      rintro e w3 ⟨A3, c3, rfl, hp, ho, hg⟩
      obtain ⟨hs2, hh⟩ : ∃ l, l = hs.set j (hs.getD j 0 + left) := ⟨_, rfl⟩
      rw [← hh] at hp ho SM2
      have P3 := Lib.hid hp
      have O3 := Lib.hid ho
      replace B := Lib.hid (below_grown B.out B.out.size hg (fun k hk => by injection hk with hk; omega))
      have z3 : b < w3.heap.size := hp.lt
      have NB : Hid (∀ g, (Value.slice A3 S c3).ownBlock = some g → some b ≠ some g) := fun g hg2 e => by injection e with e; have := (ho.row.lt g hg2).1; have := PT.out.lt; omega
      have ST : Hid (sumF 0 (hs2.take S) = (amount, 0)) := by show _ = _; rw [sumF_all _ 0 (by omega) (hp.nonneg S) (by rw [SM2.out]; omega), SM2.out, Int.zero_add]
      clear hh hp ho hg PT SM
      go_wp2_with fail
      refine (sum_c _ _ _ _ _ O3.out.rd).mono ?_
      rw [ST.out]
      rintro e w4 ⟨rfl, rfl⟩
      go_wp2_with fail
      refine (left_c _ b 0 S hs2 P3.out).mono ?_
      rintro e w4 ⟨rfl, rfl⟩
      go_wp2_with fail
      refine (pays_c _ b 0 S hs2 P3).mono ?_
      rw [Int.toNat_natCast]
      rintro e w4 ⟨A4, c4, rfl, ho, hb⟩
      have O4 := Lib.hid ho.rd
      have P4 := Lib.hid (P3.out.ext hb)
      have O34 := Lib.hid (O3.out.ext hb)
      replace B := Lib.hid (ext_trans B.out hb)
      clear ho hb P3 O3
      go_wp2_with fail
      refine (alike_yes _ _ _ _ _ O4.out _ _ O34.out.rd).mono ?_
      rintro e w5 ⟨rfl, hb⟩
      have P5 := Lib.hid (P4.out.ext hb)
      replace B := Lib.hid (ext_trans B.out hb)
      clear hb P4 O4 O34
      go_wp2_with fail
      refine (pay_c _ b 0 S hs2 P5.out 0 5).mono ?_
      rw [show min (max (5 : Int) 0) 0 = 0 by decide]
      rintro e w6 ⟨rfl, hp, hg⟩
      replace B := Lib.hid (below_grown B.out B.out.size hg (fun k hk => by injection hk with hk; omega))
      clear hp hg
      go_wp2_with fail
      refine (told_c _).mono ?_
      rintro e w7 ⟨rfl, hb⟩
      replace B := Lib.hid (ext_trans B.out hb)
      clear hb
      go_wp2_with fail
      go_ret
      exact ⟨by simp, B.out⟩
#print axioms keeps_ok

set_option maxRecDepth 100000 in
set_option maxHeartbeats 1000000 in
theorem keeps_long (w : World) (amount seats : Int) (A : Option Addr) (n c : Nat) (xs : Nat → Int × Int) (last : Int) (h : Hid (RdP w A n c xs)) (hn : n > 40) :
    Calls Try.prog 8 #[.int .i64 amount, .int .i64 seats, .agg #[.slice A n c, .int .i64 last]] w (Holds w) := by
  have hle := h.out.le
  have hmax := h.out.max
  have gI : (40 : Int) < (n : Int) := by omega
  go_enter Try.func8, Try.ntmps8
  go_wp2_with fail
  generalize hW : World.alloc w (.cells #[.slice A n c, .int .i64 last] 56) = W
  have D : Hid (W.heap[w.heap.size]? = some (.cells #[.slice A n c, .int .i64 last] 56 (0, 0))) := by rw [← hW]; exact Go.heap_alloc_new w _
  have B : Hid (Below w.heap.size w W) := by rw [← hW]; exact ext_alloc _ _
  clear hW
  refine wp_region_schedC (fun v => Below W.heap.size W v) [(true, 0), (true, 1), (true, 2), (true, 3), (true, 4), (true, 5)] (by kernel_rfl) rfl (by kernel_rfl) (by kernel_rfl) (fun _ _ d _ _ h => by cases d <;> exact h) (ext_drew W) ?_
  intro J0 hJ0
  iterate 6 (refine schedC_pure (v := ?_) rfl (by rfl) ?_ ?_; rotate_left; (focus (intro v hC; obtain ⟨e0, e1⟩ := full2 (keepB hC D.out); go_simp; try with_reducible rfl)); try go_simp)
  refine schedC_nil (hJ0 _ _ ?_)
  clear hJ0
  replace B : Hid (Below w.heap.size w W.drew) := ext_trans B.out (ext_drew W)
  clear D
  generalize W.drew = V at *
  go_wp2_with fail
  refine (told_c _).mono ?_
  rintro e w2 ⟨rfl, hb⟩
  replace B := Lib.hid (ext_trans B.out hb)
  clear hb
  go_wp2_with fail
  go_ret
  exact ⟨rfl, B.out⟩

set_option maxRecDepth 100000 in
set_option maxHeartbeats 1000000 in
theorem keeps_range (w : World) (amount seats : Int) (A : Option Addr) (n c : Nat) (xs : Nat → Int × Int) (last : Int) (h : Hid (RdP w A n c xs)) (hn : n ≤ 40) (ha : Hid (¬ Amt amount)) :
    Calls Try.prog 8 #[.int .i64 amount, .int .i64 seats, .agg #[.slice A n c, .int .i64 last]] w (Holds w) := by
  have hle := h.out.le
  have hmax := h.out.max
  have gI : ¬ (40 : Int) < (n : Int) := by omega
  go_enter Try.func8, Try.ntmps8
  go_wp2_with fail
  generalize hW : World.alloc w (.cells #[.slice A n c, .int .i64 last] 56) = W
  have D : Hid (W.heap[w.heap.size]? = some (.cells #[.slice A n c, .int .i64 last] 56 (0, 0))) := by rw [← hW]; exact Go.heap_alloc_new w _
  have B : Hid (Below w.heap.size w W) := by rw [← hW]; exact ext_alloc _ _
  clear hW
  refine wp_region_schedC (fun v => Below W.heap.size W v) [(true, 0), (true, 1), (true, 2), (true, 3), (true, 4), (true, 5)] (by kernel_rfl) rfl (by kernel_rfl) (by kernel_rfl) (fun _ _ d _ _ h => by cases d <;> exact h) (ext_drew W) ?_
  intro J0 hJ0
  iterate 6 (refine schedC_pure (v := ?_) rfl (by rfl) ?_ ?_; rotate_left; (focus (intro v hC; obtain ⟨e0, e1⟩ := full2 (keepB hC D.out); go_simp; try with_reducible rfl)); try go_simp)
  refine schedC_nil (hJ0 _ _ ?_)
  clear hJ0
  replace B : Hid (Below w.heap.size w W.drew) := ext_trans B.out (ext_drew W)
  clear D
  generalize W.drew = V at *
  go_wp2_with fail
  refine (newPot_range _ _ _ ha).mono ?_
  rintro e w1 ⟨rfl, rfl⟩
  go_wp2_with fail
  refine (told_c _).mono ?_
  rintro e w2 ⟨rfl, hb⟩
  replace B := Lib.hid (ext_trans B.out hb)
  clear hb
  go_wp2_with fail
  go_ret
  exact ⟨rfl, B.out⟩

set_option maxRecDepth 100000 in
set_option maxHeartbeats 1000000 in
theorem keeps_arg (w : World) (amount seats : Int) (A : Option Addr) (n c : Nat) (xs : Nat → Int × Int) (last : Int) (h : Hid (RdP w A n c xs)) (hn : n ≤ 40) (ha : Hid (Amt amount)) (hs : Hid (seats < 1 ∨ 8 < seats)) :
    Calls Try.prog 8 #[.int .i64 amount, .int .i64 seats, .agg #[.slice A n c, .int .i64 last]] w (Holds w) := by
  have hle := h.out.le
  have hmax := h.out.max
  have gI : ¬ (40 : Int) < (n : Int) := by omega
  go_enter Try.func8, Try.ntmps8
  go_wp2_with fail
  generalize hW : World.alloc w (.cells #[.slice A n c, .int .i64 last] 56) = W
  have D : Hid (W.heap[w.heap.size]? = some (.cells #[.slice A n c, .int .i64 last] 56 (0, 0))) := by rw [← hW]; exact Go.heap_alloc_new w _
  have B : Hid (Below w.heap.size w W) := by rw [← hW]; exact ext_alloc _ _
  clear hW
  refine wp_region_schedC (fun v => Below W.heap.size W v) [(true, 0), (true, 1), (true, 2), (true, 3), (true, 4), (true, 5)] (by kernel_rfl) rfl (by kernel_rfl) (by kernel_rfl) (fun _ _ d _ _ h => by cases d <;> exact h) (ext_drew W) ?_
  intro J0 hJ0
  iterate 6 (refine schedC_pure (v := ?_) rfl (by rfl) ?_ ?_; rotate_left; (focus (intro v hC; obtain ⟨e0, e1⟩ := full2 (keepB hC D.out); go_simp; try with_reducible rfl)); try go_simp)
  refine schedC_nil (hJ0 _ _ ?_)
  clear hJ0
  replace B : Hid (Below w.heap.size w W.drew) := ext_trans B.out (ext_drew W)
  clear D
  generalize W.drew = V at *
  go_wp2_with fail
  refine (newPot_arg _ _ _ ha hs.out).mono ?_
  rintro e w1 ⟨rfl, rfl⟩
  go_wp2_with fail
  refine (told_c _).mono ?_
  rintro e w2 ⟨rfl, hb⟩
  replace B := Lib.hid (ext_trans B.out hb)
  clear hb
  go_wp2_with fail
  go_ret
  exact ⟨rfl, B.out⟩

theorem walkCoinKeeps (w : World) (amount seats : Int) (A : Option Addr) (n c : Nat) (xs : Nat → Int × Int) (last : Int) (_ : -9223372036854775808 ≤ amount) (_ : amount < 9223372036854775808) (_ : -9223372036854775808 ≤ seats) (_ : seats < 9223372036854775808) (h : RdP w A n c xs) :
    Calls Try.prog 8 #[.int .i64 amount, .int .i64 seats, .agg #[.slice A n c, .int .i64 last]] w (Holds w) := by
  by_cases hn : n > 40
  · exact keeps_long w amount seats A n c xs last h hn
  by_cases ha : Amt amount
  · by_cases hs : seats < 1 ∨ 8 < seats
    · exact keeps_arg w amount seats A n c xs last h (by omega) ha hs
    · obtain ⟨S, rfl⟩ : ∃ S : Nat, seats = S := ⟨seats.toNat, by omega⟩
      exact keeps_ok w amount S A n c xs last h (by omega) ha (by omega) (by omega)
  · exact keeps_range w amount seats A n c xs last h (by omega) ha
#print axioms walkCoinKeeps
end Go.Proofs.Ytonmaaoekljfdaa
