/-
  CoinApart: the walk.
-/
import Derived.Test.YthdnfnilckjldaaCSame
import Derived.Test.YthdnfnilckjldaaCTold
import Derived.Test.YthdnfnilckjldaaCAsk2
namespace Go.Proofs.Ythdnfnilckjldaa
open Go.RowKit

theorem schedC_skipA {P : Program} {ops : Array Oper} {C : World → Prop} {K : Act → World → Prop} {i : Nat} {s : List (Bool × Nat)} {o : Oper} {a : Act} {w : World} (hi : ops[i]? = some o) (hw : Region.wanted o (yielded ops a.tmps) = false)
    (h : wpSchedC P ops C K s (a.put o.dst undef) w) : wpSchedC P ops C K ((true, i) :: s) a w := ⟨o, undef, hi, .inr ⟨hw, rfl⟩, h⟩
theorem Pot.grown {w w' : World} {b b2 : Nat} {left seats : Int} {hs : List Int} (h : Pot w b left seats hs) (k : w.grownBy w' (some b2)) (hn : b ≠ b2) : Pot w' b left seats hs := by
  obtain ⟨cur, h1, h2⟩ := h.blk
  exact ⟨⟨cur, (k.block b h.lt (fun e => hn (by injection e))).trans h1, h2⟩, h.len, h.fits⟩
theorem set_zero (hs : List Int) (j : Nat) (h : j < hs.length) : hs.set j (hs.getD j 0 + 0) = hs := by
  rw [Int.add_zero]
  apply List.ext_getElem (by simp)
  intro i h1 h2
  rw [List.getElem_set]
  split
  · rename_i e; subst e; simp [h]
  · rfl

set_option maxRecDepth 100000 in
set_option maxHeartbeats 4000000 in
theorem apart_ok (w : World) (amount : Int) (S : Nat) (A : Option Addr) (n c : Nat) (xs : Nat → Int × Int) (A2 : Option Addr) (n2 c2 : Nat) (ys : Nat → Int × Int) (h : Hid (RdP w A n c xs)) (h2 : Hid (RdP w A2 n2 c2 ys)) (hn : n ≤ 20) (hn2 : n2 ≤ 20) (ha : Hid (Amt amount)) (h1 : 1 ≤ S) (h8 : S ≤ 8) :
    Calls Try.prog 9 #[.int .i64 amount, .int .i64 S, .agg #[.slice A n c, .slice A2 n2 c2]] w (Holds w) := by
  have hle := h.out.le
  have hmax := h.out.max
  have hle2 := h2.out.le
  have hmax2 := h2.out.max
  have gI : ¬ (20 : Int) < (n : Int) := by omega
  have gJ : ¬ (20 : Int) < (n2 : Int) := by omega
  go_enter Try.func9, Try.ntmps9
  go_wp2_with fail
  generalize hW : World.alloc w (.cells #[.slice A n c, .slice A2 n2 c2] 60) = W
  have D : Hid (W.heap[w.heap.size]? = some (.cells #[.slice A n c, .slice A2 n2 c2] 60 (0, 0))) := by rw [← hW]; exact Go.heap_alloc_new w _
  have B : Hid (Below w.heap.size w W) := by rw [← hW]; exact ext_alloc _ _
  clear hW
  refine wp_region_schedC (fun v => Below W.heap.size W v) [(true, 0), (true, 1), (true, 2), (true, 3), (true, 4), (true, 5)] (by kernel_rfl) rfl (by kernel_rfl) (by kernel_rfl) (fun _ _ d _ _ h => by cases d <;> exact h) (ext_drew W) ?_
  intro J0 hJ0
  iterate 6 (refine schedC_pure (v := ?_) rfl (by rfl) ?_ ?_; rotate_left; (focus (intro v hC; obtain ⟨e0, e1⟩ := full2 (keepB hC D.out); go_simp; try with_reducible rfl)); try go_simp)
  refine schedC_nil (hJ0 _ _ ?_)
  clear hJ0
  replace B : Hid (Below w.heap.size w W.drew) := ext_trans B.out (ext_drew W)
  clear D
  generalize W.drew = V at *
  go_wp2_with fail
  refine (newPot_ok V amount S ha (by omega) (by omega)).mono ?_
  rintro e w1 ⟨b, rfl, hp, hbw, hb⟩
  have P1 := Lib.hid hp
  have zb : w.heap.size ≤ b := Nat.le_trans B.out.size hbw
  replace B := Lib.hid (ext_trans B.out hb)
  clear hp hb hbw
  go_wp2_with fail
  go_loopw [11] (fun iv wr => ∃ (k : Nat) (left : Int) (hs : List Int), k ≤ n ∧ iv = .int .i64 k ∧ Hid (Pot wr b left S hs) ∧ Hid (Below w.heap.size w wr)) (fun iv _ => n - (intOf iv).toNat)
  case atStart => exact ⟨0, amount, _, Nat.zero_le _, rfl, P1.out, B.out⟩
  case round =>
    clear P1 B
    rename World => w2
    obtain ⟨k, left, hs, hk, rfl, PT, B⟩ := hrel
    by_cases hlt : k < n
    · have hltI : (k : Int) < (n : Int) := by omega
      have hkI : (0 : Int) ≤ (k : Int) := by omega
      obtain ⟨b0, o0, rfl, hb0, hc0⟩ := h.out.cells (by omega)
      obtain ⟨q1, q2⟩ := hc0 k hlt
      obtain ⟨s, hs1⟩ : ∃ s, s = (xs k).1 := ⟨_, rfl⟩
      obtain ⟨a, hs2⟩ : ∃ a, a = (xs k).2 := ⟨_, rfl⟩
      rw [← hs1] at q1
      rw [← hs2] at q2
      have Q1 := Lib.hid ((B.out.cell (p := ⟨b0, o0 + k * 2, none⟩) hb0).trans q1)
      have Q2 := Lib.hid ((B.out.cell (p := ⟨b0, o0 + k * 2 + 1, none⟩) hb0).trans q2)
      have zb0 : b0 < w2.heap.size := Nat.lt_of_lt_of_le hb0 B.out.size
      have nb : ¬ some b0 = some b := by intro e; injection e with e; omega
      clear q1 q2 hs1 hs2 hc0
      go_wp2_with fail
      refine wp_region_schedC (fun v => World.grownBy w2 v (some b)) [(true, 0), (true, 1), (true, 2), (true, 3), (true, 4), (true, 5), (true, 6), (true, 7), (true, 8), (true, 9), (true, 10), (false, 11)] (by kernel_rfl) rfl (by kernel_rfl) (by kernel_rfl) (fun _ _ d _ _ h => by cases d <;> exact h) (drew_grown w2 _) ?_
      intro J0 hJ0
      iterate 11 (refine schedC_pure (v := ?_) rfl (by rfl) ?_ ?_; rotate_left; (focus (intro v hC; have r1 := (World.cell?_of_block (a := ⟨b0, o0 + k * 2, none⟩) (hC.block b0 zb0 nb)).trans Q1.out; have r2 := (World.cell?_of_block (a := ⟨b0, o0 + k * 2 + 1, none⟩) (hC.block b0 zb0 nb)).trans Q2.out; go_simp; try with_reducible rfl)); try go_simp)
      refine schedC_eff rfl ?_
      intro J hJ
      go_wp2_with fail
      refine (pay_c _ b left S hs (PT.out.ext (ext_drew w2)) s a).mono ?_
      rintro e w3 ⟨rfl, hp, hg⟩
      have P3 := Lib.hid hp
      have G3 : Hid (World.grownBy w2 w3 (some b)) := grown_then (drew_grown w2 _) hg
      clear hp hg
      go_wp2_with fail
      refine ⟨G3.out, ?_⟩
      refine schedC_nil (hJ0 _ _ ?_)
      clear hJ0 PT
      replace B := Lib.hid (below_grown B.out B.out.size G3.out (fun k hk => by injection hk with hk; omega))
      go_wp2_with fail
      exact ⟨⟨k + 1, _, _, by omega, by go_num, P3.out, B.out⟩, by simp [intOf]; omega⟩
    · obtain rfl : n = k := by omega
      have hLI : ¬ (n : Int) < (n : Int) := by omega
      clear h hlt
      go_wp2_with fail
      refine (clone_c _ b left S hs PT).mono ?_
      rintro e w3 ⟨b2, rfl, hp, hz, hb⟩
      have zP := PT.out.lt
      have PO := Lib.hid hp
      replace PT := Lib.hid (PT.out.ext hb)
      have zb2 : w.heap.size ≤ b2 := Nat.le_trans B.out.size hz
      have nbb : b ≠ b2 := by omega
      have z2 : b2 < w3.heap.size := hp.lt
      replace B := Lib.hid (ext_trans B.out hb)
      clear hp hb hz zP
      go_wp2_with fail
      refine (same_c _ b2 b left left S hs hs false PO PT (.inl ⟨rfl, rfl, rfl⟩)).mono ?_
      rw [Bool.not_false]
      rintro e w4 ⟨rfl, hb⟩
      replace PT := Lib.hid (PT.out.ext hb)
      replace PO := Lib.hid (PO.out.ext hb)
      have z4 : b2 < w4.heap.size := Nat.lt_of_lt_of_le z2 hb.size
      replace B := Lib.hid (ext_trans B.out hb)
      clear hb
      go_wp2_with fail
      refine (same_c _ b b2 left left S hs hs false PT PO (.inl ⟨rfl, rfl, rfl⟩)).mono ?_
      rw [Bool.not_false]
      rintro e w5 ⟨rfl, hb⟩
      replace PT := Lib.hid (PT.out.ext hb)
      replace PO := Lib.hid (PO.out.ext hb)
      have z5 : b2 < w5.heap.size := Nat.lt_of_lt_of_le z4 hb.size
      replace B := Lib.hid (ext_trans B.out hb)
      clear hb z2 z4
      go_wp2_with fail
      refine (pays_c _ b left S hs PT).mono ?_
      rw [Int.toNat_natCast]
      rintro e w6 ⟨A6, c6, rfl, ho, hb⟩
      have O6 := Lib.hid ho
      replace PT := Lib.hid (PT.out.ext hb)
      replace PO := Lib.hid (PO.out.ext hb)
      replace B := Lib.hid (ext_trans B.out hb)
      have z56 : w5.heap.size ≤ w6.heap.size := hb.size
      clear ho hb
      go_wp2_with fail
      refine (left_c _ b left S hs PT.out).mono ?_
      rintro e w7 ⟨rfl, rfl⟩
      go_wp2_with fail
      go_loopw [15, 16] (fun mvv iv wr => ∃ (k : Nat) (l2 : Int) (gs : List Int) (mv : Bool), k ≤ n2 ∧ iv = .int .i64 k ∧ mvv = .bool mv ∧ Hid (Pot wr b2 l2 S gs) ∧ Hid ((mv = false ∧ l2 = left ∧ gs = hs) ∨ (mv = true ∧ l2 < left)) ∧ Hid (World.grownBy w6 wr (some b2))) (fun _ iv _ => n2 - (intOf iv).toNat)
      case atStart => exact ⟨0, left, hs, false, Nat.zero_le _, rfl, rfl, PO.out, .inl ⟨rfl, rfl, rfl⟩, below_grown_none (Below.refl _ _) _⟩
      case round =>
        clear PO
        rename World => w8
        obtain ⟨k, l2, gs, mv, hk, rfl, rfl, PO, DD, GW⟩ := hrel
        have f1 := PO.out.fits.1
        have HL := Lib.hid PO.out.len
        have B8 := Lib.hid (below_grown B.out B.out.size GW.out (fun k hk => by injection hk with hk; omega))
        by_cases hlt : k < n2
        · have hltI : (k : Int) < (n2 : Int) := by omega
          have hkI : (0 : Int) ≤ (k : Int) := by omega
          obtain ⟨b0, o0, rfl, hb0, hc0⟩ := h2.out.cells (by omega)
          obtain ⟨q1, q2⟩ := hc0 k hlt
          obtain ⟨s, hs1⟩ : ∃ s, s = (ys k).1 := ⟨_, rfl⟩
          obtain ⟨a, hs2⟩ : ∃ a, a = (ys k).2 := ⟨_, rfl⟩
          rw [← hs1] at q1
          rw [← hs2] at q2
          have Q1 := Lib.hid ((B8.out.cell (p := ⟨b0, o0 + k * 2, none⟩) hb0).trans q1)
          have Q2 := Lib.hid ((B8.out.cell (p := ⟨b0, o0 + k * 2 + 1, none⟩) hb0).trans q2)
          have zb0 : b0 < w8.heap.size := Nat.lt_of_lt_of_le hb0 B8.out.size
          have nb : ¬ some b0 = some b2 := by intro e; injection e with e; omega
          clear q1 q2 hs1 hs2 hc0
          obtain ⟨x, hx⟩ : ∃ x, x = min (max a 0) l2 := ⟨_, rfl⟩
          have x0 : 0 ≤ x := by omega
          have x1 : x ≤ l2 := by omega
          have HX := Lib.hid hx
          clear hx
          obtain ⟨j, hj⟩ : ∃ j, j = seatAt s S := ⟨_, rfl⟩
          have jS : j < S := by rw [hj]; exact seatAt_lt s S h1
          have HJ := Lib.hid hj
          clear hj
          go_upto_region 19 with fail
          by_cases hx : 0 < x
          · refine wp_region_schedC (fun v => World.grownBy w8 v (some b2)) [(true, 0), (true, 1), (true, 2), (true, 3), (true, 4), (true, 5), (true, 6), (true, 7), (true, 8), (true, 9), (true, 10), (false, 11), (true, 12), (true, 13), (true, 14), (true, 15), (true, 16)] (by kernel_rfl) rfl (by kernel_rfl) (by kernel_rfl) (fun _ _ d _ _ h => by cases d <;> exact h) (drew_grown w8 _) ?_
            intro J0 hJ0
            iterate 11 (refine schedC_pure (v := ?_) rfl (by rfl) ?_ ?_; rotate_left; (focus (intro v hC; have r1 := (World.cell?_of_block (a := ⟨b0, o0 + k * 2, none⟩) (hC.block b0 zb0 nb)).trans Q1.out; have r2 := (World.cell?_of_block (a := ⟨b0, o0 + k * 2 + 1, none⟩) (hC.block b0 zb0 nb)).trans Q2.out; go_simp; try with_reducible rfl)); try go_simp)
            refine schedC_eff rfl ?_
            intro J hJ
            go_wp2_with fail
            refine (pay_c _ b2 l2 S gs (PO.out.ext (ext_drew w8)) s a).mono ?_
            rw [← HX.out, ← HJ.out]
            rintro e w9 ⟨rfl, hp, hg⟩
            have P9 := Lib.hid hp
            have G9 : Hid (World.grownBy w8 w9 (some b2)) := grown_then (drew_grown w8 _) hg
            clear hp hg
            go_wp2_with fail
            refine ⟨G9.out, ?_⟩
            iterate 5 ((first | refine schedC_skipA rfl (by rfl) ?_ | (refine schedC_pure (v := ?_) rfl (by rfl) ?_ ?_; rotate_left; (focus (intro v hC; have gx : (0 : Int) < x := (by omega); go_simp; try with_reducible rfl)))); try go_simp)
            refine schedC_nil (hJ0 _ _ ?_)
            clear hJ0 PO
            replace GW := Lib.hid (grown_then GW.out G9.out)
            go_wp2_with fail
            exact ⟨⟨k + 1, _, _, true, by omega, by go_num, rfl, P9.out, .inr ⟨rfl, by rcases DD.out with ⟨_, h, _⟩ | ⟨_, h⟩ <;> omega⟩, GW.out⟩, by simp [intOf]; omega⟩
          · refine wp_region_schedC (fun v => World.grownBy w8 v (some b2)) [(true, 0), (true, 1), (true, 2), (true, 3), (true, 4), (true, 5), (true, 6), (true, 7), (true, 8), (true, 9), (true, 10), (false, 11), (true, 12), (true, 13), (true, 14), (true, 15), (true, 16)] (by kernel_rfl) rfl (by kernel_rfl) (by kernel_rfl) (fun _ _ d _ _ h => by cases d <;> exact h) (drew_grown w8 _) ?_
            intro J0 hJ0
            iterate 11 (refine schedC_pure (v := ?_) rfl (by rfl) ?_ ?_; rotate_left; (focus (intro v hC; have r1 := (World.cell?_of_block (a := ⟨b0, o0 + k * 2, none⟩) (hC.block b0 zb0 nb)).trans Q1.out; have r2 := (World.cell?_of_block (a := ⟨b0, o0 + k * 2 + 1, none⟩) (hC.block b0 zb0 nb)).trans Q2.out; go_simp; try with_reducible rfl)); try go_simp)
            refine schedC_eff rfl ?_
            intro J hJ
            go_wp2_with fail
            refine (pay_c _ b2 l2 S gs (PO.out.ext (ext_drew w8)) s a).mono ?_
            rw [← HX.out, ← HJ.out]
            rintro e w9 ⟨rfl, hp, hg⟩
            have P9 := Lib.hid hp
            have G9 : Hid (World.grownBy w8 w9 (some b2)) := grown_then (drew_grown w8 _) hg
            clear hp hg
            go_wp2_with fail
            refine ⟨G9.out, ?_⟩
            iterate 5 ((first | refine schedC_skipA rfl (by rfl) ?_ | (refine schedC_pure (v := ?_) rfl (by rfl) ?_ ?_; rotate_left; (focus (intro v hC; have gx : ¬ (0 : Int) < x := (by omega); go_simp; try with_reducible rfl)))); try go_simp)
            refine schedC_nil (hJ0 _ _ ?_)
            clear hJ0 PO
            replace GW := Lib.hid (grown_then GW.out G9.out)
            go_wp2_with fail
            obtain rfl : x = 0 := by omega
            rw [set_zero gs j (by rw [HL.out]; omega), Int.sub_zero] at P9
            exact ⟨⟨k + 1, _, _, mv, by omega, by go_num, rfl, P9.out, DD.out, GW.out⟩, by simp [intOf]; omega⟩
        · obtain rfl : n2 = k := by omega
          have hLI : ¬ (n2 : Int) < (n2 : Int) := by omega
          have D2 : Hid ((mv = false ∧ l2 = left ∧ gs = hs) ∨ (mv = true ∧ l2 ≠ left)) := by
            rcases DD.out with h | ⟨h, h3⟩
            · exact .inl h
            · exact .inr ⟨h, by omega⟩
          have QB : ((!mv) == (!mv)) = true := by simp
          have O8 := Lib.hid (O6.out.kept GW.out (fun g hg => by injection hg with hg; omega))
          have P8 := Lib.hid (PT.out.grown GW.out nbb)
          have zw8 : w.heap.size ≤ w8.heap.size := B8.out.size
          clear DD GW O6 PT B h2 hlt
          go_wp2_with fail
          refine (pays_c _ b left S hs P8).mono ?_
          rw [Int.toNat_natCast]
          rintro e w9 ⟨A9, c9, rfl, ho, hb⟩
          have O9 := Lib.hid ho
          obtain ⟨g9, rfl, hg9, _⟩ := ho.blockless (by omega)
          have BW := Lib.hid hb
          clear ho hb
          go_wp2_with fail
          go_loopw [18] (fun iv wr => ∃ (k : Nat) (zs : List Int), k ≤ S ∧ iv = .int .i64 k ∧ Hid (OwnI wr 3 w8.heap.size (some ⟨g9, 0, none⟩) S c9 zs) ∧ Hid (Below w8.heap.size w8 wr)) (fun iv _ => S - (intOf iv).toNat)
          case atStart => exact ⟨0, _, Nat.zero_le _, rfl, O9.out, BW.out⟩
          case round =>
            clear O9 BW
            rename World => w10
            obtain ⟨k, zs, hk, rfl, OZ, BW⟩ := hrel
            by_cases hlt : k < S
            · have hltI : (k : Int) < (S : Int) := by omega
              have hkI : (0 : Int) ≤ (k : Int) := by omega
              have cc := OZ.out.get hlt
              have fr := OZ.out.row.frozenAt k
              have ST := Lib.hid (OZ.out.set k (-1))
              go_wp2_with fail
              exact ⟨⟨k + 1, _, by omega, by go_num, ST.out.1, BW.out.grown ST.out.2 BW.out.size (fun i hi => by injection hi with hi; omega)⟩, by simp [intOf]; omega⟩
            · obtain rfl : S = k := by omega
              have hLI : ¬ (S : Int) < (S : Int) := by omega
              clear hlt OZ
              replace P8 := Lib.hid (P8.out.ext BW.out)
              replace PO := Lib.hid (PO.out.ext BW.out)
              replace O8 := Lib.hid (O8.out.ext BW.out)
              replace B8 := Lib.hid (ext_trans B8.out BW.out)
              clear BW
              go_wp2_with fail
              refine (pays_c _ b left S hs P8).mono ?_
              rw [Int.toNat_natCast]
              rintro e w11 ⟨A11, c11, rfl, ho, hb⟩
              have O11 := Lib.hid ho.rd
              replace P8 := Lib.hid (P8.out.ext hb)
              replace PO := Lib.hid (PO.out.ext hb)
              replace O8 := Lib.hid (O8.out.ext hb)
              replace B8 := Lib.hid (ext_trans B8.out hb)
              clear ho hb
              go_wp2_with fail
              refine (alike_yes _ _ _ _ _ O11.out _ _ O8.out.rd).mono ?_
              rintro e w12 ⟨rfl, hb⟩
              replace P8 := Lib.hid (P8.out.ext hb)
              replace PO := Lib.hid (PO.out.ext hb)
              replace B8 := Lib.hid (ext_trans B8.out hb)
              clear hb O8 O11
              go_wp2_with fail
              refine (left_c _ b left S hs P8.out).mono ?_
              rintro e w13 ⟨rfl, rfl⟩
              go_wp2_with fail
              refine (same_c _ b2 b l2 left S gs hs mv PO P8 D2).mono ?_
              rintro e w13 ⟨rfl, hb⟩
              replace B8 := Lib.hid (ext_trans B8.out hb)
              clear hb P8 PO
              go_wp2_with fail
              refine (told_c _).mono ?_
              rintro e w14 ⟨rfl, hb⟩
              replace B8 := Lib.hid (ext_trans B8.out hb)
              clear hb
              go_wp2_with fail
              go_ret
              exact ⟨rfl, B8.out⟩

set_option maxRecDepth 100000 in
set_option maxHeartbeats 4000000 in
theorem apart_long (w : World) (amount seats : Int) (A : Option Addr) (n c : Nat) (xs : Nat → Int × Int) (A2 : Option Addr) (n2 c2 : Nat) (ys : Nat → Int × Int) (h : Hid (RdP w A n c xs)) (h2 : Hid (RdP w A2 n2 c2 ys)) (hn : 20 < n) :
    Calls Try.prog 9 #[.int .i64 amount, .int .i64 seats, .agg #[.slice A n c, .slice A2 n2 c2]] w (Holds w) := by
  have hle := h.out.le
  have hmax := h.out.max
  have hle2 := h2.out.le
  have hmax2 := h2.out.max
  have gI : (20 : Int) < (n : Int) := by omega
  go_enter Try.func9, Try.ntmps9
  go_wp2_with fail
  generalize hW : World.alloc w (.cells #[.slice A n c, .slice A2 n2 c2] 60) = W
  have D : Hid (W.heap[w.heap.size]? = some (.cells #[.slice A n c, .slice A2 n2 c2] 60 (0, 0))) := by rw [← hW]; exact Go.heap_alloc_new w _
  have B : Hid (Below w.heap.size w W) := by rw [← hW]; exact ext_alloc _ _
  clear hW
  refine wp_region_schedC (fun v => Below W.heap.size W v) [(true, 0), (true, 1), (true, 2), (true, 3), (true, 4), (true, 5)] (by kernel_rfl) rfl (by kernel_rfl) (by kernel_rfl) (fun _ _ d _ _ h => by cases d <;> exact h) (ext_drew W) ?_
  intro J0 hJ0
  iterate 6 (refine schedC_pure (v := ?_) rfl (by rfl) ?_ ?_; rotate_left; (focus (intro v hC; obtain ⟨e0, e1⟩ := full2 (keepB hC D.out); go_simp; try with_reducible rfl)); try go_simp)
  refine schedC_nil (hJ0 _ _ ?_)
  clear hJ0
  replace B : Hid (Below w.heap.size w W.drew) := ext_trans B.out (ext_drew W)
  clear D
  generalize W.drew = V at *
  go_wp2_with fail
  refine (told_c _).mono ?_
  rintro e w2 ⟨rfl, hb⟩
  replace B := Lib.hid (ext_trans B.out hb)
  clear hb
  go_wp2_with fail
  go_ret
  exact ⟨rfl, B.out⟩

set_option maxRecDepth 100000 in
set_option maxHeartbeats 4000000 in
theorem apart_long2 (w : World) (amount seats : Int) (A : Option Addr) (n c : Nat) (xs : Nat → Int × Int) (A2 : Option Addr) (n2 c2 : Nat) (ys : Nat → Int × Int) (h : Hid (RdP w A n c xs)) (h2 : Hid (RdP w A2 n2 c2 ys)) (hn : n ≤ 20) (hn2 : 20 < n2) :
    Calls Try.prog 9 #[.int .i64 amount, .int .i64 seats, .agg #[.slice A n c, .slice A2 n2 c2]] w (Holds w) := by
  have hle := h.out.le
  have hmax := h.out.max
  have hle2 := h2.out.le
  have hmax2 := h2.out.max
  have gI : ¬ (20 : Int) < (n : Int) := by omega
  have gJ : (20 : Int) < (n2 : Int) := by omega
  go_enter Try.func9, Try.ntmps9
  go_wp2_with fail
  generalize hW : World.alloc w (.cells #[.slice A n c, .slice A2 n2 c2] 60) = W
  have D : Hid (W.heap[w.heap.size]? = some (.cells #[.slice A n c, .slice A2 n2 c2] 60 (0, 0))) := by rw [← hW]; exact Go.heap_alloc_new w _
  have B : Hid (Below w.heap.size w W) := by rw [← hW]; exact ext_alloc _ _
  clear hW
  refine wp_region_schedC (fun v => Below W.heap.size W v) [(true, 0), (true, 1), (true, 2), (true, 3), (true, 4), (true, 5)] (by kernel_rfl) rfl (by kernel_rfl) (by kernel_rfl) (fun _ _ d _ _ h => by cases d <;> exact h) (ext_drew W) ?_
  intro J0 hJ0
  iterate 6 (refine schedC_pure (v := ?_) rfl (by rfl) ?_ ?_; rotate_left; (focus (intro v hC; obtain ⟨e0, e1⟩ := full2 (keepB hC D.out); go_simp; try with_reducible rfl)); try go_simp)
  refine schedC_nil (hJ0 _ _ ?_)
  clear hJ0
  replace B : Hid (Below w.heap.size w W.drew) := ext_trans B.out (ext_drew W)
  clear D
  generalize W.drew = V at *
  go_wp2_with fail
  refine (told_c _).mono ?_
  rintro e w2 ⟨rfl, hb⟩
  replace B := Lib.hid (ext_trans B.out hb)
  clear hb
  go_wp2_with fail
  go_ret
  exact ⟨rfl, B.out⟩

set_option maxRecDepth 100000 in
set_option maxHeartbeats 4000000 in
theorem apart_range (w : World) (amount seats : Int) (A : Option Addr) (n c : Nat) (xs : Nat → Int × Int) (A2 : Option Addr) (n2 c2 : Nat) (ys : Nat → Int × Int) (h : Hid (RdP w A n c xs)) (h2 : Hid (RdP w A2 n2 c2 ys)) (hn : n ≤ 20) (hn2 : n2 ≤ 20) (ha : Hid (¬ Amt amount)) :
    Calls Try.prog 9 #[.int .i64 amount, .int .i64 seats, .agg #[.slice A n c, .slice A2 n2 c2]] w (Holds w) := by
  have hle := h.out.le
  have hmax := h.out.max
  have hle2 := h2.out.le
  have hmax2 := h2.out.max
  have gI : ¬ (20 : Int) < (n : Int) := by omega
  have gJ : ¬ (20 : Int) < (n2 : Int) := by omega
  go_enter Try.func9, Try.ntmps9
  go_wp2_with fail
  generalize hW : World.alloc w (.cells #[.slice A n c, .slice A2 n2 c2] 60) = W
  have D : Hid (W.heap[w.heap.size]? = some (.cells #[.slice A n c, .slice A2 n2 c2] 60 (0, 0))) := by rw [← hW]; exact Go.heap_alloc_new w _
  have B : Hid (Below w.heap.size w W) := by rw [← hW]; exact ext_alloc _ _
  clear hW
  refine wp_region_schedC (fun v => Below W.heap.size W v) [(true, 0), (true, 1), (true, 2), (true, 3), (true, 4), (true, 5)] (by kernel_rfl) rfl (by kernel_rfl) (by kernel_rfl) (fun _ _ d _ _ h => by cases d <;> exact h) (ext_drew W) ?_
  intro J0 hJ0
  iterate 6 (refine schedC_pure (v := ?_) rfl (by rfl) ?_ ?_; rotate_left; (focus (intro v hC; obtain ⟨e0, e1⟩ := full2 (keepB hC D.out); go_simp; try with_reducible rfl)); try go_simp)
  refine schedC_nil (hJ0 _ _ ?_)
  clear hJ0
  replace B : Hid (Below w.heap.size w W.drew) := ext_trans B.out (ext_drew W)
  clear D
  generalize W.drew = V at *
  go_wp2_with fail
  refine (newPot_range _ _ _ ha).mono ?_
  rintro e w1 ⟨rfl, rfl⟩
  go_wp2_with fail
  refine (told_c _).mono ?_
  rintro e w2 ⟨rfl, hb⟩
  replace B := Lib.hid (ext_trans B.out hb)
  clear hb
  go_wp2_with fail
  go_ret
  exact ⟨rfl, B.out⟩

set_option maxRecDepth 100000 in
set_option maxHeartbeats 4000000 in
theorem apart_arg (w : World) (amount seats : Int) (A : Option Addr) (n c : Nat) (xs : Nat → Int × Int) (A2 : Option Addr) (n2 c2 : Nat) (ys : Nat → Int × Int) (h : Hid (RdP w A n c xs)) (h2 : Hid (RdP w A2 n2 c2 ys)) (hn : n ≤ 20) (hn2 : n2 ≤ 20) (ha : Hid (Amt amount)) (hs : Hid (seats < 1 ∨ 8 < seats)) :
    Calls Try.prog 9 #[.int .i64 amount, .int .i64 seats, .agg #[.slice A n c, .slice A2 n2 c2]] w (Holds w) := by
  have hle := h.out.le
  have hmax := h.out.max
  have hle2 := h2.out.le
  have hmax2 := h2.out.max
  have gI : ¬ (20 : Int) < (n : Int) := by omega
  have gJ : ¬ (20 : Int) < (n2 : Int) := by omega
  go_enter Try.func9, Try.ntmps9
  go_wp2_with fail
  generalize hW : World.alloc w (.cells #[.slice A n c, .slice A2 n2 c2] 60) = W
  have D : Hid (W.heap[w.heap.size]? = some (.cells #[.slice A n c, .slice A2 n2 c2] 60 (0, 0))) := by rw [← hW]; exact Go.heap_alloc_new w _
  have B : Hid (Below w.heap.size w W) := by rw [← hW]; exact ext_alloc _ _
  clear hW
  refine wp_region_schedC (fun v => Below W.heap.size W v) [(true, 0), (true, 1), (true, 2), (true, 3), (true, 4), (true, 5)] (by kernel_rfl) rfl (by kernel_rfl) (by kernel_rfl) (fun _ _ d _ _ h => by cases d <;> exact h) (ext_drew W) ?_
  intro J0 hJ0
  iterate 6 (refine schedC_pure (v := ?_) rfl (by rfl) ?_ ?_; rotate_left; (focus (intro v hC; obtain ⟨e0, e1⟩ := full2 (keepB hC D.out); go_simp; try with_reducible rfl)); try go_simp)
  refine schedC_nil (hJ0 _ _ ?_)
  clear hJ0
  replace B : Hid (Below w.heap.size w W.drew) := ext_trans B.out (ext_drew W)
  clear D
  generalize W.drew = V at *
  go_wp2_with fail
  refine (newPot_arg _ _ _ ha hs.out).mono ?_
  rintro e w1 ⟨rfl, rfl⟩
  go_wp2_with fail
  refine (told_c _).mono ?_
  rintro e w2 ⟨rfl, hb⟩
  replace B := Lib.hid (ext_trans B.out hb)
  clear hb
  go_wp2_with fail
  go_ret
  exact ⟨rfl, B.out⟩

theorem walkCoinApart (w : World) (amount seats : Int) (A : Option Addr) (n c : Nat) (xs : Nat → Int × Int) (A2 : Option Addr) (n2 c2 : Nat) (ys : Nat → Int × Int) (_ : -9223372036854775808 ≤ amount) (_ : amount < 9223372036854775808) (_ : -9223372036854775808 ≤ seats) (_ : seats < 9223372036854775808) (h : RdP w A n c xs) (h2 : RdP w A2 n2 c2 ys) :
    Calls Try.prog 9 #[.int .i64 amount, .int .i64 seats, .agg #[.slice A n c, .slice A2 n2 c2]] w (Holds w) := by
  by_cases hn : 20 < n
  · exact apart_long w amount seats A n c xs A2 n2 c2 ys h h2 hn
  by_cases hn2 : 20 < n2
  · exact apart_long2 w amount seats A n c xs A2 n2 c2 ys h h2 (by omega) hn2
  by_cases ha : Amt amount
  · by_cases hs : seats < 1 ∨ 8 < seats
    · exact apart_arg w amount seats A n c xs A2 n2 c2 ys h h2 (by omega) (by omega) ha hs
    · obtain ⟨S, rfl⟩ : ∃ S : Nat, seats = S := ⟨seats.toNat, by omega⟩
      exact apart_ok w amount S A n c xs A2 n2 c2 ys h h2 (by omega) (by omega) ha (by omega) (by omega)
  · exact apart_range w amount seats A n c xs A2 n2 c2 ys h h2 (by omega) (by omega) ha
#print axioms walkCoinApart
end Go.Proofs.Ythdnfnilckjldaa
