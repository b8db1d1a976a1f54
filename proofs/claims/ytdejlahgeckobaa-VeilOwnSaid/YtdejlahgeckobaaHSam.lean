/-
  hash: slices.Clone of bytes, a Writer's Clone and Same: contracts.
-/
import Derived.Test.YtdejlahgeckobaaHSame
import Derived.Test.YtdejlahgeckobaaHEq
import Derived.Test.YtdejlahgeckobaaHWord
import Derived.Lib.SliceRun
namespace Go.Proofs.Ytdejlahgeckobaa
open Go.RowKit

theorem schedC_none {P : Program} {ops : Array Oper} {C : World → Prop} {K : Act → World → Prop} {i : Nat} {s : List (Bool × Nat)} {o : Oper} {a : Act} {w : World} (hi : ops[i]? = some o) (hw : Region.wanted o (yielded ops a.tmps) = false)
    (h : wpSchedC P ops C K s (a.put o.dst undef) w) : wpSchedC P ops C K ((true, i) :: s) a w := ⟨o, undef, hi, .inr ⟨hw, rfl⟩, h⟩

theorem full5 {w : World} {b : Nat} {T : TypeId} {x0 x1 x2 x3 x4 : Value} (h : w.heap[b]? = some (.cells #[x0, x1, x2, x3, x4] T (0, 0))) :
    w.cell? ⟨b, 0, none⟩ = some x0 ∧ w.cell? ⟨b, 1, none⟩ = some x1 ∧ w.cell? ⟨b, 2, none⟩ = some x2 ∧ w.cell? ⟨b, 3, none⟩ = some x3 ∧ w.cell? ⟨b, 4, none⟩ = some x4 :=
  ⟨by rw [cell_of_row w _ 0 _ _ _ h]; rfl, by rw [cell_of_row w _ 1 _ _ _ h]; rfl, by rw [cell_of_row w _ 2 _ _ _ h]; rfl, by rw [cell_of_row w _ 3 _ _ _ h]; rfl, by rw [cell_of_row w _ 4 _ _ _ h]; rfl⟩

/-- the call hands back a row of its own of these bytes -/
def MakesB (w : World) (n : Nat) (bs : List UInt8) (e : Ending) (w' : World) : Prop :=
  ∃ A c, e = .returned (.slice A n c) ∧ Own w' 5 w.heap.size A n c bs ∧ Below w.heap.size w w'

set_option maxRecDepth 100000 in
set_option maxHeartbeats 400000 in
theorem clone_c (w : World) (A : Option Addr) (n c : Nat) (bs : List UInt8) (h : Hid (Rd w A n c bs)) (hn : n ≤ 100000000000000) :
    Calls Try.prog 49 #[.slice A n c] w (MakesB w n bs) := by
  cases A with
  | none =>
    obtain rfl := h.out.none_ rfl
    obtain rfl : n = 0 := by have := h.out.le; omega
    obtain rfl : bs = [] := List.eq_nil_of_length_eq_zero h.out.len
    clear h
    have heq := fun w => Lib.run_eql_slice_nil (P := Try.prog) w 22 5 none 0 0 0 0 Try.underlying22
    go_enter Try.func49, Try.ntmps49
    go_wp2_with fail
    go_ret
    exact ⟨none, 0, rfl, Own.void _ _ _, Below.refl _ _⟩
  | some a =>
    have H := h
    have hle := h.out.le
    have hmx := h.out.max
    clear h
    have heq := fun w => Lib.run_eql_slice_nil (P := Try.prog) w 22 5 (some a) n c 0 0 Try.underlying22
    go_enter Try.func49, Try.ntmps49
    go_wp2_with (refine wpList_push_all (o := ⟨some 7, _, _, _, _, _⟩) rfl (.tmp 5) (.tmp 6) 22 22 rfl 5 Try.underlying22 infoU8 w.heap.size (some ⟨w.heap.size, 0, none⟩) 0 0 [] (by rfl) (Own.empty _ _) _ n bs (by rfl) ((H.out.ext (ext_alloc _ _)).src Try.underlying22) (by omega) (by simp) ?_; intro A3 c3 w3 hown3 hb3; go_simp)
    go_ret
    have h3 := hown3
    rw [Nat.zero_add] at h3
    exact ⟨A3, c3, by simp, h3, ((Below.refl _ _).alloc (Nat.le_refl _) _).trans hb3⟩
#print axioms clone_c

def ClonesW (w : World) (n : Nat) (bs : List UInt8) (s : St) (e : Ending) (w' : World) : Prop :=
  ∃ b A c, e = .returned (.pointer (some ⟨b, 0, none⟩)) ∧ w.heap.size ≤ b ∧ WrAt w' 74 b (.slice A n c) s ∧ Own w' 5 w.heap.size A n c bs ∧ (∀ g, (Value.slice A n c).ownBlock = some g → g < b) ∧ Below w.heap.size w w'

set_option maxRecDepth 100000 in
set_option maxHeartbeats 1000000 in
theorem wclone_c (w : World) (T : TypeId) (B b : Nat) (A : Option Addr) (n c : Nat) (bs : List UInt8) (s : St) (h : Hid (WrAt w T b (.slice A n c) s)) (ho : Hid (Own w 5 B A n c bs)) (hn : n ≤ 1000000000) :
    Calls Try.prog 20 #[.pointer (some ⟨b, 0, none⟩)] w (ClonesW w n bs s) := by
  have HB := Lib.hid h.out.blk
  have OK := Lib.hid h.out.ok
  have RB := Lib.hid ho.out.rd
  clear h ho
  go_enter Try.func20, Try.ntmps20
  go_wp2_with fail
  refine wp_region_schedC (fun v => Below w.heap.size w v) [(true, 0), (true, 1), (true, 2), (true, 3), (true, 5), (true, 6), (true, 7), (true, 8), (false, 4), (true, 9), (false, 10), (true, 11)] (by kernel_rfl) rfl (by kernel_rfl) (by kernel_rfl) (fun _ _ d _ _ h => by cases d <;> exact h) (ext_drew w) ?_
  intro J0 hJ0
  iterate 8 (refine schedC_pure (v := ?_) rfl (by rfl) ?_ ?_; rotate_left; (focus (intro v hC; obtain ⟨d0, d1, d2, d3, d4⟩ := full5 (keepB hC HB.out); go_simp; try with_reducible rfl)); try go_simp)
  refine schedC_eff rfl ?_
  intro J hJ
  go_wp2_with fail
  have RD : Hid (Rd w.drew A n c bs) := RB.out.ext (ext_drew w)
  refine (clone_c _ _ _ _ _ RD (by omega)).mono ?_
  rintro e w1 ⟨A1, c1, rfl, ho1, hb1⟩
  have B1 : Hid (Below w.heap.size w w1) := Lib.hid (ext_trans (ext_drew w) hb1)
  have O1 := Lib.hid ho1
  clear ho1 hb1
  go_wp2_with fail
  refine ⟨B1.out, ?_⟩
  iterate 1 (refine schedC_pure (v := ?_) rfl (by rfl) ?_ ?_; rotate_left; (focus (intro v hC; go_simp; try with_reducible rfl)); try go_simp)
  refine schedC_eff rfl ?_
  intro J hJ
  go_wp2_with fail
  refine ⟨ext_trans B1.out (ext_alloc _ _), ?_⟩
  iterate 1 (refine schedC_pure (v := ?_) rfl (by rfl) ?_ ?_; rotate_left; (focus (intro v hC; go_simp; try with_reducible rfl)); try go_simp)
  refine schedC_nil (hJ0 _ _ ?_)
  clear hJ0
  go_wp2_with fail
  go_ret
  exact ⟨_, _, _, rfl, B1.out.size, ⟨Go.heap_alloc_new w1 _, OK.out⟩, O1.out.ext (ext_alloc _ _), fun g hg => (O1.out.row.lt g hg).2, ext_trans B1.out (ext_alloc _ _)⟩
#print axioms wclone_c

set_option maxRecDepth 100000 in
set_option maxHeartbeats 2000000 in
theorem wsame_c (w : World) (T T2 : TypeId) (B B2 b b2 : Nat) (A A2 : Option Addr) (n c n2 c2 : Nat) (bs cs : List UInt8) (h : Hid (WrAt w T b (.slice A n c) (eightsS (begin 1) bs))) (ho : Hid (Own w 5 B A n c bs)) (hn : n ≤ 1000000000)
    (h2 : Hid (WrAt w T2 b2 (.slice A2 n2 c2) (eightsS (begin 1) cs))) (ho2 : Hid (Own w 5 B2 A2 n2 c2 cs)) (hn2 : n2 ≤ 1000000000) :
    Calls Try.prog 18 #[.pointer (some ⟨b, 0, none⟩), .pointer (some ⟨b2, 0, none⟩)] w (Hands (.bool (bs == cs)) w) := by
  have HB := Lib.hid h.out.blk
  have HB2 := Lib.hid h2.out.blk
  obtain ⟨X, hX⟩ : ∃ X, X = ofN bs := ⟨_, rfl⟩
  obtain ⟨Y, hY⟩ : ∃ Y, Y = ofN cs := ⟨_, rfl⟩
  have LX : X < 18446744073709551616 := by rw [hX]; exact ofN_lt (by rw [ho.out.len]; omega)
  have LY : Y < 18446744073709551616 := by rw [hY]; exact ofN_lt (by rw [ho2.out.len]; omega)
  have E1 := eql_d LX LY
  have G1 := guard_d .eql X Y
  have HXX : Hid (ofN bs = X) := hX.symm
  have HYY : Hid (ofN cs = Y) := hY.symm
  by_cases hxy : X = Y
  · rw [decide_eq_true hxy] at E1
    clear hxy hX hY
    unfold digV at E1 G1
    go_enter Try.func18, Try.ntmps18
    go_wp2_with fail
    refine wp_region_schedC (fun v => Below w.heap.size w v) [(true, 0), (true, 2), (false, 1), (false, 3), (true, 4), (true, 5), (true, 6), (true, 7), (true, 8), (true, 9), (true, 10), (true, 11), (true, 12), (true, 13), (false, 14), (true, 15), (true, 16)] (by kernel_rfl) rfl (by kernel_rfl) (by kernel_rfl) (fun _ _ d _ _ h => by cases d <;> exact h) (ext_drew w) ?_
    intro J0 hJ0
    iterate 2 (refine schedC_pure (v := ?_) rfl (by rfl) ?_ ?_; rotate_left; (focus (intro v hC; go_simp; try with_reducible rfl)); try go_simp)
    refine schedC_eff rfl ?_
    intro J hJ
    go_wp2_with fail
    have W1 := Lib.hid (h.out.keep (ext_drew w))
    have O1 := Lib.hid (ho.out.ext (ext_drew w))
    refine (sum_c _ _ _ _ _ _ _ _ W1 O1 hn).mono ?_
    rw [HXX.out]
    unfold digV
    rintro e w1 ⟨rfl, hb⟩
    have B1 : Hid (Below w.heap.size w w1) := Lib.hid (ext_trans (ext_drew w) hb)
    clear hb
    go_wp2_with fail
    refine ⟨B1.out, ?_⟩
    refine schedC_eff rfl ?_
    intro J hJ
    go_wp2_with fail
    have W2 := Lib.hid (h2.out.keep B1.out)
    have O2 := Lib.hid (ho2.out.ext B1.out)
    refine (sum_c _ _ _ _ _ _ _ _ W2 O2 hn2).mono ?_
    rw [HYY.out]
    unfold digV
    rintro e w2 ⟨rfl, hb⟩
    have B2' : Hid (Below w.heap.size w w2) := Lib.hid (ext_trans B1.out hb)
    clear hb
    go_wp2_with fail
    refine ⟨B2'.out, ?_⟩
    iterate 10 (refine schedC_pure (v := ?_) rfl (by rfl) ?_ ?_; rotate_left; (focus (intro v hC; obtain ⟨d0, d1, d2, d3, d4⟩ := full5 (keepB hC HB.out); obtain ⟨e0, e1, e2, e3, e4⟩ := full5 (keepB hC HB2.out); go_simp; try with_reducible rfl)); try go_simp)
    refine schedC_eff rfl ?_
    intro J hJ
    go_wp2_with fail
    have R1 := Lib.hid (ho.out.rd.ext B2'.out)
    have R2 := Lib.hid (ho2.out.rd.ext B2'.out)
    refine (equal_c _ _ _ _ _ R1 _ _ _ _ R2).mono ?_
    rintro e w3 ⟨rfl, hb⟩
    have B3 : Hid (Below w.heap.size w w3) := Lib.hid (ext_trans B2'.out hb)
    clear hb
    go_wp2_with fail
    refine ⟨B3.out, ?_⟩
    iterate 2 (refine schedC_pure (v := ?_) rfl (by rfl) ?_ ?_; rotate_left; (focus (intro v hC; go_simp; try with_reducible rfl)); try go_simp)
    refine schedC_nil (hJ0 _ _ ?_)
    clear hJ0
    go_wp2_with fail
    go_ret
    exact ⟨rfl, B3.out⟩
  · rw [decide_eq_false hxy] at E1
    have hne : (bs == cs) = false := by
      rw [beq_eq_false_iff_ne]
      intro e
      exact hxy (by rw [hX, hY, e])
    rw [hne]
    clear hxy hX hY hne
    unfold digV at E1 G1
    go_enter Try.func18, Try.ntmps18
    go_wp2_with fail
    refine wp_region_schedC (fun v => Below w.heap.size w v) [(true, 0), (true, 2), (false, 1), (false, 3), (true, 4), (true, 5), (true, 6), (true, 7), (true, 8), (true, 9), (true, 10), (true, 11), (true, 12), (true, 13), (true, 14), (true, 15), (true, 16)] (by kernel_rfl) rfl (by kernel_rfl) (by kernel_rfl) (fun _ _ d _ _ h => by cases d <;> exact h) (ext_drew w) ?_
    intro J0 hJ0
    iterate 2 (refine schedC_pure (v := ?_) rfl (by rfl) ?_ ?_; rotate_left; (focus (intro v hC; go_simp; try with_reducible rfl)); try go_simp)
    refine schedC_eff rfl ?_
    intro J hJ
    go_wp2_with fail
    have W1 := Lib.hid (h.out.keep (ext_drew w))
    have O1 := Lib.hid (ho.out.ext (ext_drew w))
    refine (sum_c _ _ _ _ _ _ _ _ W1 O1 hn).mono ?_
    rw [HXX.out]
    unfold digV
    rintro e w1 ⟨rfl, hb⟩
    have B1 : Hid (Below w.heap.size w w1) := Lib.hid (ext_trans (ext_drew w) hb)
    clear hb
    go_wp2_with fail
    refine ⟨B1.out, ?_⟩
    refine schedC_eff rfl ?_
    intro J hJ
    go_wp2_with fail
    have W2 := Lib.hid (h2.out.keep B1.out)
    have O2 := Lib.hid (ho2.out.ext B1.out)
    refine (sum_c _ _ _ _ _ _ _ _ W2 O2 hn2).mono ?_
    rw [HYY.out]
    unfold digV
    rintro e w2 ⟨rfl, hb⟩
    have B2' : Hid (Below w.heap.size w w2) := Lib.hid (ext_trans B1.out hb)
    clear hb
    go_wp2_with fail
    refine ⟨B2'.out, ?_⟩
    iterate 2 (refine schedC_pure (v := ?_) rfl (by rfl) ?_ ?_; rotate_left; (focus (intro v hC; go_simp; try with_reducible rfl)); try go_simp)
    iterate 9 (refine schedC_none rfl (by rfl) ?_; try go_simp)
    iterate 2 (refine schedC_pure (v := ?_) rfl (by rfl) ?_ ?_; rotate_left; (focus (intro v hC; go_simp; try with_reducible rfl)); try go_simp)
    refine schedC_nil (hJ0 _ _ ?_)
    clear hJ0
    go_wp2_with fail
    go_ret
    exact ⟨rfl, B2'.out⟩
#print axioms wsame_c

theorem run_eql_nil_at {P : Program} (w : World) {t e : TypeId} (a : Addr) (h : P.underlying t = some (.pointer e)) :
    (binOp .eql t (.pointer none) (.pointer (some a))).run P w = .ok (.bool false) w := by
  have h : ∀ d : Nat, (Op.equalIn (d + 1) t (.pointer none) (.pointer (some a))).run P w = .ok false w := fun d => by
    simp [Op.equalIn, run_underlying h]
  simp only [binOp]
  simp [Op.equal, Op.maxDepth, h 9999]
theorem run_eql_nil_nilp {P : Program} (w : World) {t e : TypeId} (h : P.underlying t = some (.pointer e)) :
    (binOp .eql t (.pointer none) (.pointer none)).run P w = .ok (.bool true) w := by
  have h : ∀ d : Nat, (Op.equalIn (d + 1) t (.pointer none) (.pointer none)).run P w = .ok true w := fun d => by
    simp [Op.equalIn, run_underlying h]
  simp only [binOp]
  simp [Op.equal, Op.maxDepth, h 9999]
set_option maxRecDepth 100000 in
theorem sameNo_c (w : World) (a : Addr) : Calls Try.prog 18 #[.pointer (some a), .pointer none] w (Hands (.bool false) w) := by
  go_enter Try.func18, Try.ntmps18
  go_wp2_with fail
  go_ret
  exact ⟨rfl, Below.refl _ _⟩
set_option maxRecDepth 100000 in
theorem noSame_c (w : World) (a : Addr) : Calls Try.prog 18 #[.pointer none, .pointer (some a)] w (Hands (.bool false) w) := by
  have E := fun w => run_eql_nil_at (P := Try.prog) w a Try.underlying25
  go_enter Try.func18, Try.ntmps18
  go_wp2_with fail
  go_ret
  exact ⟨rfl, Below.refl _ _⟩
set_option maxRecDepth 100000 in
theorem noNo_c (w : World) : Calls Try.prog 18 #[.pointer none, .pointer none] w (Hands (.bool true) w) := by
  go_enter Try.func18, Try.ntmps18
  go_wp2_with fail
  go_ret
  exact ⟨rfl, Below.refl _ _⟩
set_option maxRecDepth 100000 in
theorem noClone_c (w : World) : Calls Try.prog 20 #[.pointer none] w (Hands (.pointer none) w) := by
  go_enter Try.func20, Try.ntmps20
  go_wp2_with fail
  go_ret
  exact ⟨rfl, Below.refl _ _⟩
set_option maxRecDepth 100000 in
theorem noSum_c (w : World) : Calls Try.prog 21 #[.pointer none] w (Hands (digV (ofN [])) w) := by
  obtain ⟨x, hx⟩ : ∃ x, x = ofN [] := ⟨_, rfl⟩
  have HX : Hid (ofN [] = x) := hx.symm
  rw [← hx]
  clear hx
  go_enter Try.func21, Try.ntmps21
  go_wp2_with fail
  have R : Hid ((World.alloc w (.cells #[.int .u8 0, .int .u8 0, .int .u8 0, .int .u8 0, .int .u8 0, .int .u8 0, .int .u8 0, .int .u8 0] 31)).heap[w.heap.size]? = some (.cells #[.int .u8 0, .int .u8 0, .int .u8 0, .int .u8 0, .int .u8 0, .int .u8 0, .int .u8 0, .int .u8 0] 31 (0, 0))) := Go.heap_alloc_new w _
  have B : Hid (Below w.heap.size w (World.alloc w (.cells #[.int .u8 0, .int .u8 0, .int .u8 0, .int .u8 0, .int .u8 0, .int .u8 0, .int .u8 0, .int .u8 0] 31))) := ext_alloc _ _
  generalize World.alloc w (.cells #[.int .u8 0, .int .u8 0, .int .u8 0, .int .u8 0, .int .u8 0, .int .u8 0, .int .u8 0, .int .u8 0] 31) = w2 at *
  refine (of_c _ _ _ _ _ (Lib.hid (Rd.nil _)) (by omega)).mono ?_
  rw [HX.out]
  unfold digV
  rintro e w4 ⟨rfl, hb4⟩
  replace R := Lib.hid (keepB hb4 R.out)
  replace B := Lib.hid (ext_trans B.out hb4)
  obtain ⟨q0, q1, q2, q3, q4, q5, q6, q7, f0, f1, f2, f3, f4, f5, f6, f7⟩ := full8 R.out
  clear hb4
  go_wp2_with fail
  obtain ⟨g0, g1, g2, g3, g4, g5, g6, g7⟩ := put8 R.out (.int .u8 (byt x 0)) (.int .u8 (byt x 1)) (.int .u8 (byt x 2)) (.int .u8 (byt x 3)) (.int .u8 (byt x 4)) (.int .u8 (byt x 5)) (.int .u8 (byt x 6)) (.int .u8 (byt x 7))
  refine bodyPost_ret (v := digV x) (by unfold digV; simp only [results, Try.results21]; simp [go_sem, g0, g1, g2, g3, g4, g5, g6, g7]) rfl ⟨by unfold digV; rfl, bel8 B.out (Nat.le_refl _) (by omega) _ _ _ _ _ _ _ _⟩
#print axioms noSum_c
end Go.Proofs.Ytdejlahgeckobaa
