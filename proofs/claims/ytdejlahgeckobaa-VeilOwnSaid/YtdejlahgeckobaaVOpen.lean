/-
  veil: Open, the document's too: contracts.
-/
import Derived.Test.YtdejlahgeckobaaVSeal
import Derived.Test.YtdejlahgeckobaaHBytR
namespace Go.Proofs.Ytdejlahgeckobaa
open Go.RowKit

/-- a slice from place k on, as the model has it -/
theorem Rd.from_ {w : World} {A : Option Addr} {n c : Nat} {bs : List UInt8} (h : Rd w A n c bs) {k : Nat} (hk : k ≤ n) : Rd w (if c = k then A else Option.map (fun x => x.add k) A) (n - k) (c - k) (bs.drop k) := by
  by_cases hn : n = 0
  · subst hn
    obtain rfl : k = 0 := by omega
    have hz : bs = [] := List.eq_nil_of_length_eq_zero h.len
    subst hz
    refine ⟨rfl, by omega, by have := h.max; omega, fun h0 => absurd h0 (by omega), fun hA => ?_⟩
    by_cases hc : c = 0
    · omega
    · rw [if_neg hc] at hA
      cases A with
      | none => have := h.none_ rfl; omega
      | some a => simp at hA
  · obtain ⟨b, o, rfl, hb, hc⟩ := h.cells (by omega)
    have hle := h.le
    by_cases hck : c = k
    · subst hck
      have : n = c := by omega
      subst this
      rw [if_pos rfl]
      exact ⟨by rw [List.length_drop, h.len], by omega, by omega, fun h0 => absurd h0 (by omega), fun e => by cases e⟩
    · rw [if_neg hck]
      show Rd w (some ((⟨b, o, none⟩ : Addr).add k)) (n - k) (c - k) (bs.drop k)
      rw [Addr.add_lit]
      exact h.from1 hk

/-- what a box opens to, and the error's number -/
def openR (k : Nat) (bs : List UInt8) : List UInt8 × Int :=
  if bs.length < 8 then ([], 4) else if bs.length > 65544 then ([], 2) else if chkN k (openB k bs) = num8 (bs.take 8) then (openB k bs, 0) else ([], 29)
def Opened (w : World) (k : Nat) (bs : List UInt8) (e : Ending) (w' : World) : Prop :=
  ∃ A n c err, e = .returned (.tuple #[.slice A n c, .int .i64 err]) ∧ Own w' 5 w.heap.size A n c (openR k bs).1 ∧ err = (openR k bs).2 ∧ Below w.heap.size w w'
theorem openR_box {k : Nat} {bs : List UInt8} (hk : k < 18446744073709551616) (hn : bs.length ≤ 65536) : openR k (boxB k bs) = (bs, 0) := by
  obtain ⟨e1, e2⟩ := open_box (bs := bs) hk (by omega)
  unfold openR
  rw [if_neg (by rw [boxB_len]; omega), if_neg (by rw [boxB_len]; omega), e1]
  unfold opensB at e2
  rw [e1, decide_eq_true_iff] at e2
  rw [if_pos e2]

set_option maxRecDepth 100000 in
set_option maxHeartbeats 2000000 in
theorem open_s (w : World) (k : Nat) (A : Option Addr) (n c : Nat) (bs : List UInt8) (h : Hid (Rd w A n c bs)) (hn1 : n < 8 ∨ (8 ≤ n ∧ n > 65544)) :
    Calls Try.prog 39 #[digV k, .slice A n c] w (Opened w k bs) := by
  have hle := h.out.le
  have hmax := h.out.max
  have HL := Lib.hid h.out.len
  rcases hn1 with hn1 | ⟨hn0, hn1⟩
  · have HV : openR k bs = ([], 4) := by unfold openR; rw [if_pos (by rw [HL.out]; exact hn1)]
    have HVV := Lib.hid HV
    clear HV
    have gI : (n : Int) < 8 := by omega
    unfold digV
    go_enter Try.func39, Try.ntmps39
    go_wp2_with fail
    go_ret2
    exact ⟨none, 0, 0, 4, rfl, by rw [HVV.out]; exact Own.void _ _ _, by rw [HVV.out], ext_alloc _ _⟩
  · have HV : openR k bs = ([], 2) := by unfold openR; rw [if_neg (by rw [HL.out]; omega), if_pos (by rw [HL.out]; exact hn1)]
    have HVV := Lib.hid HV
    clear HV
    have gI : ¬ (n : Int) < 8 := by omega
    have gJ : (65544 : Int) < (n : Int) := by omega
    unfold digV
    go_enter Try.func39, Try.ntmps39
    go_wp2_with fail
    go_ret2
    exact ⟨none, 0, 0, 2, rfl, by rw [HVV.out]; exact Own.void _ _ _, by rw [HVV.out], ext_alloc _ _⟩
#print axioms open_s

set_option maxRecDepth 100000 in
set_option maxHeartbeats 4000000 in
theorem open_c (w : World) (k : Nat) (hk : k < 18446744073709551616) (A : Option Addr) (n c : Nat) (bs : List UInt8) (h : Hid (Rd w A n c bs)) :
    Calls Try.prog 39 #[digV k, .slice A n c] w (Opened w k bs) := by
  by_cases hs : n < 8 ∨ (8 ≤ n ∧ n > 65544)
  · exact open_s w k A n c bs h hs
  have hn8 : 8 ≤ n := by omega
  have hn : n ≤ 65544 := by omega
  clear hs
  have hle := h.out.le
  have hmax := h.out.max
  have HL := Lib.hid h.out.len
  obtain ⟨x, hx⟩ : ∃ x, x = num8 (bs.take 8) := ⟨_, rfl⟩
  have Lx : x < 18446744073709551616 := by rw [hx]; exact take8_lt _
  obtain ⟨V, hV⟩ : ∃ V, V = veilB k x (bs.drop 8) := ⟨_, rfl⟩
  have HVV : Hid (veilB k x (bs.drop 8) = V) := hV.symm
  have VL : Hid (V.length = n - 8) := by rw [hV]; show _ = _; rw [veilB_len, List.length_drop, HL.out]
  obtain ⟨y, hy⟩ : ∃ y, y = chkN k V := ⟨_, rfl⟩
  have Ly : y < 18446744073709551616 := by rw [hy]; exact chkN_lt hk (by rw [VL.out]; omega)
  have HY : Hid (chkN k V = y) := hy.symm
  have HR : Hid (openR k bs = if y = x then (V, 0) else ([], 29)) := by
    show _ = _
    unfold openR
    rw [if_neg (by rw [HL.out]; omega), if_neg (by rw [HL.out]; omega)]
    unfold openB
    rw [← hx, ← hV, ← hy]
  have HBX : Hid (∀ j, j < 8 → byt x j = (bs.getD j 0).toNat) := fun j hj => by
    rw [hx, byt_num8]
    simp [List.getD, hj]
  clear hx hV hy
  obtain ⟨A', hA'⟩ : ∃ A', A' = (if c = 8 then A else Option.map (fun x => x.add 8) A) := ⟨_, rfl⟩
  have RF : Hid (Rd w A' (n - 8) (c - 8) (bs.drop 8)) := by rw [hA']; exact h.out.from_ hn8
  obtain ⟨b0, o0, rfl, hb0, hc0⟩ := h.out.cells (by omega)
  have eA : (if c = 8 then (some ⟨b0, o0, none⟩ : Option Addr) else some ⟨b0, o0 + 8, none⟩) = A' := by rw [hA']; rfl
  have HC : Hid (∀ j, j < 8 → w.cell? ⟨b0, o0 + j, none⟩ = some (.int .u8 (byt x j))) := fun j hj => by rw [hc0 j (by omega), HBX.out j hj]
  clear hA' hc0 HBX
  have gI : ¬ (n : Int) < 8 := by omega
  have gJ : ¬ (65544 : Int) < (n : Int) := by omega
  have gK : (8 : Int) ≤ (n : Int) := by omega
  have gL : (8 : Int) ≤ (c : Int) := by omega
  have AAT : ∀ w, (Instr.arrayAt 31 (.slice (some ⟨b0, o0, none⟩) 8 c)).run Try.prog w = .ok (.pointer (some ⟨b0, o0, none⟩)) w := fun w => by simp [Instr.arrayAt, run_underlying Try.underlying31]
  have EQ := neq_d Ly Lx
  have GD := guard_d .neq y x
  unfold digV at EQ GD
  obtain ⟨x0, x1, x2, x3, x4, x5, x6, x7⟩ := (⟨HC.out 0 (by omega), HC.out 1 (by omega), HC.out 2 (by omega), HC.out 3 (by omega), HC.out 4 (by omega), HC.out 5 (by omega), HC.out 6 (by omega), HC.out 7 (by omega)⟩ : _ ∧ _ ∧ _ ∧ _ ∧ _ ∧ _ ∧ _ ∧ _)
  rw [Nat.add_zero] at x0
  unfold digV
  go_enter Try.func39, Try.ntmps39
  go_upto_region 1 with fail
  have B1 : Hid (Below w.heap.size w (World.alloc w (.cells #[.int .u8 (byt k 0), .int .u8 (byt k 1), .int .u8 (byt k 2), .int .u8 (byt k 3), .int .u8 (byt k 4), .int .u8 (byt k 5), .int .u8 (byt k 6), .int .u8 (byt k 7)] 31))) := ext_alloc _ _
  have DK1 : Hid ((World.alloc w (.cells #[.int .u8 (byt k 0), .int .u8 (byt k 1), .int .u8 (byt k 2), .int .u8 (byt k 3), .int .u8 (byt k 4), .int .u8 (byt k 5), .int .u8 (byt k 6), .int .u8 (byt k 7)] 31)).heap[w.heap.size]? = some (.cells #[.int .u8 (byt k 0), .int .u8 (byt k 1), .int .u8 (byt k 2), .int .u8 (byt k 3), .int .u8 (byt k 4), .int .u8 (byt k 5), .int .u8 (byt k 6), .int .u8 (byt k 7)] 31 (0, 0))) := Go.heap_alloc_new w _
  have HC1 : Hid (∀ j, j < 8 → (World.alloc w (.cells #[.int .u8 (byt k 0), .int .u8 (byt k 1), .int .u8 (byt k 2), .int .u8 (byt k 3), .int .u8 (byt k 4), .int .u8 (byt k 5), .int .u8 (byt k 6), .int .u8 (byt k 7)] 31)).cell? ⟨b0, o0 + j, none⟩ = some (.int .u8 (byt x j))) := fun j hj => (B1.out.cell (p := ⟨b0, o0 + j, none⟩) hb0).trans (HC.out j hj)
  clear x0 x1 x2 x3 x4 x5 x6 x7
  generalize World.alloc w (.cells #[.int .u8 (byt k 0), .int .u8 (byt k 1), .int .u8 (byt k 2), .int .u8 (byt k 3), .int .u8 (byt k 4), .int .u8 (byt k 5), .int .u8 (byt k 6), .int .u8 (byt k 7)] 31) = W1 at *
  obtain ⟨x0, x1, x2, x3, x4, x5, x6, x7⟩ := (⟨HC1.out 0 (by omega), HC1.out 1 (by omega), HC1.out 2 (by omega), HC1.out 3 (by omega), HC1.out 4 (by omega), HC1.out 5 (by omega), HC1.out 6 (by omega), HC1.out 7 (by omega)⟩ : _ ∧ _ ∧ _ ∧ _ ∧ _ ∧ _ ∧ _ ∧ _)
  rw [Nat.add_zero] at x0
  go_wp2_with fail
  have DX : Hid ((World.alloc W1 (.cells #[.int .u8 (byt x 0), .int .u8 (byt x 1), .int .u8 (byt x 2), .int .u8 (byt x 3), .int .u8 (byt x 4), .int .u8 (byt x 5), .int .u8 (byt x 6), .int .u8 (byt x 7)] 31)).heap[W1.heap.size]? = some (.cells #[.int .u8 (byt x 0), .int .u8 (byt x 1), .int .u8 (byt x 2), .int .u8 (byt x 3), .int .u8 (byt x 4), .int .u8 (byt x 5), .int .u8 (byt x 6), .int .u8 (byt x 7)] 31 (0, 0))) := Go.heap_alloc_new W1 _
  have DK : Hid ((World.alloc W1 (.cells #[.int .u8 (byt x 0), .int .u8 (byt x 1), .int .u8 (byt x 2), .int .u8 (byt x 3), .int .u8 (byt x 4), .int .u8 (byt x 5), .int .u8 (byt x 6), .int .u8 (byt x 7)] 31)).heap[w.heap.size]? = some (.cells #[.int .u8 (byt k 0), .int .u8 (byt k 1), .int .u8 (byt k 2), .int .u8 (byt k 3), .int .u8 (byt k 4), .int .u8 (byt k 5), .int .u8 (byt k 6), .int .u8 (byt k 7)] 31 (0, 0))) := keepA DK1.out
  have B : Hid (Below w.heap.size w (World.alloc W1 (.cells #[.int .u8 (byt x 0), .int .u8 (byt x 1), .int .u8 (byt x 2), .int .u8 (byt x 3), .int .u8 (byt x 4), .int .u8 (byt x 5), .int .u8 (byt x 6), .int .u8 (byt x 7)] 31))) := ext_trans B1.out (ext_alloc _ _)
  clear x0 x1 x2 x3 x4 x5 x6 x7 DK1 HC1 HC
  generalize World.alloc W1 (.cells #[.int .u8 (byt x 0), .int .u8 (byt x 1), .int .u8 (byt x 2), .int .u8 (byt x 3), .int .u8 (byt x 4), .int .u8 (byt x 5), .int .u8 (byt x 6), .int .u8 (byt x 7)] 31) = W at *
  refine wp_region_schedC (fun v => Below W.heap.size W v) [(true, 0), (true, 1), (true, 2), (true, 3), (false, 4), (true, 5)] (by kernel_rfl) rfl (by kernel_rfl) (by kernel_rfl) (fun _ _ d _ _ h => by cases d <;> exact h) (ext_drew W) ?_
  intro J0 hJ0
  iterate 4 (refine schedC_pure (v := ?_) rfl (by rfl) ?_ ?_; rotate_left; (focus (intro v hC; obtain ⟨d0, d1, d2, d3, d4, d5, d6, d7, _, _, _, _, _, _, _, _⟩ := full8 (keepB hC DK.out); obtain ⟨x0, x1, x2, x3, x4, x5, x6, x7, _, _, _, _, _, _, _, _⟩ := full8 (keepB hC DX.out); go_simp; try with_reducible rfl)); try go_simp)
  refine schedC_eff rfl ?_
  intro J hJ
  go_wp2_with fail
  refine (veiled_c _ k x hk Lx _ _ _ _ (Lib.hid (RF.out.ext (ext_trans B.out (ext_drew W)))) (by omega)).mono ?_
  rw [HVV.out]
  rintro e w2 ⟨AS, nS, cS, rfl, ho, hb⟩
  obtain rfl : n - 8 = nS := by rw [← ho.len, VL.out]
  have CC : Hid (Below W.heap.size W w2) := Lib.hid (ext_trans (ext_drew W) hb)
  have O2 : Hid (Own w2 5 w.heap.size AS (n - 8) cS V) := Lib.hid (ho.mono (Nat.le_trans B.out.size (Nat.le_refl _)))
  clear hb ho
  go_wp2_with fail
  refine ⟨CC.out, ?_⟩
  iterate 1 (refine schedC_pure (v := ?_) rfl (by rfl) ?_ ?_; rotate_left; (focus (intro v hC; go_simp; try with_reducible rfl)); try go_simp)
  refine schedC_nil (hJ0 _ _ ?_)
  clear hJ0
  replace DK := Lib.hid (keepB CC.out DK.out)
  replace DX := Lib.hid (keepB CC.out DX.out)
  replace B := Lib.hid (ext_trans B.out CC.out)
  clear CC
  go_wp2_with fail
  refine wp_region_schedC (fun v => Below w2.heap.size w2 v) [(true, 0), (true, 1), (true, 3), (false, 2), (true, 4)] (by kernel_rfl) rfl (by kernel_rfl) (by kernel_rfl) (fun _ _ d _ _ h => by cases d <;> exact h) (ext_drew w2) ?_
  intro J0 hJ0
  iterate 3 (refine schedC_pure (v := ?_) rfl (by rfl) ?_ ?_; rotate_left; (focus (intro v hC; obtain ⟨d0, d1, d2, d3, d4, d5, d6, d7, _, _, _, _, _, _, _, _⟩ := full8 (keepB hC DK.out); obtain ⟨x0, x1, x2, x3, x4, x5, x6, x7, _, _, _, _, _, _, _, _⟩ := full8 (keepB hC DX.out); go_simp; try with_reducible rfl)); try go_simp)
  refine schedC_eff rfl ?_
  intro J hJ
  go_wp2_with fail
  refine (check_c _ k hk _ _ _ _ (Lib.hid (O2.out.rd.ext (ext_drew w2))) (by omega)).mono ?_
  rw [HY.out]
  unfold digV
  rintro e w3 ⟨rfl, hb⟩
  have CC : Hid (Below w2.heap.size w2 w3) := Lib.hid (ext_trans (ext_drew w2) hb)
  clear hb
  go_wp2_with fail
  refine ⟨CC.out, ?_⟩
  by_cases hyx : y = x
  · have HRR : Hid (openR k bs = (V, 0)) := by show _ = _; rw [HR.out, if_pos hyx]
    rw [decide_eq_true hyx, Bool.not_true] at EQ
    clear hyx HR
    refine schedC_pure (v := .bool false) rfl (by rfl) ?_ ?_
    · intro v hC; go_simp
    try go_simp
    refine schedC_nil (hJ0 _ _ ?_)
    clear hJ0
    go_wp2_with fail
    go_ret2
    exact ⟨_, _, _, 0, rfl, by rw [HRR.out]; exact O2.out.ext CC.out, by rw [HRR.out], ext_trans B.out CC.out⟩
  · have HRR : Hid (openR k bs = ([], 29)) := by show _ = _; rw [HR.out, if_neg hyx]
    rw [decide_eq_false hyx, Bool.not_false] at EQ
    clear hyx HR
    refine schedC_pure (v := .bool true) rfl (by rfl) ?_ ?_
    · intro v hC; go_simp
    try go_simp
    refine schedC_nil (hJ0 _ _ ?_)
    clear hJ0
    go_wp2_with fail
    go_ret2
    exact ⟨none, 0, 0, 29, rfl, by rw [HRR.out]; exact Own.void _ _ _, by rw [HRR.out], ext_trans B.out CC.out⟩
#print axioms open_c

set_option maxRecDepth 100000 in
set_option maxHeartbeats 2000000 in
theorem ropen_s (w : World) (k : Nat) (A : Option Addr) (n c : Nat) (bs : List UInt8) (h : Hid (Rd w A n c bs)) (hn1 : n < 8 ∨ (8 ≤ n ∧ n > 65544)) :
    Calls Try.prog 41 #[digV k, .slice A n c] w (Opened w k bs) := by
  have hle := h.out.le
  have hmax := h.out.max
  have HL := Lib.hid h.out.len
  rcases hn1 with hn1 | ⟨hn0, hn1⟩
  · have HV : openR k bs = ([], 4) := by unfold openR; rw [if_pos (by rw [HL.out]; exact hn1)]
    have HVV := Lib.hid HV
    clear HV
    have gI : (n : Int) < 8 := by omega
    unfold digV
    go_enter Try.func41, Try.ntmps41
    go_wp2_with fail
    go_ret2
    exact ⟨none, 0, 0, 4, rfl, by rw [HVV.out]; exact Own.void _ _ _, by rw [HVV.out], ext_alloc _ _⟩
  · have HV : openR k bs = ([], 2) := by unfold openR; rw [if_neg (by rw [HL.out]; omega), if_pos (by rw [HL.out]; exact hn1)]
    have HVV := Lib.hid HV
    clear HV
    have gI : ¬ (n : Int) < 8 := by omega
    have gJ : (65544 : Int) < (n : Int) := by omega
    unfold digV
    go_enter Try.func41, Try.ntmps41
    go_wp2_with fail
    go_ret2
    exact ⟨none, 0, 0, 2, rfl, by rw [HVV.out]; exact Own.void _ _ _, by rw [HVV.out], ext_alloc _ _⟩
#print axioms ropen_s

set_option maxRecDepth 100000 in
set_option maxHeartbeats 4000000 in
theorem ropen_c (w : World) (k : Nat) (hk : k < 18446744073709551616) (A : Option Addr) (n c : Nat) (bs : List UInt8) (h : Hid (Rd w A n c bs)) :
    Calls Try.prog 41 #[digV k, .slice A n c] w (Opened w k bs) := by
  by_cases hs : n < 8 ∨ (8 ≤ n ∧ n > 65544)
  · exact ropen_s w k A n c bs h hs
  have hn8 : 8 ≤ n := by omega
  have hn : n ≤ 65544 := by omega
  clear hs
  have hle := h.out.le
  have hmax := h.out.max
  have HL := Lib.hid h.out.len
  obtain ⟨x, hx⟩ : ∃ x, x = num8 (bs.take 8) := ⟨_, rfl⟩
  have Lx : x < 18446744073709551616 := by rw [hx]; exact take8_lt _
  obtain ⟨V, hV⟩ : ∃ V, V = veilB k x (bs.drop 8) := ⟨_, rfl⟩
  have HVV : Hid (veilB k x (bs.drop 8) = V) := hV.symm
  have VL : Hid (V.length = n - 8) := by rw [hV]; show _ = _; rw [veilB_len, List.length_drop, HL.out]
  obtain ⟨y, hy⟩ : ∃ y, y = chkN k V := ⟨_, rfl⟩
  have Ly : y < 18446744073709551616 := by rw [hy]; exact chkN_lt hk (by rw [VL.out]; omega)
  have HY : Hid (chkN k V = y) := hy.symm
  have HR : Hid (openR k bs = if y = x then (V, 0) else ([], 29)) := by
    show _ = _
    unfold openR
    rw [if_neg (by rw [HL.out]; omega), if_neg (by rw [HL.out]; omega)]
    unfold openB
    rw [← hx, ← hV, ← hy]
  have HBX : Hid (∀ j, j < 8 → byt x j = (bs.getD j 0).toNat) := fun j hj => by
    rw [hx, byt_num8]
    simp [List.getD, hj]
  clear hx hV hy
  obtain ⟨A', hA'⟩ : ∃ A', A' = (if c = 8 then A else Option.map (fun x => x.add 8) A) := ⟨_, rfl⟩
  have RF : Hid (Rd w A' (n - 8) (c - 8) (bs.drop 8)) := by rw [hA']; exact h.out.from_ hn8
  obtain ⟨b0, o0, rfl, hb0, hc0⟩ := h.out.cells (by omega)
  have eA : (if c = 8 then (some ⟨b0, o0, none⟩ : Option Addr) else some ⟨b0, o0 + 8, none⟩) = A' := by rw [hA']; rfl
  have HC : Hid (∀ j, j < 8 → w.cell? ⟨b0, o0 + j, none⟩ = some (.int .u8 (byt x j))) := fun j hj => by rw [hc0 j (by omega), HBX.out j hj]
  clear hA' hc0 HBX
  have gI : ¬ (n : Int) < 8 := by omega
  have gJ : ¬ (65544 : Int) < (n : Int) := by omega
  have gK : (8 : Int) ≤ (n : Int) := by omega
  have gL : (8 : Int) ≤ (c : Int) := by omega
  have AAT : ∀ w, (Instr.arrayAt 31 (.slice (some ⟨b0, o0, none⟩) 8 c)).run Try.prog w = .ok (.pointer (some ⟨b0, o0, none⟩)) w := fun w => by simp [Instr.arrayAt, run_underlying Try.underlying31]
  have EQ := neq_r Ly Lx
  have GD := guard_r .neq y x
  unfold digV at EQ GD
  unfold digV
  go_enter Try.func41, Try.ntmps41
  go_upto_region 1 with fail
  have B1 : Hid (Below w.heap.size w (World.alloc w (.cells #[.int .u8 (byt k 0), .int .u8 (byt k 1), .int .u8 (byt k 2), .int .u8 (byt k 3), .int .u8 (byt k 4), .int .u8 (byt k 5), .int .u8 (byt k 6), .int .u8 (byt k 7)] 30))) := ext_alloc _ _
  have DK1 : Hid ((World.alloc w (.cells #[.int .u8 (byt k 0), .int .u8 (byt k 1), .int .u8 (byt k 2), .int .u8 (byt k 3), .int .u8 (byt k 4), .int .u8 (byt k 5), .int .u8 (byt k 6), .int .u8 (byt k 7)] 30)).heap[w.heap.size]? = some (.cells #[.int .u8 (byt k 0), .int .u8 (byt k 1), .int .u8 (byt k 2), .int .u8 (byt k 3), .int .u8 (byt k 4), .int .u8 (byt k 5), .int .u8 (byt k 6), .int .u8 (byt k 7)] 30 (0, 0))) := Go.heap_alloc_new w _
  have HC1 : Hid (∀ j, j < 8 → (World.alloc w (.cells #[.int .u8 (byt k 0), .int .u8 (byt k 1), .int .u8 (byt k 2), .int .u8 (byt k 3), .int .u8 (byt k 4), .int .u8 (byt k 5), .int .u8 (byt k 6), .int .u8 (byt k 7)] 30)).cell? ⟨b0, o0 + j, none⟩ = some (.int .u8 (byt x j))) := fun j hj => (B1.out.cell (p := ⟨b0, o0 + j, none⟩) hb0).trans (HC.out j hj)
  generalize World.alloc w (.cells #[.int .u8 (byt k 0), .int .u8 (byt k 1), .int .u8 (byt k 2), .int .u8 (byt k 3), .int .u8 (byt k 4), .int .u8 (byt k 5), .int .u8 (byt k 6), .int .u8 (byt k 7)] 30) = W1 at *
  have zb1 : b0 < W1.heap.size := Nat.lt_of_lt_of_le hb0 B1.out.size
  go_wp2_with fail
  go_loopw [7] (fun kv wr => ∃ (k : Nat), k ≤ 8 ∧ kv = .int .i64 k ∧ Hid (wr.heap[W1.heap.size]? = some (.cells (fillA x k) 30 (0, 0))) ∧ Hid (Below W1.heap.size W1 wr)) (fun kv _ => 8 - (intOf kv).toNat)
  case atStart => exact ⟨0, by omega, rfl, Go.heap_alloc_new W1 _, ext_alloc _ _⟩
  case round =>
    obtain ⟨j, hj, rfl, D, B3⟩ := hrel
    by_cases hj8 : j < 8
    · have hjI : (j : Int) < 8 := by omega
      have hjI0 : (0 : Int) ≤ (j : Int) := by omega
      have hjn : (j : Int) < (n : Int) := by omega
      have c1 := (B3.out.cell (p := ⟨b0, o0 + j, none⟩) zb1).trans (HC1.out j hj8)
      have c2 : wr.cell? ⟨W1.heap.size, j, none⟩ = some (.int .u8 0) := by rw [cell_of_row wr _ j _ _ _ D.out]; exact fillA_at x j hj8
      have f2 : wr.frozen? ⟨W1.heap.size, j, none⟩ = false := by simp [World.frozen?, D.out]
      go_wp2_with fail
      exact ⟨⟨j + 1, by omega, by go_num, by rw [← fillA_on x j hj8]; exact heap_set_same (j := j) _ D.out, below_set B3.out (Nat.le_refl _) (Nat.le_refl _)⟩, by simp [intOf]; omega⟩
    · obtain rfl : j = 8 := by omega
      rename World => W
      have DX : Hid (W.heap[W1.heap.size]? = some (.cells #[.int .u8 (byt x 0), .int .u8 (byt x 1), .int .u8 (byt x 2), .int .u8 (byt x 3), .int .u8 (byt x 4), .int .u8 (byt x 5), .int .u8 (byt x 6), .int .u8 (byt x 7)] 30 (0, 0))) := D.out
      have DK : Hid (W.heap[w.heap.size]? = some (.cells #[.int .u8 (byt k 0), .int .u8 (byt k 1), .int .u8 (byt k 2), .int .u8 (byt k 3), .int .u8 (byt k 4), .int .u8 (byt k 5), .int .u8 (byt k 6), .int .u8 (byt k 7)] 30 (0, 0))) := keepB B3.out DK1.out
      have B : Hid (Below w.heap.size w W) := ext_trans B1.out B3.out
      clear D B3 DK1 HC1 HC
      go_wp2_with fail
      refine wp_region_schedC (fun v => Below W.heap.size W v) [(true, 0), (true, 1), (true, 2), (true, 3), (false, 4), (true, 5)] (by kernel_rfl) rfl (by kernel_rfl) (by kernel_rfl) (fun _ _ d _ _ h => by cases d <;> exact h) (ext_drew W) ?_
      intro J0 hJ0
      iterate 4 (refine schedC_pure (v := ?_) rfl (by rfl) ?_ ?_; rotate_left; (focus (intro v hC; obtain ⟨d0, d1, d2, d3, d4, d5, d6, d7, _, _, _, _, _, _, _, _⟩ := full8 (keepB hC DK.out); obtain ⟨x0, x1, x2, x3, x4, x5, x6, x7, _, _, _, _, _, _, _, _⟩ := full8 (keepB hC DX.out); go_simp; try with_reducible rfl)); try go_simp)
      refine schedC_eff rfl ?_
      intro J hJ
      go_wp2_with fail
      refine (turn_c _ k x hk Lx _ _ _ _ (Lib.hid (RF.out.ext (ext_trans B.out (ext_drew W)))) (by omega)).mono ?_
      rw [HVV.out]
      rintro e w2 ⟨AS, nS, cS, rfl, ho, hb⟩
      obtain rfl : n - 8 = nS := by rw [← ho.len, VL.out]
      have CC : Hid (Below W.heap.size W w2) := Lib.hid (ext_trans (ext_drew W) hb)
      have O2 : Hid (Own w2 5 w.heap.size AS (n - 8) cS V) := Lib.hid (ho.mono (Nat.le_trans B.out.size (Nat.le_refl _)))
      clear hb ho
      go_wp2_with fail
      refine ⟨CC.out, ?_⟩
      iterate 1 (refine schedC_pure (v := ?_) rfl (by rfl) ?_ ?_; rotate_left; (focus (intro v hC; go_simp; try with_reducible rfl)); try go_simp)
      refine schedC_nil (hJ0 _ _ ?_)
      clear hJ0
      replace DK := Lib.hid (keepB CC.out DK.out)
      replace DX := Lib.hid (keepB CC.out DX.out)
      replace B := Lib.hid (ext_trans B.out CC.out)
      clear CC
      go_wp2_with fail
      refine wp_region_schedC (fun v => Below w2.heap.size w2 v) [(true, 0), (true, 1), (true, 3), (false, 2), (true, 4)] (by kernel_rfl) rfl (by kernel_rfl) (by kernel_rfl) (fun _ _ d _ _ h => by cases d <;> exact h) (ext_drew w2) ?_
      intro J0 hJ0
      iterate 3 (refine schedC_pure (v := ?_) rfl (by rfl) ?_ ?_; rotate_left; (focus (intro v hC; obtain ⟨d0, d1, d2, d3, d4, d5, d6, d7, _, _, _, _, _, _, _, _⟩ := full8 (keepB hC DK.out); obtain ⟨x0, x1, x2, x3, x4, x5, x6, x7, _, _, _, _, _, _, _, _⟩ := full8 (keepB hC DX.out); go_simp; try with_reducible rfl)); try go_simp)
      refine schedC_eff rfl ?_
      intro J hJ
      go_wp2_with fail
      refine (rcheck_c _ k hk _ _ _ _ (Lib.hid (O2.out.rd.ext (ext_drew w2))) (by omega)).mono ?_
      rw [HY.out]
      unfold digV
      rintro e w3 ⟨rfl, hb⟩
      have CC : Hid (Below w2.heap.size w2 w3) := Lib.hid (ext_trans (ext_drew w2) hb)
      clear hb
      go_wp2_with fail
      refine ⟨CC.out, ?_⟩
      by_cases hyx : y = x
      · have HRR : Hid (openR k bs = (V, 0)) := by show _ = _; rw [HR.out, if_pos hyx]
        rw [decide_eq_true hyx, Bool.not_true] at EQ
        clear hyx HR
        refine schedC_pure (v := .bool false) rfl (by rfl) ?_ ?_
        · intro v hC; go_simp
        try go_simp
        refine schedC_nil (hJ0 _ _ ?_)
        clear hJ0
        go_wp2_with fail
        go_ret2
        exact ⟨_, _, _, 0, rfl, by rw [HRR.out]; exact O2.out.ext CC.out, by rw [HRR.out], ext_trans B.out CC.out⟩
      · have HRR : Hid (openR k bs = ([], 29)) := by show _ = _; rw [HR.out, if_neg hyx]
        rw [decide_eq_false hyx, Bool.not_false] at EQ
        clear hyx HR
        refine schedC_pure (v := .bool true) rfl (by rfl) ?_ ?_
        · intro v hC; go_simp
        try go_simp
        refine schedC_nil (hJ0 _ _ ?_)
        clear hJ0
        go_wp2_with fail
        go_ret2
        exact ⟨none, 0, 0, 29, rfl, by rw [HRR.out]; exact Own.void _ _ _, by rw [HRR.out], ext_trans B.out CC.out⟩
#print axioms ropen_c
end Go.Proofs.Ytdejlahgeckobaa
