/-
  veil: Seal; the document's Seal: contracts.
-/
import Derived.Test.YtdejlahgeckobaaVBox
namespace Go.Proofs.Ytdejlahgeckobaa
open Go.RowKit

/-- append(a[:], y...) where a is a whole array's block: what y yields behind it -/
theorem run_append_full {P : Program} (w : World) (B : Nat) (t tx ty e T : TypeId) (i : TypeInfo) (z : Value) (bytes : Nat) (ht : P.underlying t = some (.slice e)) (hi : P.info? e = some i) (hz : i.zero = some z)
    (hsize : i.size = 1) (hby : i.bytes = bytes) (hzs : z.cells.size = 1) (b k : Nat) (cur : Array Value) (xs : List Value) (hB : B ≤ b) (hb : w.heap[b]? = some (.cells cur T (0, 0))) (hcur : cur.toList = xs) (hk : cur.size = k) (hk2 : k ≤ maxLen)
    (x : Value) (m : Nat) (news : List Value) (hs : Src P 1 tx x m news w) (hbytes : (k + m) * bytes ≤ 140737488355328) (h63 : k + m ≤ 140737488355328) :
    ∃ E A c w', (Builtin.append_ #[t, tx] ty #[.slice (some ⟨b, 0, none⟩) k k, x]).run P w = .ok (.slice A (k + m) c) w' ∧ w'.ownsRow B E 1 (.slice A (k + m) c) (k + m) (xs ++ news) ∧ w.grownBy w' none := by
  have hl : news.length = m := by have := hs.newsLen; omega
  have hxl : xs.length = k := by rw [← hcur, Array.length_toList, hk]
  have zb : b < w.heap.size := (Array.getElem?_eq_some_iff.1 hb).1
  by_cases hm : m = 0
  · subst hm
    have hn : news = [] := List.eq_nil_of_length_eq_zero hl
    subst hn
    have hr := run_append_room_src (P := P) w t tx ty e i ht hi b 0 k k x 0 [] (by rw [hsize]; exact hs) (by omega) (fun j hj => absurd hj (by simp)) (fun j hj => absurd hj (by simp))
    refine ⟨T, _, _, _, hr, ⟨by rw [List.append_nil]; omega, .inr ⟨b, k, cur, rfl, hB, hb, by omega, hk2, by omega, ?_⟩⟩, World.grownBy.refl _ _⟩
    rw [List.append_nil, ← hcur, List.take_of_length_le (by rw [Array.length_toList]; omega)]
  · have hr := run_append_grow_src (P := P) w t tx ty e i z ht hi hz (some ⟨b, 0, none⟩) k k xs
      (run_firstCells_some w.drew i.size k ⟨b, 0, none⟩ k k xs (by rw [hsize]; omega) (fun j u hu => by
        rw [Addr.add_lit, show w.drew.cell? ⟨b, 0 + j, none⟩ = w.cell? ⟨b, 0 + j, none⟩ from rfl, cell_of_row w b (0 + j) cur T (0, 0) hb, Nat.zero_add, ← Array.getElem?_toList, hcur]
        exact hu)) x m news (by rw [hsize]; exact hs) (by omega) (by omega) (growslice_fits (by omega) (by rw [hby]; exact hbytes))
    have hge := grownCap_ge w (k + m) k e
    have hcm : grownCap w (k + m) k e ≤ maxLen := grownCap_le_maxLen w (k + m) k e (by unfold maxLen; omega)
    refine ⟨e, _, _, _, hr, ⟨by rw [List.length_append]; omega, .inr ⟨w.heap.size, _, _, rfl, by omega, heap_alloc_new w.drew _, hge, hcm, ?_, ?_⟩⟩, ⟨rfl, rfl, rfl, by simp, fun j hj _ => Below.heap_alloc w.drew _ j hj⟩⟩
    · simp only [Array.size_append, List.size_toArray, size_zeroCells, hzs, List.length_append]
      omega
    · simp only [Array.toList_append]
      rw [show (k + m) * 1 = (xs ++ news).length by rw [List.length_append]; omega]
      exact List.take_left
theorem wpList_append_full {P : Program} (w : World) {ops : Array Oper} {rest : List Oper} {o : Oper} {a : Act} {Q : Exit → Act → World → Prop} (hgd : o.guard = none) (s x : Operand) (t tx : TypeId)
    (ho : o.op = .call { callee := .builtin .append, args := #[s, x], argTypes := #[t, tx] }) (e T : TypeId) (ht : P.underlying t = some (.slice e)) (hinfo : (P.info? e).map (fun i => (i.zero, i.size, i.bytes)) = some (some (.int .u8 0), 1, 1))
    (B b k : Nat) (cur : Array Value) (ds : List UInt8) (hB : B ≤ b) (hb : w.heap[b]? = some (.cells cur T (0, 0))) (hcur : cur.toList = U8 ds) (hk : cur.size = k) (hk2 : k ≤ 1000) (hs : a.eval s = .slice (some ⟨b, 0, none⟩) k k)
    (y : Value) (m : Nat) (cs : List UInt8) (hx : a.eval x = y) (hsrc : Src P 1 tx y m (U8 cs) w) (hm : m ≤ 1000000000)
    (h : ∀ E A c w', Own w' E B A (k + m) c (ds ++ cs) → w.grownBy w' none → wpList P ops Q rest (a.put o.dst (.slice A (k + m) c)) w') : wpList P ops Q (o :: rest) a w := by
  refine wpList_plain hgd fun K hK => ?_
  obtain ⟨i0, hi, hz0, hz1, hz2⟩ := info_parts hinfo
  have hml : cs.length = m := by have := hsrc.newsLen; rw [U8_length] at this; omega
  have hkl : ds.length = k := by have := congrArg List.length hcur; rw [Array.length_toList, U8_length] at this; omega
  obtain ⟨E, A, c, w', hr, h2, h3⟩ := run_append_full (P := P) w B t tx o.type e T i0 (.int .u8 0) 1 ht hi hz0 hz1 hz2 rfl b k cur (U8 ds) hB hb hcur hk (by unfold maxLen; omega) y m (U8 cs) hsrc (by omega) (by omega)
  unfold Oper.wp execOp
  simp only [ho, resolve, invoke, builtin, Sem.run_bind, Sem.run_pure, Result.andThen_ok, List.map_toArray, List.map_cons, List.map_nil, hs, hx, hr]
  exact hK _ _ (h E A c w' ⟨by rw [List.length_append]; omega, (ownsRow_cap h2).2, by rw [U8_append]; exact h2⟩ h3)

theorem dig8_cells (x : Nat) : (#[.int .u8 (byt x 0), .int .u8 (byt x 1), .int .u8 (byt x 2), .int .u8 (byt x 3), .int .u8 (byt x 4), .int .u8 (byt x 5), .int .u8 (byt x 6), .int .u8 (byt x 7)] : Array Value).toList = U8 (dig8 x) := by
  unfold dig8 U8
  simp only [List.map_cons, List.map_nil, ofNat_byt]
theorem Rd.ofDig {w : World} {b : Nat} {T : TypeId} {x : Nat} (h : w.heap[b]? = some (.cells #[.int .u8 (byt x 0), .int .u8 (byt x 1), .int .u8 (byt x 2), .int .u8 (byt x 3), .int .u8 (byt x 4), .int .u8 (byt x 5), .int .u8 (byt x 6), .int .u8 (byt x 7)] T (0, 0))) : Rd w (some ⟨b, 0, none⟩) 8 8 (dig8 x) :=
  ⟨rfl, Nat.le_refl _, by omega, fun _ => ⟨b, 0, rfl, (Array.getElem?_eq_some_iff.1 h).1, fun j hj => by
    rw [cell_of_row w b (0 + j) _ T (0, 0) h, Nat.zero_add, ← Array.getElem?_toList, dig8_cells]
    exact U8_getD (by rw [dig8_len]; exact hj)⟩, fun e => by cases e⟩

/-- the call hands back a row of its own of these bytes -/
def RowsE (w : World) (bs : List UInt8) (e : Ending) (w' : World) : Prop :=
  ∃ E A n c, e = .returned (.slice A n c) ∧ Own w' E w.heap.size A n c bs ∧ Below w.heap.size w w'

def sealR (k : Nat) (bs : List UInt8) : List UInt8 := if bs.length ≤ 65536 then boxB k bs else []

set_option maxRecDepth 100000 in
set_option maxHeartbeats 2000000 in
theorem seal_c (w : World) (k : Nat) (hk : k < 18446744073709551616) (A : Option Addr) (n c : Nat) (bs : List UInt8) (h : Hid (Rd w A n c bs)) (hn : n ≤ 1000000) :
    Calls Try.prog 38 #[digV k, .slice A n c] w (RowsE w (sealR k bs)) := by
  have hle := h.out.le
  have hmax := h.out.max
  have HL := Lib.hid h.out.len
  by_cases hl : n ≤ 65536
  · have HV : sealR k bs = boxB k bs := by unfold sealR; rw [if_pos (by rw [HL.out]; exact hl)]
    obtain ⟨x, hx⟩ : ∃ x, x = chkN k bs := ⟨_, rfl⟩
    have Lx : x < 18446744073709551616 := by rw [hx]; exact chkN_lt hk (by rw [HL.out]; omega)
    have HX : Hid (chkN k bs = x) := hx.symm
    obtain ⟨V, hV⟩ : ∃ V, V = veilB k x bs := ⟨_, rfl⟩
    have HVV : Hid (veilB k x bs = V) := hV.symm
    have VL : Hid (V.length = n) := by rw [hV]; show _ = _; rw [veilB_len, HL.out]
    rw [HV, show boxB k bs = dig8 x ++ V by unfold boxB; rw [← hx, ← hV]]
    clear HV hx hV
    have gI : ¬ (65536 : Int) < (n : Int) := by omega
    unfold digV
    go_enter Try.func38, Try.ntmps38
    go_upto_region 1 with fail
    have DK : Hid ((World.alloc w (.cells #[.int .u8 (byt k 0), .int .u8 (byt k 1), .int .u8 (byt k 2), .int .u8 (byt k 3), .int .u8 (byt k 4), .int .u8 (byt k 5), .int .u8 (byt k 6), .int .u8 (byt k 7)] 31)).heap[w.heap.size]? = some (.cells #[.int .u8 (byt k 0), .int .u8 (byt k 1), .int .u8 (byt k 2), .int .u8 (byt k 3), .int .u8 (byt k 4), .int .u8 (byt k 5), .int .u8 (byt k 6), .int .u8 (byt k 7)] 31 (0, 0))) := Go.heap_alloc_new w _
    have B : Hid (Below w.heap.size w (World.alloc w (.cells #[.int .u8 (byt k 0), .int .u8 (byt k 1), .int .u8 (byt k 2), .int .u8 (byt k 3), .int .u8 (byt k 4), .int .u8 (byt k 5), .int .u8 (byt k 6), .int .u8 (byt k 7)] 31))) := ext_alloc _ _
    generalize World.alloc w (.cells #[.int .u8 (byt k 0), .int .u8 (byt k 1), .int .u8 (byt k 2), .int .u8 (byt k 3), .int .u8 (byt k 4), .int .u8 (byt k 5), .int .u8 (byt k 6), .int .u8 (byt k 7)] 31) = W at *
    obtain ⟨d0, d1, d2, d3, d4, d5, d6, d7, _, _, _, _, _, _, _, _⟩ := full8 DK.out
    go_wp2_with fail
    refine (check_c _ k hk _ _ _ _ (Lib.hid (h.out.ext B.out)) hl).mono ?_
    rw [HX.out]
    unfold digV
    rintro e w1 ⟨rfl, hb⟩
    replace DK := Lib.hid (keepB hb DK.out)
    replace B := Lib.hid (ext_trans B.out hb)
    clear hb d0 d1 d2 d3 d4 d5 d6 d7
    go_wp2_with fail
    have DX : Hid ((World.alloc w1 (.cells #[.int .u8 (byt x 0), .int .u8 (byt x 1), .int .u8 (byt x 2), .int .u8 (byt x 3), .int .u8 (byt x 4), .int .u8 (byt x 5), .int .u8 (byt x 6), .int .u8 (byt x 7)] 31)).heap[w1.heap.size]? = some (.cells #[.int .u8 (byt x 0), .int .u8 (byt x 1), .int .u8 (byt x 2), .int .u8 (byt x 3), .int .u8 (byt x 4), .int .u8 (byt x 5), .int .u8 (byt x 6), .int .u8 (byt x 7)] 31 (0, 0))) := Go.heap_alloc_new w1 _
    replace DK : Hid ((World.alloc w1 (.cells #[.int .u8 (byt x 0), .int .u8 (byt x 1), .int .u8 (byt x 2), .int .u8 (byt x 3), .int .u8 (byt x 4), .int .u8 (byt x 5), .int .u8 (byt x 6), .int .u8 (byt x 7)] 31)).heap[w.heap.size]? = some (.cells #[.int .u8 (byt k 0), .int .u8 (byt k 1), .int .u8 (byt k 2), .int .u8 (byt k 3), .int .u8 (byt k 4), .int .u8 (byt k 5), .int .u8 (byt k 6), .int .u8 (byt k 7)] 31 (0, 0))) := keepA DK.out
    have zx : w.heap.size ≤ w1.heap.size := B.out.size
    replace B : Hid (Below w.heap.size w (World.alloc w1 (.cells #[.int .u8 (byt x 0), .int .u8 (byt x 1), .int .u8 (byt x 2), .int .u8 (byt x 3), .int .u8 (byt x 4), .int .u8 (byt x 5), .int .u8 (byt x 6), .int .u8 (byt x 7)] 31))) := ext_trans B.out (ext_alloc _ _)
    generalize World.alloc w1 (.cells #[.int .u8 (byt x 0), .int .u8 (byt x 1), .int .u8 (byt x 2), .int .u8 (byt x 3), .int .u8 (byt x 4), .int .u8 (byt x 5), .int .u8 (byt x 6), .int .u8 (byt x 7)] 31) = W at *
    refine wp_region_schedC (fun v => Below W.heap.size W v) [(true, 0), (true, 1), (true, 2), (true, 3), (false, 4), (false, 5), (true, 6)] (by kernel_rfl) rfl (by kernel_rfl) (by kernel_rfl) (fun _ _ d _ _ h => by cases d <;> exact h) (ext_drew W) ?_
    intro J0 hJ0
    iterate 4 (refine schedC_pure (v := ?_) rfl (by rfl) ?_ ?_; rotate_left; (focus (intro v hC; obtain ⟨d0, d1, d2, d3, d4, d5, d6, d7, _, _, _, _, _, _, _, _⟩ := full8 (keepB hC DK.out); obtain ⟨x0, x1, x2, x3, x4, x5, x6, x7, _, _, _, _, _, _, _, _⟩ := full8 (keepB hC DX.out); go_simp; try with_reducible rfl)); try go_simp)
    refine schedC_eff rfl ?_
    intro J hJ
    go_wp2_with fail
    refine (veiled_c _ k x hk Lx _ _ _ _ (Lib.hid (h.out.ext (ext_trans B.out (ext_drew W)))) hn).mono ?_
    rw [HVV.out]
    rintro e w2 ⟨AS, nS, cS, rfl, ho, hb⟩
    obtain rfl : n = nS := by rw [← ho.len, VL.out]
    have O2 : Hid (Own w2 5 W.heap.size AS n cS V) := Lib.hid ho
    have CC : Hid (Below W.heap.size W w2) := Lib.hid (ext_trans (ext_drew W) hb)
    have DX2 := Lib.hid (keepB CC.out DX.out)
    clear hb ho
    go_wp2_with fail
    refine ⟨CC.out, ?_⟩
    refine schedC_eff rfl ?_
    intro J hJ
    go_wp2_with (refine wpList_append_full _ (o := ⟨some 17, _, _, _, _, _⟩) rfl (.tmp 12) (.tmp 16) 22 22 rfl 5 31 Try.underlying22 infoU8 w.heap.size w1.heap.size 8 _ (dig8 x) zx DX2.out (dig8_cells x) rfl (by omega) (by rfl) _ n V (by rfl) (O2.out.rd.src Try.underlying22) (by omega) ?_; intro E3 A3 c3 w3 ho hg; have O3 := Lib.hid ho; have G3 := Lib.hid hg; clear ho hg; go_simp)
    have C3 : Hid (Below W.heap.size W w3) := Lib.hid (below_grown CC.out CC.out.size G3.out (fun k hk => by cases hk))
    refine ⟨C3.out, ?_⟩
    iterate 1 (refine schedC_pure (v := ?_) rfl (by rfl) ?_ ?_; rotate_left; (focus (intro v hC; go_simp; try with_reducible rfl)); try go_simp)
    refine schedC_nil (hJ0 _ _ ?_)
    clear hJ0
    go_wp2_with fail
    go_ret
    exact ⟨_, _, _, _, rfl, O3.out, ext_trans B.out C3.out⟩
  · have HV : sealR k bs = [] := by unfold sealR; rw [if_neg (by rw [HL.out]; exact hl)]
    rw [HV]
    clear HV
    have gI : (65536 : Int) < (n : Int) := by omega
    unfold digV
    go_enter Try.func38, Try.ntmps38
    go_wp2_with fail
    go_ret
    exact ⟨5, _, _, _, rfl, Own.void _ _ _, ext_alloc _ _⟩
#print axioms seal_c

set_option maxRecDepth 100000 in
set_option maxHeartbeats 2000000 in
theorem rseal_c (w : World) (k : Nat) (hk : k < 18446744073709551616) (A : Option Addr) (n c : Nat) (bs : List UInt8) (h : Hid (Rd w A n c bs)) (hl : n ≤ 65536) :
    Calls Try.prog 40 #[digV k, .slice A n c] w (RowsE w (boxB k bs)) := by
  have hle := h.out.le
  have hmax := h.out.max
  have HL := Lib.hid h.out.len
  obtain ⟨x, hx⟩ : ∃ x, x = chkN k bs := ⟨_, rfl⟩
  have Lx : x < 18446744073709551616 := by rw [hx]; exact chkN_lt hk (by rw [HL.out]; omega)
  have HX : Hid (chkN k bs = x) := hx.symm
  obtain ⟨V, hV⟩ : ∃ V, V = veilB k x bs := ⟨_, rfl⟩
  have HVV : Hid (veilB k x bs = V) := hV.symm
  have VL : Hid (V.length = n) := by rw [hV]; show _ = _; rw [veilB_len, HL.out]
  rw [show boxB k bs = dig8 x ++ V by unfold boxB; rw [← hx, ← hV]]
  clear hx hV
  have gI : ¬ (65536 : Int) < (n : Int) := by omega
  unfold digV
  go_enter Try.func40, Try.ntmps40
  go_upto_region 1 with fail
  have DK : Hid ((World.alloc w (.cells #[.int .u8 (byt k 0), .int .u8 (byt k 1), .int .u8 (byt k 2), .int .u8 (byt k 3), .int .u8 (byt k 4), .int .u8 (byt k 5), .int .u8 (byt k 6), .int .u8 (byt k 7)] 30)).heap[w.heap.size]? = some (.cells #[.int .u8 (byt k 0), .int .u8 (byt k 1), .int .u8 (byt k 2), .int .u8 (byt k 3), .int .u8 (byt k 4), .int .u8 (byt k 5), .int .u8 (byt k 6), .int .u8 (byt k 7)] 30 (0, 0))) := Go.heap_alloc_new w _
  have B : Hid (Below w.heap.size w (World.alloc w (.cells #[.int .u8 (byt k 0), .int .u8 (byt k 1), .int .u8 (byt k 2), .int .u8 (byt k 3), .int .u8 (byt k 4), .int .u8 (byt k 5), .int .u8 (byt k 6), .int .u8 (byt k 7)] 30))) := ext_alloc _ _
  generalize World.alloc w (.cells #[.int .u8 (byt k 0), .int .u8 (byt k 1), .int .u8 (byt k 2), .int .u8 (byt k 3), .int .u8 (byt k 4), .int .u8 (byt k 5), .int .u8 (byt k 6), .int .u8 (byt k 7)] 30) = W at *
  obtain ⟨d0, d1, d2, d3, d4, d5, d6, d7, _, _, _, _, _, _, _, _⟩ := full8 DK.out
  go_wp2_with fail
  refine (rcheck_c _ k hk _ _ _ _ (Lib.hid (h.out.ext B.out)) hl).mono ?_
  rw [HX.out]
  unfold digV
  rintro e w1 ⟨rfl, hb⟩
  replace DK := Lib.hid (keepB hb DK.out)
  replace B := Lib.hid (ext_trans B.out hb)
  clear hb d0 d1 d2 d3 d4 d5 d6 d7
  go_wp2_with fail
  have DX : Hid ((World.alloc w1 (.cells #[.int .u8 (byt x 0), .int .u8 (byt x 1), .int .u8 (byt x 2), .int .u8 (byt x 3), .int .u8 (byt x 4), .int .u8 (byt x 5), .int .u8 (byt x 6), .int .u8 (byt x 7)] 30)).heap[w1.heap.size]? = some (.cells #[.int .u8 (byt x 0), .int .u8 (byt x 1), .int .u8 (byt x 2), .int .u8 (byt x 3), .int .u8 (byt x 4), .int .u8 (byt x 5), .int .u8 (byt x 6), .int .u8 (byt x 7)] 30 (0, 0))) := Go.heap_alloc_new w1 _
  replace DK : Hid ((World.alloc w1 (.cells #[.int .u8 (byt x 0), .int .u8 (byt x 1), .int .u8 (byt x 2), .int .u8 (byt x 3), .int .u8 (byt x 4), .int .u8 (byt x 5), .int .u8 (byt x 6), .int .u8 (byt x 7)] 30)).heap[w.heap.size]? = some (.cells #[.int .u8 (byt k 0), .int .u8 (byt k 1), .int .u8 (byt k 2), .int .u8 (byt k 3), .int .u8 (byt k 4), .int .u8 (byt k 5), .int .u8 (byt k 6), .int .u8 (byt k 7)] 30 (0, 0))) := keepA DK.out
  replace B : Hid (Below w.heap.size w (World.alloc w1 (.cells #[.int .u8 (byt x 0), .int .u8 (byt x 1), .int .u8 (byt x 2), .int .u8 (byt x 3), .int .u8 (byt x 4), .int .u8 (byt x 5), .int .u8 (byt x 6), .int .u8 (byt x 7)] 30))) := ext_trans B.out (ext_alloc _ _)
  generalize World.alloc w1 (.cells #[.int .u8 (byt x 0), .int .u8 (byt x 1), .int .u8 (byt x 2), .int .u8 (byt x 3), .int .u8 (byt x 4), .int .u8 (byt x 5), .int .u8 (byt x 6), .int .u8 (byt x 7)] 30) = W at *
  refine wp_region_schedC (fun v => Below W.heap.size W v) [(true, 1), (true, 3), (true, 4), (true, 5), (false, 0), (false, 2), (false, 6), (false, 7), (true, 8)] (by kernel_rfl) rfl (by kernel_rfl) (by kernel_rfl) (fun _ _ d _ _ h => by cases d <;> exact h) (ext_drew W) ?_
  intro J0 hJ0
  iterate 4 (refine schedC_pure (v := ?_) rfl (by rfl) ?_ ?_; rotate_left; (focus (intro v hC; obtain ⟨d0, d1, d2, d3, d4, d5, d6, d7, _, _, _, _, _, _, _, _⟩ := full8 (keepB hC DK.out); obtain ⟨x0, x1, x2, x3, x4, x5, x6, x7, _, _, _, _, _, _, _, _⟩ := full8 (keepB hC DX.out); go_simp; try with_reducible rfl)); try go_simp)
  refine schedC_eff rfl ?_
  intro J hJ
  go_wp2_with fail
  refine ⟨ext_trans (ext_drew W) (ext_alloc _ _), ?_⟩
  have RX : Hid (Rd (World.alloc W.drew (.cells #[] 5)) (some ⟨w1.heap.size, 0, none⟩) 8 8 (dig8 x)) := (Rd.ofDig DX.out).ext (ext_trans (ext_drew W) (ext_alloc _ _))
  refine schedC_eff rfl ?_
  intro J hJ
  go_wp2_with (refine wpList_push_all (o := ⟨some 14, _, _, _, _, _⟩) rfl (.tmp 12) (.tmp 13) 22 22 rfl 5 Try.underlying22 infoU8 W.heap.size _ _ _ [] (by rfl) (Own.empty W.drew _) _ 8 (dig8 x) (by rfl) (RX.out.src Try.underlying22) (by omega) (by simp) ?_; intro A2 c2 w2 ho hb; have O2 := Lib.hid ho; rw [List.nil_append] at O2; have CC := Lib.hid ((ext_trans (ext_drew W) (ext_alloc W.drew (.cells #[] 5))).trans hb); clear ho hb; go_simp)
  refine ⟨CC.out, ?_⟩
  refine schedC_eff rfl ?_
  intro J hJ
  go_wp2_with fail
  refine (turn_c _ k x hk Lx _ _ _ _ (Lib.hid (h.out.ext (ext_trans B.out CC.out))) (by omega)).mono ?_
  rw [HVV.out]
  rintro e w3 ⟨AS, nS, cS, rfl, ho, hb⟩
  obtain rfl : n = nS := by rw [← ho.len, VL.out]
  have RV := Lib.hid ho.rd
  replace O2 := Lib.hid (O2.out.ext hb)
  replace CC : Hid (Below W.heap.size W w3) := Lib.hid (ext_trans CC.out hb)
  clear hb ho RX
  go_wp2_with fail
  refine ⟨CC.out, ?_⟩
  refine schedC_eff rfl ?_
  intro J hJ
  go_wp2_with (refine wpList_push_all (o := ⟨some 19, _, _, _, _, _⟩) rfl (.tmp 14) (.tmp 18) 22 22 rfl 5 Try.underlying22 infoU8 W.heap.size _ _ _ _ (by rfl) O2.out _ n V (by rfl) (RV.out.src Try.underlying22) (by omega) CC.out.size ?_; intro A3 c3 w4 ho hb; have O3 := Lib.hid ho; have C3 := Lib.hid (CC.out.trans hb); clear ho hb; go_simp)
  refine ⟨C3.out, ?_⟩
  iterate 1 (refine schedC_pure (v := ?_) rfl (by rfl) ?_ ?_; rotate_left; (focus (intro v hC; go_simp; try with_reducible rfl)); try go_simp)
  refine schedC_nil (hJ0 _ _ ?_)
  clear hJ0
  go_wp2_with fail
  go_ret
  exact ⟨_, _, _, _, rfl, O3.out.mono B.out.size, ext_trans B.out C3.out⟩
#print axioms rseal_c
end Go.Proofs.Ytdejlahgeckobaa
