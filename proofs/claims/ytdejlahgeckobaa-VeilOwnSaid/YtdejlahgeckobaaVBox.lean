/-
  veil: veiled; the document's turn: contracts.
-/
import Derived.Test.YtdejlahgeckobaaVVeil
namespace Go.Proofs.Ytdejlahgeckobaa
open Go.RowKit

theorem zip_get (s b : List UInt8) (i : Nat) (h : i < s.length) (h2 : i < b.length) : (List.zipWith (fun x y => x ^^^ y) s b).getD i 0 = s.getD i 0 ^^^ b.getD i 0 := by
  simp [List.getD, List.getElem?_zipWith, h, h2]
/-- so far veiled -/
def mixB (s b : List UInt8) (i : Nat) : List UInt8 := (List.zipWith (fun x y => x ^^^ y) s b).take i ++ s.drop i
theorem mixB_len {s b : List UInt8} (h : s.length = b.length) (i : Nat) (hi : i ≤ s.length) : (mixB s b i).length = s.length := by
  unfold mixB
  rw [List.length_append, List.length_take, List.length_zipWith, List.length_drop]
  omega
theorem mixB_get {s b : List UInt8} (h : s.length = b.length) {i : Nat} (hi : i < s.length) : (mixB s b i).getD i 0 = s.getD i 0 := by
  unfold mixB
  have hl : ((List.zipWith (fun x y => x ^^^ y) s b).take i).length = i := by rw [List.length_take, List.length_zipWith]; omega
  simp only [List.getD]
  rw [List.getElem?_append_right (by omega), hl, Nat.sub_self, List.getElem?_drop, Nat.add_zero]
theorem mixB_set {s b : List UInt8} (h : s.length = b.length) {i : Nat} (hi : i < s.length) : (mixB s b i).set i (s.getD i 0 ^^^ b.getD i 0) = mixB s b (i + 1) := by
  unfold mixB
  have hl : ((List.zipWith (fun x y => x ^^^ y) s b).take i).length = i := by rw [List.length_take, List.length_zipWith]; omega
  rw [List.set_append_right _ _ (by omega), hl, Nat.sub_self, List.drop_eq_getElem_cons (by omega), List.set_cons_zero]
  rw [List.take_add_one]
  have e : (List.zipWith (fun x y => x ^^^ y) s b)[i]? = some (s.getD i 0 ^^^ b.getD i 0) := by
    rw [← zip_get s b i hi (by omega)]
    have hz : i < (List.zipWith (fun x y => x ^^^ y) s b).length := by rw [List.length_zipWith]; omega
    rw [List.getD, List.getElem?_eq_getElem hz]
    rfl
  rw [e]
  simp
theorem mixB_0 (s b : List UInt8) : mixB s b 0 = s := by simp [mixB]
theorem mixB_all {s b : List UInt8} (h : s.length = b.length) : mixB s b s.length = List.zipWith (fun x y => x ^^^ y) s b := by
  unfold mixB
  rw [List.drop_length, List.append_nil, List.take_of_length_le (by rw [List.length_zipWith]; omega)]

theorem streamI_is {d n : Nat} (h : n ≤ 1048576) : streamI d (n : Int) = stream d n := by
  unfold streamI
  by_cases h1 : 1 ≤ (n : Int)
  · rw [if_pos ⟨h1, by omega⟩, Int.toNat_natCast]
  · rw [if_neg (fun h2 => h1 h2.1)]
    obtain rfl : n = 0 := by omega
    rfl

theorem xor8_bits (p q : UInt8) : bits BinOp.xor IntKind.u8 (p.toNat : Int) (q.toNat : Int) = ((p ^^^ q).toNat : Int) := by
  rw [UInt8.toNat_xor]
  have h1 := p.toNat_lt
  have h2 := q.toNat_lt
  have h3 : p.toNat ^^^ q.toNat < 2 ^ 8 := Nat.xor_lt_two_pow (by omega) (by omega)
  simp [bits]
  rw [show IntKind.u8.bits = 8 from rfl, Nat.mod_eq_of_lt (show p.toNat < 2 ^ 8 by omega), Nat.mod_eq_of_lt (show q.toNat < 2 ^ 8 by omega)]
  unfold IntKind.wrap
  simp [IntKind.bits, IntKind.signed]
  omega
theorem Own.mono {w : World} {E : TypeId} {B B' : Nat} {A : Option Addr} {n c : Nat} {bs : List UInt8} (h : Own w E B A n c bs) (hb : B' ≤ B) : Own w E B' A n c bs :=
  ⟨h.len, h.max, h.row.1, h.row.2.imp id (fun ⟨g, cap, cur, h1, h2, h3⟩ => ⟨g, cap, cur, h1, Nat.le_trans hb h2, h3⟩)⟩

set_option maxRecDepth 100000 in
set_option maxHeartbeats 2000000 in
theorem veiled_c (w : World) (k x : Nat) (hk : k < 18446744073709551616) (hx : x < 18446744073709551616) (A : Option Addr) (n c : Nat) (bs : List UInt8) (h : Hid (Rd w A n c bs)) (hn : n ≤ 1000000) :
    Calls Try.prog 75 #[digV k, digV x, .slice A n c] w (Rows8 w (veilB k x bs)) := by
  have hle := h.out.le
  have hmax := h.out.max
  have HL := Lib.hid h.out.len
  obtain ⟨x1, hx1⟩ : ∃ y, y = wordN k [98, 111, 120] := ⟨_, rfl⟩
  obtain ⟨x2, hx2⟩ : ∃ y, y = twoN x1 x := ⟨_, rfl⟩
  have L1 : x1 < 18446744073709551616 := by rw [hx1]; exact wordN_lt hk (by decide)
  have L2 : x2 < 18446744073709551616 := by rw [hx2]; exact twoN_lt L1 hx
  have HX1 : Hid (wordN k (⟨#[98, 111, 120]⟩ : ByteArray).data.toList = x1) := hx1.symm
  have HX2 : Hid (twoN x1 x = x2) := hx2.symm
  obtain ⟨S, hS⟩ : ∃ S, S = stream x2 n := ⟨_, rfl⟩
  have HV : veilB k x bs = List.zipWith (fun x y => x ^^^ y) S bs := by unfold veilB boxN; rw [← hx1, ← hx2, HL.out, hS]
  rw [HV]
  have SI : Hid (streamI x2 (n : Int) = S) := by rw [hS]; exact streamI_is (by omega)
  have SL : Hid (S.length = n) := by rw [hS]; exact stream_len _ _
  clear hx1 hx2 HV hS
  unfold digV
  go_enter Try.func75, Try.ntmps75
  go_wp2_with fail
  generalize hW : World.alloc (World.alloc w (.cells #[.int .u8 (byt k 0), .int .u8 (byt k 1), .int .u8 (byt k 2), .int .u8 (byt k 3), .int .u8 (byt k 4), .int .u8 (byt k 5), .int .u8 (byt k 6), .int .u8 (byt k 7)] 31)) (.cells #[.int .u8 (byt x 0), .int .u8 (byt x 1), .int .u8 (byt x 2), .int .u8 (byt x 3), .int .u8 (byt x 4), .int .u8 (byt x 5), .int .u8 (byt x 6), .int .u8 (byt x 7)] 31) = W
  have DK : Hid (W.heap[w.heap.size]? = some (.cells #[.int .u8 (byt k 0), .int .u8 (byt k 1), .int .u8 (byt k 2), .int .u8 (byt k 3), .int .u8 (byt k 4), .int .u8 (byt k 5), .int .u8 (byt k 6), .int .u8 (byt k 7)] 31 (0, 0))) := by rw [← hW]; exact keepA (Go.heap_alloc_new w _)
  have DX : Hid (W.heap[w.heap.size + 1]? = some (.cells #[.int .u8 (byt x 0), .int .u8 (byt x 1), .int .u8 (byt x 2), .int .u8 (byt x 3), .int .u8 (byt x 4), .int .u8 (byt x 5), .int .u8 (byt x 6), .int .u8 (byt x 7)] 31 (0, 0))) := by rw [← hW]; exact heap_alloc_newest (w := World.alloc _ _) (by simp)
  have B : Hid (Below w.heap.size w W) := by rw [← hW]; exact ext_trans (ext_alloc _ _) (ext_alloc _ _)
  clear hW
  refine wp_region_schedC (fun v => Below W.heap.size W v) [(true, 0), (true, 2), (true, 4), (true, 5), (false, 1), (false, 3), (false, 6), (true, 7)] (by kernel_rfl) rfl (by kernel_rfl) (by kernel_rfl) (fun _ _ d _ _ h => by cases d <;> exact h) (ext_drew W) ?_
  intro J0 hJ0
  iterate 4 (refine schedC_pure (v := ?_) rfl (by rfl) ?_ ?_; rotate_left; (focus (intro v hC; obtain ⟨d0, d1, d2, d3, d4, d5, d6, d7, _, _, _, _, _, _, _, _⟩ := full8 (keepB hC DK.out); obtain ⟨x0, x1, x2, x3, x4, x5, x6, x7, _, _, _, _, _, _, _, _⟩ := full8 (keepB hC DX.out); go_simp; try with_reducible rfl)); try go_simp)
  refine schedC_eff rfl ?_
  intro J hJ
  go_wp2_with fail
  refine (word_c _ k hk ⟨#[98, 111, 120]⟩ (by decide)).mono ?_
  rw [HX1.out]
  unfold digV
  rintro e w1 ⟨rfl, hb⟩
  have CC : Hid (Below W.heap.size W w1) := Lib.hid (ext_trans (ext_drew W) hb)
  clear hb
  go_wp2_with fail
  refine ⟨CC.out, ?_⟩
  refine schedC_eff rfl ?_
  intro J hJ
  go_wp2_with fail
  refine (two_c _ x1 x L1 hx).mono ?_
  rw [HX2.out]
  unfold digV
  rintro e w2 ⟨rfl, hb⟩
  replace CC : Hid (Below W.heap.size W w2) := Lib.hid (ext_trans CC.out hb)
  have z2 : w.heap.size ≤ w2.heap.size := Nat.le_trans B.out.size CC.out.size
  clear hb
  go_wp2_with fail
  refine ⟨CC.out, ?_⟩
  refine schedC_eff rfl ?_
  intro J hJ
  go_wp2_with fail
  refine (stream_c _ x2 L2 (n : Int)).mono ?_
  rw [SI.out]
  rintro e w3 ⟨AS, nS, cS, rfl, ho, hb⟩
  obtain rfl : n = nS := by rw [← ho.len, SL.out]
  have O3 : Hid (Own w3 5 w2.heap.size AS n cS S) := Lib.hid ho
  replace CC : Hid (Below W.heap.size W w3) := Lib.hid (ext_trans CC.out hb)
  clear hb ho
  go_wp2_with fail
  refine ⟨CC.out, ?_⟩
  iterate 1 (refine schedC_pure (v := ?_) rfl (by rfl) ?_ ?_; rotate_left; (focus (intro v hC; go_simp; try with_reducible rfl)); try go_simp)
  refine schedC_nil (hJ0 _ _ ?_)
  clear hJ0
  replace B := Lib.hid (ext_trans B.out CC.out)
  have lS := O3.out.rd.le
  have mS := O3.out.max
  clear CC DK DX SI
  go_wp2_with fail
  go_loopw [19] (fun iv wr => ∃ (k : Nat), k ≤ n ∧ iv = .int .i64 k ∧ Hid (Own wr 5 w2.heap.size AS n cS (mixB S bs k)) ∧ Hid (w3.grownBy wr (Value.slice AS n cS).ownBlock)) (fun iv _ => n - (intOf iv).toNat)
  case atStart => exact ⟨0, Nat.zero_le _, rfl, by rw [mixB_0]; exact O3.out, World.grownBy.refl _ _⟩
  case round =>
    rename World => w4
    obtain ⟨k, hk, rfl, HO, HG⟩ := hrel
    by_cases hlt : k < n
    · obtain ⟨g, rfl, hg1, hg2⟩ := O3.out.blockless (by omega)
      obtain ⟨b0, o0, rfl, hb0, hc0⟩ := h.out.cells (by omega)
      have hSB : S.length = bs.length := by rw [SL.out, HL.out]
      have hkS : k < S.length := by rw [SL.out]; exact hlt
      have hx := HO.out.row.cellAt k (by omega)
      rw [U8_getD (by rw [HO.out.len]; exact hlt), mixB_get hSB hkS] at hx
      have fr := HO.out.row.frozenAt k
      have hy := (B.out.cell (p := ⟨b0, o0 + k, none⟩) hb0).trans (hc0 k hlt)
      have hy2 : w4.cell? ⟨b0, o0 + k, none⟩ = some (.int .u8 (bs.getD k 0).toNat) := by
        rw [← hy]
        exact World.cell?_of_block (HG.out.block b0 (Nat.lt_of_lt_of_le hb0 B.out.size) (fun e => by have e2 : b0 = g := (by simpa [Value.ownBlock] using e); omega))
      have hst := mixB_set hSB hkS
      obtain ⟨p, hp⟩ : ∃ p, p = S.getD k 0 := ⟨_, rfl⟩
      obtain ⟨q, hq⟩ : ∃ q, q = bs.getD k 0 := ⟨_, rfl⟩
      rw [← hp] at hx hst
      rw [← hq] at hy2 hst
      have HST := Lib.hid hst
      have hxo : bits BinOp.xor IntKind.u8 (p.toNat : Int) (q.toNat : Int) = ((p ^^^ q).toNat : Int) := xor8_bits p q
      clear hy hp hq hc0 hst
      have hltI : (k : Int) < (n : Int) := by omega
      have hkI : (0 : Int) ≤ (k : Int) := by omega
      go_wp2_with fail
      have hs := HO.out.set k (p ^^^ q)
      rw [HST.out] at hs
      exact ⟨⟨k + 1, by omega, by go_num, hs.1, grown_then HG.out hs.2⟩, by simp [intOf]; omega⟩
    · obtain rfl : n = k := by omega
      go_wp2_with fail
      go_ret
      have hm := mixB_all (s := S) (b := bs) (by rw [SL.out, HL.out])
      rw [SL.out] at hm
      have ho := HO.out
      rw [hm] at ho
      exact ⟨_, _, _, rfl, ho.mono z2, below_grown B.out B.out.size HG.out (fun g hg => by have := (O3.out.row.lt g hg).1; omega)⟩
#print axioms veiled_c

theorem zip_take (s b : List UInt8) (k : Nat) (h : k < s.length) (h2 : k < b.length) : (List.zipWith (fun x y => x ^^^ y) s b).take (k + 1) = (List.zipWith (fun x y => x ^^^ y) s b).take k ++ [b.getD k 0 ^^^ s.getD k 0] := by
  have hz : k < (List.zipWith (fun x y => x ^^^ y) s b).length := by rw [List.length_zipWith]; omega
  rw [List.take_add_one, UInt8.xor_comm, ← zip_get s b k h h2, List.getD, List.getElem?_eq_getElem hz]
  rfl

set_option maxRecDepth 100000 in
set_option maxHeartbeats 2000000 in
theorem turn_c (w : World) (k x : Nat) (hk : k < 18446744073709551616) (hx : x < 18446744073709551616) (A : Option Addr) (n c : Nat) (bs : List UInt8) (h : Hid (Rd w A n c bs)) (hn : n ≤ 1000000) :
    Calls Try.prog 77 #[digV k, digV x, .slice A n c] w (Rows8 w (veilB k x bs)) := by
  have hle := h.out.le
  have hmax := h.out.max
  have HL := Lib.hid h.out.len
  obtain ⟨x1, hx1⟩ : ∃ y, y = wordN k [98, 111, 120] := ⟨_, rfl⟩
  obtain ⟨x2, hx2⟩ : ∃ y, y = twoN x1 x := ⟨_, rfl⟩
  have L1 : x1 < 18446744073709551616 := by rw [hx1]; exact wordN_lt hk (by decide)
  have L2 : x2 < 18446744073709551616 := by rw [hx2]; exact twoN_lt L1 hx
  have HX1 : Hid (wordN k (⟨#[98, 111, 120]⟩ : ByteArray).data.toList = x1) := hx1.symm
  have HX2 : Hid (twoN x1 x = x2) := hx2.symm
  obtain ⟨S, hS⟩ : ∃ S, S = stream x2 n := ⟨_, rfl⟩
  have HV : veilB k x bs = List.zipWith (fun x y => x ^^^ y) S bs := by unfold veilB boxN; rw [← hx1, ← hx2, HL.out, hS]
  rw [HV]
  have SI : Hid (streamI x2 (n : Int) = S) := by rw [hS]; exact streamI_is (by omega)
  have SL : Hid (S.length = n) := by rw [hS]; exact stream_len _ _
  clear hx1 hx2 HV hS
  unfold digV
  go_enter Try.func77, Try.ntmps77
  go_wp2_with fail
  generalize hW : World.alloc (World.alloc w (.cells #[.int .u8 (byt k 0), .int .u8 (byt k 1), .int .u8 (byt k 2), .int .u8 (byt k 3), .int .u8 (byt k 4), .int .u8 (byt k 5), .int .u8 (byt k 6), .int .u8 (byt k 7)] 30)) (.cells #[.int .u8 (byt x 0), .int .u8 (byt x 1), .int .u8 (byt x 2), .int .u8 (byt x 3), .int .u8 (byt x 4), .int .u8 (byt x 5), .int .u8 (byt x 6), .int .u8 (byt x 7)] 30) = W
  have DK : Hid (W.heap[w.heap.size]? = some (.cells #[.int .u8 (byt k 0), .int .u8 (byt k 1), .int .u8 (byt k 2), .int .u8 (byt k 3), .int .u8 (byt k 4), .int .u8 (byt k 5), .int .u8 (byt k 6), .int .u8 (byt k 7)] 30 (0, 0))) := by rw [← hW]; exact keepA (Go.heap_alloc_new w _)
  have DX : Hid (W.heap[w.heap.size + 1]? = some (.cells #[.int .u8 (byt x 0), .int .u8 (byt x 1), .int .u8 (byt x 2), .int .u8 (byt x 3), .int .u8 (byt x 4), .int .u8 (byt x 5), .int .u8 (byt x 6), .int .u8 (byt x 7)] 30 (0, 0))) := by rw [← hW]; exact heap_alloc_newest (w := World.alloc _ _) (by simp)
  have B : Hid (Below w.heap.size w W) := by rw [← hW]; exact ext_trans (ext_alloc _ _) (ext_alloc _ _)
  clear hW
  refine wp_region_schedC (fun v => Below W.heap.size W v) [(true, 0), (true, 2), (true, 4), (true, 5), (false, 1), (false, 3), (false, 6), (true, 7)] (by kernel_rfl) rfl (by kernel_rfl) (by kernel_rfl) (fun _ _ d _ _ h => by cases d <;> exact h) (ext_drew W) ?_
  intro J0 hJ0
  iterate 4 (refine schedC_pure (v := ?_) rfl (by rfl) ?_ ?_; rotate_left; (focus (intro v hC; obtain ⟨d0, d1, d2, d3, d4, d5, d6, d7, _, _, _, _, _, _, _, _⟩ := full8 (keepB hC DK.out); obtain ⟨x0, x1, x2, x3, x4, x5, x6, x7, _, _, _, _, _, _, _, _⟩ := full8 (keepB hC DX.out); go_simp; try with_reducible rfl)); try go_simp)
  refine schedC_eff rfl ?_
  intro J hJ
  go_wp2_with fail
  refine (rword_c _ k hk ⟨#[98, 111, 120]⟩ (by decide)).mono ?_
  rw [HX1.out]
  unfold digV
  rintro e w1 ⟨rfl, hb⟩
  have CC : Hid (Below W.heap.size W w1) := Lib.hid (ext_trans (ext_drew W) hb)
  clear hb
  go_wp2_with fail
  refine ⟨CC.out, ?_⟩
  refine schedC_eff rfl ?_
  intro J hJ
  go_wp2_with fail
  refine (rtwo_c _ x1 x L1 hx).mono ?_
  rw [HX2.out]
  unfold digV
  rintro e w2 ⟨rfl, hb⟩
  replace CC : Hid (Below W.heap.size W w2) := Lib.hid (ext_trans CC.out hb)
  have z2 : w.heap.size ≤ w2.heap.size := Nat.le_trans B.out.size CC.out.size
  clear hb
  go_wp2_with fail
  refine ⟨CC.out, ?_⟩
  refine schedC_eff rfl ?_
  intro J hJ
  go_wp2_with fail
  refine (rstream_c _ x2 L2 (n : Int)).mono ?_
  rw [SI.out]
  rintro e w3 ⟨AS, nS, cS, rfl, ho, hb⟩
  obtain rfl : n = nS := by rw [← ho.len, SL.out]
  have O3 : Hid (Own w3 5 w2.heap.size AS n cS S) := Lib.hid ho
  replace CC : Hid (Below W.heap.size W w3) := Lib.hid (ext_trans CC.out hb)
  clear hb ho
  go_wp2_with fail
  refine ⟨CC.out, ?_⟩
  iterate 1 (refine schedC_pure (v := ?_) rfl (by rfl) ?_ ?_; rotate_left; (focus (intro v hC; go_simp; try with_reducible rfl)); try go_simp)
  refine schedC_nil (hJ0 _ _ ?_)
  clear hJ0
  replace B := Lib.hid (ext_trans B.out CC.out)
  have lS := O3.out.rd.le
  have mS := O3.out.max
  clear CC DK DX SI
  go_wp2_with fail
  have z3 : w.heap.size ≤ w3.heap.size := B.out.size
  go_loopw [8, 9] (fun ov iv wr => ∃ (k : Nat) (A' : Option Addr) (c' : Nat), k ≤ n ∧ iv = .int .i64 k ∧ ov = .slice A' k c' ∧ Hid (Own wr 5 w3.heap.size A' k c' ((List.zipWith (fun x y => x ^^^ y) S bs).take k)) ∧ Hid (Below w3.heap.size w3 wr)) (fun _ iv _ => n - (intOf iv).toNat)
  case atStart => exact ⟨0, _, _, Nat.zero_le _, rfl, rfl, by simpa [Hid] using Own.empty w3 5, ext_alloc _ _⟩
  case round =>
    rename World => w4
    obtain ⟨k, A', c', hk, rfl, rfl, HO, HB⟩ := hrel
    by_cases hlt : k < n
    · obtain ⟨g, rfl, hg1, hg2⟩ := O3.out.blockless (by omega)
      obtain ⟨b0, o0, rfl, hb0, hc0⟩ := h.out.cells (by omega)
      have hkS : k < S.length := by rw [SL.out]; exact hlt
      have hx := O3.out.row.cellAt k (by omega)
      rw [U8_getD hkS] at hx
      have hx4 := (HB.out.cell (p := ⟨g, k, none⟩) hg2).trans hx
      have hy := ((B.out.trans (HB.out.mono z3)).cell (p := ⟨b0, o0 + k, none⟩) hb0).trans (hc0 k hlt)
      have hst := zip_take S bs k hkS (by rw [HL.out]; exact hlt)
      obtain ⟨p, hp⟩ : ∃ p, p = S.getD k 0 := ⟨_, rfl⟩
      obtain ⟨q, hq⟩ : ∃ q, q = bs.getD k 0 := ⟨_, rfl⟩
      rw [← hp] at hx4
      rw [← hq] at hy
      rw [← hp, ← hq] at hst
      have HST := Lib.hid hst
      have HX4 := Lib.hid hx4
      have HY := Lib.hid hy
      have hxo : bits BinOp.xor IntKind.u8 (q.toNat : Int) (p.toNat : Int) = ((q ^^^ p).toNat : Int) := xor8_bits q p
      have zg : g < w3.heap.size := hg2
      have zb : b0 < w3.heap.size := Nat.lt_of_lt_of_le hb0 z3
      clear hx hp hq hc0 hst hx4 hy
      have hltI : (k : Int) < (n : Int) := by omega
      have hkI : (0 : Int) ≤ (k : Int) := by omega
      go_wp2_with fail
      refine wp_region_schedC (fun v => Below w3.heap.size w4 v) [(true, 0), (true, 1), (true, 2), (true, 3), (true, 4), (true, 5), (true, 6), (true, 7), (true, 8), (true, 9), (false, 10), (false, 11), (true, 12)] (by kernel_rfl) rfl (by kernel_rfl) (by kernel_rfl) (fun _ _ d _ _ h => by cases d <;> exact h) ((ext_drew w4).mono HB.out.size) ?_
      intro J0 hJ0
      iterate 10 (refine schedC_pure (v := ?_) rfl (by rfl) ?_ ?_; rotate_left; (focus (intro v hC; have hx5 := (hC.cell (p := ⟨g, k, none⟩) zg).trans HX4.out; have hy5 := (hC.cell (p := ⟨b0, o0 + k, none⟩) zb).trans HY.out; go_simp; try with_reducible rfl)); try go_simp)
      refine schedC_eff rfl ?_
      intro J hJ
      go_wp2_with fail
      refine ⟨(ext_trans (ext_drew w4) (ext_alloc _ _)).mono HB.out.size, ?_⟩
      refine schedC_eff rfl ?_
      intro J hJ
      go_wp2_with (refine wpList_push (o := ⟨some 35, _, _, _, _, _⟩) rfl (.tmp 24) (.tmp 34) 22 rfl 5 Try.underlying22 infoU8 w3.heap.size A' k c' _ (by rfl) (HO.out.ext (ext_drew w4)) _ (q ^^^ p) rfl (by rfl) (by omega) HB.out.size ?_; intro A5 c5 w5 ho hb; have O5 := Lib.hid ho; have C5 := Lib.hid hb; clear ho hb; go_simp)
      have C6 : Hid (Below w3.heap.size w4 w5) := Lib.hid (((ext_drew w4).mono HB.out.size).trans C5.out)
      refine ⟨C6.out, ?_⟩
      iterate 1 (refine schedC_pure (v := ?_) rfl (by rfl) ?_ ?_; rotate_left; (focus (intro v hC; go_simp; try with_reducible rfl)); try go_simp)
      refine schedC_nil (hJ0 _ _ ?_)
      clear hJ0
      rw [← HST.out] at O5
      go_wp2_with fail
      exact ⟨⟨k + 1, A5, c5, by omega, by go_num, rfl, O5.out, HB.out.trans C6.out⟩, by simp [intOf]; omega⟩
    · obtain rfl : n = k := by omega
      go_wp2_with fail
      go_ret
      have ho := HO.out
      rw [List.take_of_length_le (by rw [List.length_zipWith, SL.out, HL.out]; omega)] at ho
      exact ⟨_, _, _, rfl, ho.mono z3, B.out.trans (HB.out.mono z3)⟩
#print axioms turn_c
end Go.Proofs.Ytdejlahgeckobaa
