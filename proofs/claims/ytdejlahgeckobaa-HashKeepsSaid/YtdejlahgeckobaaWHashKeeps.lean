/-
  HashKeeps: the walk.
-/
import Derived.Test.YtdejlahgeckobaaHKnown
import Derived.Test.YtdejlahgeckobaaHSam
import Derived.Test.YtdejlahgeckobaaHRow
import Derived.Test.YtdejlahgeckobaaHStrmR
import Derived.Test.YtdejlahgeckobaaHFrame
import Derived.Test.YtdejlahgeckobaaHOpen
namespace Go.Proofs.Ytdejlahgeckobaa
open Go.RowKit

theorem WrAt.keepR {w w' : World} {T : TypeId} {b : Nat} {X : Value} {s : St} (h : WrAt w T b X s) {r : Option Nat} (hg : w.grownBy w' r) (hne : r ≠ some b) : WrAt w' T b X s :=
  ⟨(hg.block b (Array.getElem?_eq_some_iff.1 h.blk).1 (fun e => hne e.symm)).trans h.blk, h.ok⟩

theorem Own.keptO {w w' : World} {E : TypeId} {B : Nat} {A : Option Addr} {n c : Nat} {bs : List UInt8} (h : Own w E B A n c bs) {r : Option Nat} (hk : w.grownBy w' r) (hne : ∀ g, (Value.slice A n c).ownBlock = some g → r ≠ some g) : Own w' E B A n c bs :=
  ⟨h.len, h.max, h.row.kept hk (by
    cases hv : (Value.slice A n c).ownBlock with
    | none => exact .inl rfl
    | some g => exact .inr (fun e => hne g hv (by first | exact e | exact e.symm)))⟩
theorem streamI_small {d : Nat} {K : Int} (h : K ≤ 1048576) : streamI d K = stream d K.toNat := by
  unfold streamI
  by_cases h1 : 1 ≤ K
  · rw [if_pos ⟨h1, h⟩]
  · rw [if_neg (fun h2 => h1 h2.1)]
    have : K.toNat = 0 := by omega
    rw [this]
    rfl

set_option maxRecDepth 100000 in
set_option maxHeartbeats 4000000 in
theorem keeps_short (w : World) (A : Option Addr) (n c : Nat) (bs : List UInt8) (d m : Nat) (hd : d < 18446744073709551616) (hm : m < 256) (h' : Hid (Rd w A n c bs)) (l0 : n ≤ 400) :
    Calls Try.prog 4 #[.slice A n c, digV d, .int .u8 m] w (Holds w) := by
  have f1 := h'.out.le
  have f2 := h'.out.max
  have g0 : ¬ (400 : Int) < (n : Int) := by omega
  unfold digV
  go_enter Try.func4, Try.ntmps4
  go_wp2_with fail
  generalize hW : World.alloc w (.cells #[.int .u8 (byt d 0), .int .u8 (byt d 1), .int .u8 (byt d 2), .int .u8 (byt d 3), .int .u8 (byt d 4), .int .u8 (byt d 5), .int .u8 (byt d 6), .int .u8 (byt d 7)] 30) = W
  have D : Hid (W.heap[w.heap.size]? = some (.cells #[.int .u8 (byt d 0), .int .u8 (byt d 1), .int .u8 (byt d 2), .int .u8 (byt d 3), .int .u8 (byt d 4), .int .u8 (byt d 5), .int .u8 (byt d 6), .int .u8 (byt d 7)] 30 (0, 0))) := by rw [← hW]; exact Go.heap_alloc_new w _
  have B0 : Hid (Below w.heap.size w W) := by rw [← hW]; exact ext_alloc _ _
  clear hW
  refine (known_c _).mono ?_
  rintro e w1 ⟨rfl, hb1⟩
  have D1 := Lib.hid (keepB hb1 D.out)
  have B1 := Lib.hid (ext_trans B0.out hb1)
  have R1 := Lib.hid (h'.out.ext B1.out)
  clear hb1 D B0
  go_wp2_with (refine wpList_push_all (o := ⟨some 24, _, _, _, _, _⟩) rfl (.tmp 22) (.tmp 23) 22 22 rfl 5 Try.underlying22 infoU8 w1.heap.size _ _ _ [] (by rfl) (Own.empty w1 _) _ n bs (by rfl) ((R1.out.ext (ext_alloc _ _)).src Try.underlying22) (by omega) (ext_alloc _ _).size ?_; intro A0 c0 w2 ho hb; rw [Nat.zero_add]; have O2 := Lib.hid ho; rw [Nat.zero_add, List.nil_append] at O2; have C2 := Lib.hid ((ext_alloc w1 (.cells #[] 5)).trans hb); clear ho hb; go_simp)
  have D2 := Lib.hid (keepB C2.out D1.out)
  have B2 := Lib.hid (ext_trans B1.out C2.out)
  have zd : w.heap.size < w1.heap.size := (Array.getElem?_eq_some_iff.1 D1.out).1
  have z12 : w1.heap.size ≤ w2.heap.size := C2.out.size
  have DJ : Hid (∀ g, (Value.slice A0 n c0).ownBlock = some g → w1.heap.size ≤ g ∧ g < w2.heap.size) := fun g hg => O2.out.row.lt g hg
  clear D1 B1 R1 C2
  refine (newWriter_c _).mono ?_
  rintro e w3 ⟨b, hbw, rfl, hw, hb⟩
  have W3 := Lib.hid hw
  have D3 := Lib.hid (keepB hb D2.out)
  have O3 := Lib.hid (O2.out.ext hb)
  have B3 := Lib.hid (ext_trans B2.out hb)
  have zb : b < w3.heap.size := (Array.getElem?_eq_some_iff.1 hw.blk).1
  clear hw hb D2 O2 B2
  go_wp2_with fail
  refine (write_c w3 74 w3.heap.size b zb (Nat.le_refl _) none 0 0 [] W3 (Lib.hid (Own.void _ _ _)) A0 n c0 bs (Lib.hid O3.out.rd) (by omega)).mono ?_
  rintro e w4 ⟨A4, c4, rfl, hw4, ho4, hat4, v, hv1, hv2⟩
  rw [List.nil_append, h'.out.len] at hw4 ho4 hat4
  have Bv := below_grown (Below.refl w3.heap.size w3) (Nat.le_refl _) hv1 (fun k hk => by simp [Value.ownBlock] at hk)
  have W4 := Lib.hid hw4
  have P4 := Lib.hid ho4
  have O4 := Lib.hid ((O3.out.ext Bv).keptNe hv2 (fun g hg => by have := DJ.out g hg; omega))
  have D4 := Lib.hid (keepG hv2 (by omega) (keepB Bv D3.out))
  have Bw := B3.out.trans (Bv.mono B3.out.size)
  have B4 := Lib.hid (below_grown Bw Bw.size hv2 (fun k hk => by injection hk with hk; omega))
  have Z4 : w3.heap.size ≤ w4.heap.size := Nat.le_trans Bv.size hv2.size
  clear hw4 ho4 hat4 hv1 hv2 Bv Bw W3 D3 O3 B3
  obtain ⟨X, hX⟩ : ∃ X, X = ofN bs := ⟨_, rfl⟩
  have LX : X < 18446744073709551616 := by rw [hX]; exact ofN_lt (by rw [h'.out.len]; omega)
  have HXX : Hid (ofN bs = X) := hX.symm
  clear hX
  go_wp2_with fail
  refine (of_c w4 _ _ _ _ (Lib.hid O4.out.rd) (by omega)).mono ?_
  rw [HXX.out]
  unfold digV
  rintro e w5 ⟨rfl, hb⟩
  have C5 : Hid (Below w4.heap.size w4 w5) := hb
  clear hb
  go_wp2_with fail
  generalize hW6 : w5.alloc (.cells #[.int .u8 (byt X 0), .int .u8 (byt X 1), .int .u8 (byt X 2), .int .u8 (byt X 3), .int .u8 (byt X 4), .int .u8 (byt X 5), .int .u8 (byt X 6), .int .u8 (byt X 7)] 31) = w6
  have E6 : Hid (w6.heap[w5.heap.size]? = some (.cells #[.int .u8 (byt X 0), .int .u8 (byt X 1), .int .u8 (byt X 2), .int .u8 (byt X 3), .int .u8 (byt X 4), .int .u8 (byt X 5), .int .u8 (byt X 6), .int .u8 (byt X 7)] 31 (0, 0))) := by rw [← hW6]; exact Go.heap_alloc_new w5 _
  have C6 : Hid (Below w4.heap.size w4 w6) := by rw [← hW6]; exact ext_trans C5.out (ext_alloc _ _)
  have z5 : w4.heap.size ≤ w5.heap.size := C5.out.size
  clear hW6 C5
  have D6 := Lib.hid (keepB C6.out D4.out)
  have O6 := Lib.hid (O4.out.ext C6.out)
  have P6 := Lib.hid (P4.out.ext C6.out)
  have W6 := Lib.hid (W4.out.keep C6.out)
  have B6 := Lib.hid (B4.out.trans (C6.out.mono B4.out.size))
  clear D4 O4 P4 W4 B4 C6
  have QB : (bs == bs) = true := by simp
  refine (lsame_c w6 A0 n c0 bs (Lib.hid O6.out.rd) A n c bs (Lib.hid (h'.out.ext B6.out))).mono ?_
  rw [QB]
  rintro e w6b ⟨rfl, hb⟩
  replace D6 := Lib.hid (keepB hb D6.out)
  replace O6 := Lib.hid (O6.out.ext hb)
  replace P6 := Lib.hid (P6.out.ext hb)
  replace W6 := Lib.hid (W6.out.keep hb)
  replace E6 := Lib.hid (keepB hb E6.out)
  replace B6 := Lib.hid (ext_trans B6.out hb)
  clear hb w6 QB
  rename World => w6
  go_wp2_with fail
  go_loopw [39] (fun iv wr => ∃ (k : Nat) (ys : List UInt8), k ≤ n ∧ iv = .int .i64 k ∧ Hid (Own wr 5 w1.heap.size A0 n c0 ys) ∧ Hid (w6.grownBy wr (Value.slice A0 n c0).ownBlock)) (fun iv _ => n - (intOf iv).toNat)
  case atStart => exact ⟨0, _, Nat.zero_le _, rfl, O6.out, World.grownBy.refl _ _⟩
  case round =>
    clear O6
    rename World => w7
    obtain ⟨k, ys, hk, rfl, HO, HG⟩ := hrel
    by_cases hlt : k < n
    · obtain ⟨g, rfl, _, _⟩ := HO.out.blockless (by omega)
      obtain ⟨x, hx⟩ := HO.out.get hlt
      have fr := HO.out.row.frozenAt k
      obtain ⟨y, hy⟩ := u8_more x
      have hltI : (k : Int) < (n : Int) := by omega
      have hkI : (0 : Int) ≤ (k : Int) := by omega
      go_wp2_with fail
      exact ⟨⟨k + 1, _, by omega, by go_num, (HO.out.set k y).1, grown_then HG.out (HO.out.set k y).2⟩, by simp [intOf]; omega⟩
    · obtain rfl : n = k := by omega
      skip
      have D7 := Lib.hid ((D6.out : _) |> fun h => (HG.out.block _ (Array.getElem?_eq_some_iff.1 h).1 (fun e => by have := (DJ.out _ e.symm).1; omega)).trans h)
      have E7 := Lib.hid ((E6.out : _) |> fun h => (HG.out.block _ (Array.getElem?_eq_some_iff.1 h).1 (fun e => by have := (DJ.out _ e.symm).2; omega)).trans h)
      have W7 := Lib.hid (W6.out.keepR HG.out (fun e => by have := (DJ.out _ e).2; omega))
      have P7 := Lib.hid (P6.out.keptO HG.out (fun g hg e => by have := (DJ.out _ e).2; have := (P6.out.row.lt g hg).1; omega))
      have B7 := Lib.hid (below_grown B6.out B6.out.size HG.out (fun k hk => by have := (DJ.out _ hk).1; omega))
      have Z7 : w5.heap.size < w7.heap.size := (Array.getElem?_eq_some_iff.1 E7.out).1
      clear D6 E6 W6 P6 B6 HO HG
      obtain ⟨d0, d1, d2, d3, d4, d5, d6, d7, _, _, _, _, _, _, _, _⟩ := full8 D7.out
      have SI : Hid (streamI d (m : Int) = stream d m) := by have := streamI_small (d := d) (K := (m : Int)) (by omega); rw [Int.toNat_natCast] at this; exact this
      go_wp2_with fail
      refine (stream_c _ d hd (m : Int)).mono ?_
      rw [SI.out]
      rintro e w8 ⟨AS, nS, cS, rfl, ho, hb⟩
      have O8 := Lib.hid ho
      have D8 := Lib.hid (keepB hb D7.out)
      have E8 := Lib.hid (keepB hb E7.out)
      have W8 := Lib.hid (W7.out.keep hb)
      have P8 := Lib.hid (P7.out.ext hb)
      have B8 := Lib.hid (ext_trans B7.out hb)
      obtain rfl : m = nS := by rw [← ho.len, stream_len]
      have lS := ho.rd.le
      have mS := ho.rd.max
      have zd8 : w.heap.size < w7.heap.size := (Array.getElem?_eq_some_iff.1 D7.out).1
      have zb8 : b < w7.heap.size := (Array.getElem?_eq_some_iff.1 W7.out.blk).1
      have DJ8 : Hid (∀ g, (Value.slice AS m cS).ownBlock = some g → w7.heap.size ≤ g) := fun g hg => (ho.row.lt g hg).1
      have DP8 : Hid (∀ g, (Value.slice A4 n c4).ownBlock = some g → g < w7.heap.size) := fun g hg => (P7.out.row.lt g hg).2
      clear ho hb D7 E7 W7 P7 B7 d0 d1 d2 d3 d4 d5 d6 d7
      go_wp2_with fail
      go_loopw [55] (fun iv wr => ∃ (k : Nat) (ys : List UInt8), k ≤ m ∧ iv = .int .i64 k ∧ Hid (Own wr 5 w7.heap.size AS m cS ys) ∧ Hid (w8.grownBy wr (Value.slice AS m cS).ownBlock)) (fun iv _ => m - (intOf iv).toNat)
      case atStart => exact ⟨0, _, Nat.zero_le _, rfl, O8.out, World.grownBy.refl _ _⟩
      case round =>
        clear O8
        rename World => w9
        obtain ⟨k, ys, hk, rfl, HO, HG⟩ := hrel
        by_cases hlt2 : k < m
        · obtain ⟨g, rfl, _, _⟩ := HO.out.blockless (by omega)
          obtain ⟨x, hx⟩ := HO.out.get hlt2
          have fr := HO.out.row.frozenAt k
          obtain ⟨y, hy⟩ := u8_more x
          have hlt2I : (k : Int) < (m : Int) := by omega
          have hkI : (0 : Int) ≤ (k : Int) := by omega
          go_wp2_with fail
          exact ⟨⟨k + 1, _, by omega, by go_num, (HO.out.set k y).1, grown_then HG.out (HO.out.set k y).2⟩, by simp [intOf]; omega⟩
        · obtain rfl : m = k := by omega
          skip
          have D9 := Lib.hid ((D8.out : _) |> fun h => (HG.out.block _ (Array.getElem?_eq_some_iff.1 h).1 (fun e => by have := DJ8.out _ e.symm; omega)).trans h)
          have E9 := Lib.hid ((E8.out : _) |> fun h => (HG.out.block _ (Array.getElem?_eq_some_iff.1 h).1 (fun e => by have := DJ8.out _ e.symm; omega)).trans h)
          have W9 := Lib.hid (W8.out.keepR HG.out (fun e => by have := DJ8.out _ e; omega))
          have P9 := Lib.hid (P8.out.keptO HG.out (fun g hg e => by have := DJ8.out _ e; have := DP8.out g hg; omega))
          have B9 := Lib.hid (below_grown B8.out B8.out.size HG.out (fun k hk => by have := DJ8.out _ hk; omega))
          clear D8 E8 W8 P8 B8 HO HG
          go_wp2_with fail
          refine (writeNil_c _ _ _ _).mono ?_
          rintro e w10 ⟨rfl, hb⟩
          have D10 := Lib.hid (keepB hb D9.out)
          have E10 := Lib.hid (keepB hb E9.out)
          have W10 := Lib.hid (W9.out.keep hb)
          have P10 := Lib.hid (P9.out.ext hb)
          have B10 := Lib.hid (ext_trans B9.out hb)
          clear hb D9 E9 W9 P9 B9
          go_wp2_with fail
          have SI2 : Hid (streamI d (m : Int) = stream d m) := by have := streamI_small (d := d) (K := (m : Int)) (by omega); rw [Int.toNat_natCast] at this; exact this
          obtain ⟨Y, hY⟩ : ∃ Y, Y = ofN [] := ⟨_, rfl⟩
          have LY : Y < 18446744073709551616 := by rw [hY]; exact ofN_lt (by simp)
          have HYY : Hid (ofN [] = Y) := hY.symm
          clear hY
          have EX := eql_d LX LX
          have EY := eql_d LY LY
          rw [decide_eq_true rfl] at EX EY
          have GX := guard_d .eql X X
          have GY := guard_d .eql Y Y
          unfold digV at EX EY GX GY
          refine wp_region_schedC (fun v => Below w10.heap.size w10 v) [(true, 0), (true, 2), (false, 1), (true, 3), (true, 4), (true, 5), (true, 6), (true, 7), (true, 9), (true, 10), (true, 11), (false, 8), (false, 12), (false, 13), (true, 14), (true, 15), (true, 16), (false, 17), (false, 18), (true, 19), (true, 20), (true, 21), (true, 22), (false, 23), (true, 24), (true, 25), (true, 26), (true, 27), (false, 28), (true, 29), (true, 30), (true, 31), (true, 32), (false, 33), (true, 34), (true, 35), (true, 36)] (by kernel_rfl) rfl (by kernel_rfl) (by kernel_rfl) (fun _ _ d _ _ h => by cases d <;> exact h) (ext_drew w10) ?_
          intro J0 hJ0
          iterate 2 (refine schedC_pure (v := ?_) rfl (by rfl) ?_ ?_; rotate_left; (focus (intro v hC; obtain ⟨d0, d1, d2, d3, d4, d5, d6, d7, _, _, _, _, _, _, _, _⟩ := full8 (keepB hC D10.out); obtain ⟨e0, e1, e2, e3, e4, e5, e6, e7, _, _, _, _, _, _, _, _⟩ := full8 (keepB hC E10.out); go_simp; try with_reducible rfl)); try go_simp)
          refine schedC_eff rfl ?_
          intro J hJ
          go_wp2_with fail
          refine (sum_c _ _ _ _ _ _ _ _ (Lib.hid (W10.out.keep (ext_drew w10))) (Lib.hid (P10.out.ext (ext_drew w10))) (by omega)).mono ?_
          rw [HXX.out]
          unfold digV
          rintro e w11 ⟨rfl, hb⟩
          have C : Hid (Below w10.heap.size w10 w11) := Lib.hid (ext_trans (ext_drew w10) hb)
          clear hb
          go_wp2_with fail
          refine ⟨C.out, ?_⟩
          iterate 8 (refine schedC_pure (v := ?_) rfl (by rfl) ?_ ?_; rotate_left; (focus (intro v hC; obtain ⟨d0, d1, d2, d3, d4, d5, d6, d7, _, _, _, _, _, _, _, _⟩ := full8 (keepB hC D10.out); obtain ⟨e0, e1, e2, e3, e4, e5, e6, e7, _, _, _, _, _, _, _, _⟩ := full8 (keepB hC E10.out); go_simp; try with_reducible rfl)); try go_simp)
          refine schedC_eff rfl ?_
          intro J hJ
          go_wp2_with fail
          refine (stream_c _ d hd (m : Int)).mono ?_
          rw [SI2.out]
          rintro e w12 ⟨A1, n1, c1, rfl, ho, hb⟩
          have S12 := Lib.hid ho.rd
          replace C : Hid (Below w10.heap.size w10 w12) := Lib.hid (ext_trans C.out hb)
          clear hb ho
          go_wp2_with fail
          refine ⟨C.out, ?_⟩
          refine schedC_eff rfl ?_
          intro J hJ
          go_wp2_with fail
          refine (rstream_c _ d hd (m : Int)).mono ?_
          rw [SI2.out]
          rintro e w13 ⟨A2, n2, c2, rfl, ho, hb⟩
          have T13 := Lib.hid ho.rd
          have S13 := Lib.hid (S12.out.ext hb)
          replace C : Hid (Below w10.heap.size w10 w13) := Lib.hid (ext_trans C.out hb)
          clear hb ho S12
          go_wp2_with fail
          refine ⟨C.out, ?_⟩
          refine schedC_eff rfl ?_
          intro J hJ
          go_wp2_with fail
          refine (lsame_c w13 _ _ _ _ S13 _ _ _ _ T13).mono ?_
          rw [beq_self_eq_true]
          rintro e w14 ⟨rfl, hb⟩
          replace C : Hid (Below w10.heap.size w10 w14) := Lib.hid (ext_trans C.out hb)
          clear hb
          go_wp2_with fail
          refine ⟨C.out, ?_⟩
          iterate 3 (refine schedC_pure (v := ?_) rfl (by rfl) ?_ ?_; rotate_left; (focus (intro v hC; obtain ⟨d0, d1, d2, d3, d4, d5, d6, d7, _, _, _, _, _, _, _, _⟩ := full8 (keepB hC D10.out); obtain ⟨e0, e1, e2, e3, e4, e5, e6, e7, _, _, _, _, _, _, _, _⟩ := full8 (keepB hC E10.out); go_simp; try with_reducible rfl)); try go_simp)
          refine schedC_eff rfl ?_
          intro J hJ
          go_wp2_with fail
          refine (noSum_c _).mono ?_
          rw [HYY.out]
          unfold digV
          rintro e w15 ⟨rfl, hb⟩
          replace C : Hid (Below w10.heap.size w10 w15) := Lib.hid (ext_trans C.out hb)
          clear hb
          go_wp2_with fail
          refine ⟨C.out, ?_⟩
          refine schedC_eff rfl ?_
          intro J hJ
          go_wp2_with fail
          refine (of_c _ _ _ _ _ (Lib.hid (Rd.nil _)) (by omega)).mono ?_
          rw [HYY.out]
          unfold digV
          rintro e w16 ⟨rfl, hb⟩
          replace C : Hid (Below w10.heap.size w10 w16) := Lib.hid (ext_trans C.out hb)
          clear hb
          go_wp2_with fail
          refine ⟨C.out, ?_⟩
          iterate 4 (refine schedC_pure (v := ?_) rfl (by rfl) ?_ ?_; rotate_left; (focus (intro v hC; obtain ⟨d0, d1, d2, d3, d4, d5, d6, d7, _, _, _, _, _, _, _, _⟩ := full8 (keepB hC D10.out); obtain ⟨e0, e1, e2, e3, e4, e5, e6, e7, _, _, _, _, _, _, _, _⟩ := full8 (keepB hC E10.out); go_simp; try with_reducible rfl)); try go_simp)
          refine schedC_eff rfl ?_
          intro J hJ
          go_wp2_with fail
          refine (noClone_c _).mono ?_
          rintro e w17 ⟨rfl, hb⟩
          replace C : Hid (Below w10.heap.size w10 w17) := Lib.hid (ext_trans C.out hb)
          clear hb
          go_wp2_with fail
          refine ⟨C.out, ?_⟩
          iterate 4 (refine schedC_pure (v := ?_) rfl (by rfl) ?_ ?_; rotate_left; (focus (intro v hC; obtain ⟨d0, d1, d2, d3, d4, d5, d6, d7, _, _, _, _, _, _, _, _⟩ := full8 (keepB hC D10.out); obtain ⟨e0, e1, e2, e3, e4, e5, e6, e7, _, _, _, _, _, _, _, _⟩ := full8 (keepB hC E10.out); go_simp; try with_reducible rfl)); try go_simp)
          refine schedC_eff rfl ?_
          intro J hJ
          go_wp2_with fail
          refine (noNo_c _).mono ?_
          rintro e w18 ⟨rfl, hb⟩
          replace C : Hid (Below w10.heap.size w10 w18) := Lib.hid (ext_trans C.out hb)
          clear hb
          go_wp2_with fail
          refine ⟨C.out, ?_⟩
          iterate 4 (refine schedC_pure (v := ?_) rfl (by rfl) ?_ ?_; rotate_left; (focus (intro v hC; obtain ⟨d0, d1, d2, d3, d4, d5, d6, d7, _, _, _, _, _, _, _, _⟩ := full8 (keepB hC D10.out); obtain ⟨e0, e1, e2, e3, e4, e5, e6, e7, _, _, _, _, _, _, _, _⟩ := full8 (keepB hC E10.out); go_simp; try with_reducible rfl)); try go_simp)
          refine schedC_eff rfl ?_
          intro J hJ
          go_wp2_with fail
          refine (noSame_c _ _).mono ?_
          rintro e w19 ⟨rfl, hb⟩
          replace C : Hid (Below w10.heap.size w10 w19) := Lib.hid (ext_trans C.out hb)
          clear hb
          go_wp2_with fail
          refine ⟨C.out, ?_⟩
          iterate 3 (refine schedC_pure (v := ?_) rfl (by rfl) ?_ ?_; rotate_left; (focus (intro v hC; obtain ⟨d0, d1, d2, d3, d4, d5, d6, d7, _, _, _, _, _, _, _, _⟩ := full8 (keepB hC D10.out); obtain ⟨e0, e1, e2, e3, e4, e5, e6, e7, _, _, _, _, _, _, _, _⟩ := full8 (keepB hC E10.out); go_simp; try with_reducible rfl)); try go_simp)
          refine schedC_nil (hJ0 _ _ ?_)
          clear hJ0
          go_wp2_with fail
          go_ret
          exact ⟨rfl, ext_trans B10.out C.out⟩
#print axioms keeps_short
set_option maxRecDepth 100000 in
set_option maxHeartbeats 4000000 in
theorem keeps_long (w : World) (A : Option Addr) (n c : Nat) (bs : List UInt8) (d m : Nat) (h' : Hid (Rd w A n c bs)) (l0 : n > 400) :
    Calls Try.prog 4 #[.slice A n c, digV d, .int .u8 m] w (Holds w) := by
  have f1 := h'.out.le
  have f2 := h'.out.max
  have g0 : (400 : Int) < (n : Int) := by omega
  unfold digV
  go_enter Try.func4, Try.ntmps4
  go_wp2_with fail
  refine (known_c _).mono ?_
  rintro e w1 ⟨rfl, hb1⟩
  have B := Lib.hid (ext_trans (ext_alloc w _) hb1)
  clear hb1
  go_wp2_with fail
  refine (known_c _).mono ?_
  rintro e w2 ⟨rfl, hb2⟩
  go_wp2_with fail
  go_ret
  exact ⟨rfl, ext_trans B.out hb2⟩
theorem walkHashKeeps (w : World) (A : Option Addr) (n c : Nat) (bs : List UInt8) (d m : Nat) (h : Rd w A n c bs) (hd : d < 18446744073709551616) (hm : m < 256) :
    Calls Try.prog 4 #[.slice A n c, digV d, .int .u8 m] w (Holds w) := by
  by_cases l0 : n > 400
  · exact keeps_long w A n c bs d m h l0
  · exact keeps_short w A n c bs d m hd hm h (by omega)
#print axioms walkHashKeeps
end Go.Proofs.Ytdejlahgeckobaa
