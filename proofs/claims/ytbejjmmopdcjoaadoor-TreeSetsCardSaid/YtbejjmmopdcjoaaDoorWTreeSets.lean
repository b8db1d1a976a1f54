/-
  TreeSets: the walk.
-/
import Derived.Test.YtbejjmmopdcjoaaDoorTSetH
import Derived.Deep.CutBlock
namespace Go.Proofs.YtbejjmmopdcjoaaDoor
open Go.ChangeShapes Go.WideShapes Go.ChangeAt Go.RowKit Go.Deep

def TSMid (w : World) (Lo Hi T b m c1 : Nat) (wx : World) : Prop := ∃ l' : List Nat, Hid (l'.length = m) ∧ Hid (TrIn wx Lo Hi T l') ∧ Hid (OwnD wx 26 w.heap.size (some ⟨b, 0, none⟩) m c1 l') ∧ Hid (Below w.heap.size w wx)
theorem rootV_ok {l : List Nat} (h1 : 1 ≤ l.length) (h2 : l.length ≤ 4096) : rootV l = (treeN l (hgt l.length), 0) := by unfold rootV; rw [if_pos ⟨h1, h2⟩]

theorem pathV_len2 (l : List Nat) (i : Int) : (pathV l i).1.length ≤ 12 := by
  unfold pathV
  split
  · rename_i h0
    split
    · show (pathN l i.toNat (hgt l.length)).length ≤ 12
      rw [pathN_len]; exact hgt_le h0.2
    · simp
  · simp
/-- the tree's Path, of any place -/
theorem pathm_c (w : World) (Lo T : Nat) (l : List Nat) (i : Int) (h : Hid (TrAt w Lo T l)) : Calls Tryd.prog 28 #[.pointer (some ⟨T, 0, none⟩), .int .i64 i] w (Paths w (pathV l i).2 (pathV l i).1) := by
  unfold pathV
  rw [if_pos ⟨h.out.n1, h.out.n2⟩]
  by_cases hi : 0 ≤ i ∧ i < (l.length : Int)
  · rw [if_pos hi]
    obtain ⟨r, rfl⟩ : ∃ r : Nat, i = (r : Int) := ⟨i.toNat, by omega⟩
    exact pathm_ok w Lo T l r h (by omega)
  · rw [if_neg hi]
    exact pathm_no w Lo T l i h hi
theorem schedC_skipS {P : Program} {ops : Array Oper} {C : World → Prop} {K : Act → World → Prop} {i : Nat} {s : List (Bool × Nat)} {o : Oper} {a : Act} {w : World} (hi : ops[i]? = some o) (hw : Region.wanted o (yielded ops a.tmps) = false)
    (h : wpSchedC P ops C K s (a.put o.dst undef) w) : wpSchedC P ops C K ((true, i) :: s) a w := ⟨o, undef, hi, .inr ⟨hw, rfl⟩, h⟩

set_option maxRecDepth 100000 in
set_option maxHeartbeats 16000000 in
theorem walkTreeSets (w : World) (A : Option Addr) (n c : Nat) (f : Nat → Nat) (Ap : Option Addr) (np cp : Nat) (p : Nat → Int) (An : Option Addr) (nn cn : Nat) (q : Nat → Nat) (h : RdX w A n c (fun j => .int .u16 (f j))) (hf : ∀ j, j < n → f j < 65536) (hp : RdX w Ap np cp (fun j => .int .i64 (p j))) (hpb : ∀ j, j < np → -9223372036854775808 ≤ p j ∧ p j < 9223372036854775808) (hq : RdX w An nn cn (fun j => .int .u16 (q j))) (hqb : ∀ j, j < nn → q j < 65536) : Calls Tryd.prog 7 #[.slice A n c, .slice Ap np cp, .slice An nn cn] w (Holds w) := by
  obtain ⟨m, hm⟩ : ∃ m, m = min n 20 := ⟨_, rfl⟩
  have m20 : m ≤ 20 := by omega
  obtain ⟨l, hl⟩ : ∃ l, l = leavesN f m := ⟨_, rfl⟩
  have SC := Lib.hid (some_c w A n c f 20 (Lib.hid h) hf (by omega))
  rw [← hm, ← hl] at SC
  have HP := Lib.hid hp
  have HPB := Lib.hid hpb
  have HQ := Lib.hid hq
  have HQB := Lib.hid hqb
  have npx : np ≤ 9223372036854775807 := by have := hp.le; have := hp.max; omega
  have nnx : nn ≤ 9223372036854775807 := by have := hq.le; have := hq.max; omega
  clear hm hl h hf hp hpb hq hqb
  go_enter Tryd.func7, Tryd.ntmps7
  go_wp2_with fail
  refine SC.out.mono ?_
  rintro e w1 ⟨A1, c1, rfl, hO, hb⟩
  have O := Lib.hid hO
  have HLl := Lib.hid hO.len
  have B := Lib.hid hb
  have Ws := hb.size
  clear hO hb SC
  by_cases hm0 : m = 0
  · subst hm0
    go_wp2_with fail
    refine (new_no _ A1 0 c1 (by omega) (by omega)).mono ?_
    rintro e w2 ⟨rfl, rfl⟩
    go_wp2_with fail
    refine (told_c _).mono ?_
    rintro e w7 ⟨rfl, hb⟩
    replace B := Lib.hid (ext_trans B.out hb)
    clear hb
    go_wp2_with fail
    go_ret
    exact ⟨rfl, B.out⟩
  · have gm : (0 : Int) < (m : Int) := by omega
    obtain ⟨b, rfl, hbW, hb1, hmc⟩ := O.out.block (by omega)
    go_wp2_with fail
    refine (new_ok _ b 0 m c1 l (Lib.hid O.out.rd) (by omega) (by omega)).mono ?_
    rintro e w2 ⟨T, rfl, hT, hb⟩
    have TA := Lib.hid hT.trIn
    obtain ⟨Lo, hLo⟩ : ∃ Lo, Lo = w1.heap.size := ⟨_, rfl⟩
    obtain ⟨Hi, hHi⟩ : ∃ Hi, Hi = w2.heap.size := ⟨_, rfl⟩
    rw [← hLo, ← hHi] at TA
    have bLo : b < Lo := by omega
    have LoW : w.heap.size ≤ Lo := by omega
    have LoHi : Lo ≤ Hi := by have := hb.size; omega
    have hHi2 : Hi ≤ w2.heap.size := by omega
    clear hLo hHi
    replace O := Lib.hid (O.out.ext hb)
    replace B := Lib.hid (ext_trans B.out hb)
    clear hT hb
    go_wp2_with fail
    refine (told_c _).mono ?_
    rintro e w3 ⟨rfl, hb⟩
    replace TA := Lib.hid (TA.out.ext hb)
    replace O := Lib.hid (O.out.ext hb)
    replace B := Lib.hid (ext_trans B.out hb)
    have hHi3 : Hi ≤ w3.heap.size := by have := hb.size; omega
    clear hb hHi2
    go_upto_block 0 with fail
    go_cut [10] from 11 to 139 (fun _ wx => TSMid w Lo Hi T b m c1 wx)
    case first =>
      go_wp2_with fail
      go_loopw [10] (fun iv wr => ∃ (k : Nat) (l' : List Nat), k ≤ 12 ∧ iv = .int .i64 k ∧ Hi ≤ wr.heap.size ∧ Hid (l'.length = m) ∧ Hid (TrIn wr Lo Hi T l') ∧ Hid (OwnD wr 26 w.heap.size (some ⟨b, 0, none⟩) m c1 l') ∧ Hid (Below w.heap.size w wr)) (fun iv _ => 12 - (intOf iv).toNat)
      case atStart => exact ⟨0, l, Nat.zero_le _, rfl, hHi3, HLl.out, TA.out, O.out, B.out⟩
      case round =>
        clear TA O B HLl hHi3
        obtain ⟨k, l', hk, rfl, hHi, HLl, TA, O, B⟩ := hrel
        by_cases g1 : k < np
        · have g1I : (k : Int) < (np : Int) := by omega
          by_cases g2 : k < nn
          · have g2I : (k : Int) < (nn : Int) := by omega
            by_cases g3 : k < 12
            · have g3I : (k : Int) < 12 := by omega
              have kn0 : (0 : Int) ≤ (k : Int) := by omega
              obtain ⟨bp, op, rfl, hbp, hcp⟩ := HP.out.at (k := k) g1
              obtain ⟨bn, on, rfl, hbn, hcn⟩ := HQ.out.at (k := k) g2
              have cp1 := (B.out.cell (p := ⟨bp, op + k, none⟩) hbp).trans hcp
              have cn1 := (B.out.cell (p := ⟨bn, on + k, none⟩) hbn).trans hcn
              obtain ⟨pv, hpv⟩ : ∃ v, v = p k := ⟨_, rfl⟩
              obtain ⟨x, hx⟩ : ∃ x, x = q k := ⟨_, rfl⟩
              have lx : x < 65536 := by rw [hx]; exact HQB.out k g2
              have pb := HPB.out k g1
              rw [← hpv] at pb
              obtain ⟨pb1, pb2⟩ := pb
              simp only [← hpv] at cp1
              simp only [← hx] at cn1
              obtain ⟨y, hy⟩ : ∃ y, y = mark 4 x := ⟨_, rfl⟩
              have ly : y < 18446744073709551616 := by rw [hy]; exact mark_lt lx (by omega)
              have HBY := Lib.hid (byt_add lx (show 4 < 256 by omega))
              rw [← hy] at HBY
              have CN := Lib.hid cn1
              have q1 : (x : Int) % 256 = (byt y 0 : Int) := by have := HBY.out.1; omega
              have q2 : (x : Int) / 256 = (byt y 1 : Int) := by have := HBY.out.2.1; omega
              have q3 : (x : Int).tdiv 256 = (byt y 1 : Int) := by rw [Int.tdiv_eq_ediv_of_nonneg (by omega)]; exact q2
              have q4 := byt_lt y 1
              have W1 : IntKind.u8.wrap (x : Int) = (byt y 0 : Int) := by simp [IntKind.wrap, IntKind.bits, IntKind.signed]; omega
              have W2 : IntKind.u16.wrap ((byt y 1 : Nat) : Int) = (byt y 1 : Int) := by simp [IntKind.wrap, IntKind.bits, IntKind.signed]; omega
              have W3 : IntKind.u8.wrap ((byt y 1 : Nat) : Int) = (byt y 1 : Int) := by simp [IntKind.wrap, IntKind.bits, IntKind.signed]; omega
              have HCY : Hid ((.agg #[.int .u8 (byt y 0), .int .u8 (byt y 1), .int .u8 4, .int .u8 0, .int .u8 0, .int .u8 0, .int .u8 0, .int .u8 0] : Value) = .agg #[.int .u8 (byt y 0), .int .u8 (byt y 1), .int .u8 (byt y 2), .int .u8 (byt y 3), .int .u8 (byt y 4), .int .u8 (byt y 5), .int .u8 (byt y 6), .int .u8 (byt y 7)]) := by
                obtain ⟨_, _, k2, k3, k4, k5, k6, k7⟩ := HBY.out
                show _ = _
                rw [k2, k3, k4, k5, k6, k7]
                rfl
              clear q4 hcp hcn cn1 hx hy hpv
              have m0I : ¬ (m : Int) = 0 := by omega
              by_cases k3 : k % 3 = 0
              · have w3 : (k : Int) % 3 = 0 := by omega
                have w4 : (k : Int).tmod 3 = 0 := by rw [Int.tmod_eq_emod_of_nonneg (by omega)]; exact w3
                by_cases hin : 0 ≤ pv ∧ pv < (m : Int)
                · obtain ⟨r, rfl⟩ : ∃ r : Nat, pv = (r : Int) := ⟨pv.toNat, by omega⟩
                  have lr : r < m := by omega
                  clear hin
                  go_upto_region 13 with fail
                  refine wp_region_schedC (fun u => u.cell? ⟨bn, on + k, none⟩ = some (.int .u16 x)) [(true, 0), (true, 1), (true, 2), (true, 3), (true, 4), (true, 5), (true, 6), (true, 7), (true, 8), (true, 9), (true, 10), (true, 11), (false, 12), (false, 13)] (by kernel_rfl) rfl (by kernel_rfl) (by kernel_rfl) (fun _ _ d _ _ h => by cases d <;> exact h) CN.out ?_
                  intro J0 hJ0
                  iterate 4 (refine schedC_pure (v := ?_) rfl (by rfl) ?_ ?_; rotate_left; (focus (intro u hC; go_simp; try with_reducible rfl)); try go_simp)
                  refine schedC_pure (v := .int .u8 (byt y 0)) rfl (by rfl) (fun u hC => by go_simp) ?_
                  try go_simp
                  iterate 4 (refine schedC_pure (v := ?_) rfl (by rfl) ?_ ?_; rotate_left; (focus (intro u hC; go_simp; try with_reducible rfl)); try go_simp)
                  refine schedC_pure (v := .int .u16 (byt y 1)) rfl (by rfl) (fun u hC => by go_simp) ?_
                  try go_simp
                  refine schedC_pure (v := .int .u8 (byt y 1)) rfl (by rfl) (fun u hC => by go_simp) ?_
                  try go_simp
                  iterate 1 (refine schedC_pure (v := ?_) rfl (by rfl) ?_ ?_; rotate_left; (focus (intro u hC; go_simp; try with_reducible rfl)); try go_simp)
                  rw [HCY.out]
                  have bnl : bn < wr.drew.heap.size := Nat.lt_of_lt_of_le hbn (Nat.le_trans (Nat.le_trans LoW (Nat.le_trans LoHi hHi)) (Nat.le_refl wr.heap.size))
                  have HC2 : Hid (wr.drew.cell? ⟨bn, on + k, none⟩ = some (.int .u16 x)) := CN.out
                  have hHiV : Hi ≤ wr.drew.heap.size := hHi
                  replace TA : Hid (TrIn wr.drew Lo Hi T l') := TA.out.ext (ext_drew wr)
                  replace O : Hid (OwnD wr.drew 26 w.heap.size (some ⟨b, 0, none⟩) m c1 l') := O.out.ext (ext_drew wr)
                  replace B : Hid (Below w.heap.size w wr.drew) := ext_trans B.out (ext_drew wr)
                  clear CN cp1
                  generalize wr.drew = V at *
                  refine schedC_eff rfl ?_
                  intro J hJ
                  go_wp2_with fail
                  refine ⟨by first | exact ((ext_alloc V _).cell (p := ⟨bn, on + k, none⟩) bnl).trans HC2.out | exact HC2.out, ?_⟩
                  refine schedC_eff rfl ?_
                  intro J2 hJ2
                  go_wp2_with fail
                  refine ⟨by first | exact ((ext_alloc V _).cell (p := ⟨bn, on + k, none⟩) bnl).trans HC2.out | exact HC2.out, ?_⟩
                  refine schedC_nil (hJ0 _ _ ?_)
                  obtain ⟨gx, hgx⟩ : ∃ g, g = V.heap.size := ⟨_, rfl⟩
                  obtain ⟨U, hU⟩ : ∃ U, U = World.alloc V (.cells #[.int .u8 (byt y 0), .int .u8 (byt y 1), .int .u8 (byt y 2), .int .u8 (byt y 3), .int .u8 (byt y 4), .int .u8 (byt y 5), .int .u8 (byt y 6), .int .u8 (byt y 7)] 26) := ⟨_, rfl⟩
                  have DX : Hid (U.heap[gx]? = some (.cells #[.int .u8 (byt y 0), .int .u8 (byt y 1), .int .u8 (byt y 2), .int .u8 (byt y 3), .int .u8 (byt y 4), .int .u8 (byt y 5), .int .u8 (byt y 6), .int .u8 (byt y 7)] 26 (0, 0))) := by rw [hU, hgx]; exact Go.heap_alloc_new V _
                  have BU : Hid (Below V.heap.size V U) := by rw [hU]; exact ext_alloc V _
                  rw [← hgx, ← hU]
                  clear hJ0 HC2 hU
                  replace TA := Lib.hid (TA.out.ext BU.out)
                  replace O := Lib.hid (O.out.ext BU.out)
                  replace B := Lib.hid (ext_trans B.out BU.out)
                  have hHiU : Hi ≤ U.heap.size := by have := BU.out.size; omega
                  have gxH : Hi ≤ gx := by rw [hgx]; exact hHiV
                  have gxU : gx < U.heap.size := (Array.getElem?_eq_some_iff.1 DX.out).1
                  clear BU hgx hHiV bnl
                  obtain ⟨d0, d1, d2, d3, d4, d5, d6, d7, _, _, _, _, _, _, _, _⟩ := full8 DX.out
                  go_wp2_with fail
                  rw [← show digV y = .agg #[.int .u8 (byt y 0), .int .u8 (byt y 1), .int .u8 (byt y 2), .int .u8 (byt y 3), .int .u8 (byt y 4), .int .u8 (byt y 5), .int .u8 (byt y 6), .int .u8 (byt y 7)] from rfl]

                  refine (set_okH _ Lo Hi T l' r y TA (by rw [HLl.out]; exact lr) ly).mono ?_
                  rintro e w4 ⟨rfl, hT, hs⟩
                  replace TA := Lib.hid hT
                  replace O := Lib.hid (O.out.keep (hs.below.block b bLo))
                  replace B := Lib.hid (B.out.trans (hs.below.mono LoW))
                  replace DX := Lib.hid ((hs.rest gx gxH gxU).trans DX.out)
                  have hHi4 : Hi ≤ w4.heap.size := by have := hs.below.size; omega
                  clear hT hs d0 d1 d2 d3 d4 d5 d6 d7
                  obtain ⟨l2, hl2⟩ : ∃ l2, l2 = l'.set r y := ⟨_, rfl⟩
                  have HL2 := Lib.hid hl2
                  have HLl2 : Hid (l2.length = m) := by show _ = _; rw [hl2, List.length_set]; exact HLl.out
                  rw [← hl2] at TA
                  clear hl2
                  obtain ⟨y0, y1, y2, y3, y4, y5, y6, y7, p0, p1, p2, p3, p4, p5, p6, p7, q0, q1, q2, q3, q4, q5, q6, q7⟩ := O.out.rowK.1.place (j := r) (by omega)
                  obtain ⟨a0, a1, a2, a3, a4, a5, a6, a7, _, _, _, _, _, _, _, _⟩ := full8 DX.out
                  have rI : (r : Int) < (m : Int) := by omega
                  have rI0 : (0 : Int) ≤ (r : Int) := by omega
                  go_upto_region 20 with fail
                  obtain ⟨U2, hU2⟩ : ∃ U2, U2 = (World.setCell (World.setCell (World.setCell (World.setCell (World.setCell (World.setCell (World.setCell (World.setCell w4 ⟨b, r * 8, none⟩ (.int .u8 (byt y 0))) ⟨b, r * 8 + 1, none⟩ (.int .u8 (byt y 1))) ⟨b, r * 8 + 2, none⟩ (.int .u8 (byt y 2))) ⟨b, r * 8 + 3, none⟩ (.int .u8 (byt y 3))) ⟨b, r * 8 + 4, none⟩ (.int .u8 (byt y 4))) ⟨b, r * 8 + 5, none⟩ (.int .u8 (byt y 5))) ⟨b, r * 8 + 6, none⟩ (.int .u8 (byt y 6))) ⟨b, r * 8 + 7, none⟩ (.int .u8 (byt y 7))) := ⟨_, rfl⟩
                  replace TA : Hid (TrIn U2 Lo Hi T l2) := by rw [hU2]; exact TA.out.keepIn (fun k hk _ _ => put_other w4 b k r y (by omega))
                  replace O : Hid (OwnD U2 26 w.heap.size (some ⟨b, 0, none⟩) m c1 l2) := by rw [hU2, HL2.out]; exact O.out.put lr ly
                  replace B : Hid (Below w.heap.size w U2) := by rw [hU2]; exact below_row B.out (Nat.le_refl _) (by omega)
                  have hHiU2 : Hi ≤ U2.heap.size := by rw [hU2]; exact Nat.le_trans hHi4 (below_row (x := y) (j := r) (Below.refl b w4) (by omega) (Nat.le_refl b)).size
                  rw [← hU2]
                  clear hU2 DX HL2 HLl y0 y1 y2 y3 y4 y5 y6 y7 p0 p1 p2 p3 p4 p5 p6 p7 q0 q1 q2 q3 q4 q5 q6 q7 a0 a1 a2 a3 a4 a5 a6 a7 hHi4 hHiU gxH gxU
                  have HLl := HLl2
                  clear HLl2

                  go_wp2_with fail
                  refine (plain_c _ (some ⟨b, 0, none⟩) m c1 l2 (Lib.hid O.out.rd) (by omega)).mono ?_
                  rintro e w5 ⟨A5, c5, rfl, hO, hb⟩
                  have R5 := Lib.hid hO.rd
                  replace TA := Lib.hid (TA.out.ext hb)
                  replace O := Lib.hid (O.out.ext hb)
                  replace B := Lib.hid (ext_trans B.out hb)
                  have hHi5 : Hi ≤ w5.heap.size := by have := hb.size; omega
                  clear hO hb
                  obtain ⟨z, hz⟩ : ∃ z, z = treeN l2 (hgt l2.length) := ⟨_, rfl⟩
                  have HZ := Lib.hid hz
                  have HRV : Hid (rootV l2 = (z, 0)) := by show _ = _; rw [hz]; exact rootV_ok TA.out.n1 TA.out.n2
                  have lz : z < 18446744073709551616 := by rw [hz]; exact treeN_lt TA.out.small _
                  clear hz
                  go_wp2_with fail
                  refine (rroot_c _ A5 m c5 l2 R5).mono ?_
                  rw [HRV.out]
                  unfold digV
                  rintro e w6 ⟨rfl, hb⟩
                  replace TA := Lib.hid (TA.out.ext hb)
                  replace O := Lib.hid (O.out.ext hb)
                  replace B := Lib.hid (ext_trans B.out hb)
                  have hHi6 : Hi ≤ w6.heap.size := by have := hb.size; omega
                  clear hb R5 hHi5
                  go_upto_region 21 with fail
                  obtain ⟨gz, hgz⟩ : ∃ g, g = w6.heap.size := ⟨_, rfl⟩
                  obtain ⟨Y, hY⟩ : ∃ Y, Y = World.alloc w6 (.cells #[.int .u8 (byt z 0), .int .u8 (byt z 1), .int .u8 (byt z 2), .int .u8 (byt z 3), .int .u8 (byt z 4), .int .u8 (byt z 5), .int .u8 (byt z 6), .int .u8 (byt z 7)] 25) := ⟨_, rfl⟩
                  have DZ : Hid (Y.heap[gz]? = some (.cells #[.int .u8 (byt z 0), .int .u8 (byt z 1), .int .u8 (byt z 2), .int .u8 (byt z 3), .int .u8 (byt z 4), .int .u8 (byt z 5), .int .u8 (byt z 6), .int .u8 (byt z 7)] 25 (0, 0))) := by rw [hY, hgz]; exact Go.heap_alloc_new w6 _
                  replace TA : Hid (TrIn Y Lo Hi T l2) := by rw [hY]; exact TA.out.ext (ext_alloc _ _)
                  replace O : Hid (OwnD Y 26 w.heap.size (some ⟨b, 0, none⟩) m c1 l2) := by rw [hY]; exact O.out.ext (ext_alloc _ _)
                  replace B : Hid (Below w.heap.size w Y) := by rw [hY]; exact ext_trans B.out (ext_alloc _ _)
                  have hHiY : Hi ≤ Y.heap.size := by rw [hY]; have := (ext_alloc w6 (.cells #[.int .u8 (byt z 0), .int .u8 (byt z 1), .int .u8 (byt z 2), .int .u8 (byt z 3), .int .u8 (byt z 4), .int .u8 (byt z 5), .int .u8 (byt z 6), .int .u8 (byt z 7)] 25)).size; omega
                  rw [← hY, ← hgz]
                  clear hY hgz hHi6
                  have E1 := neq_d lz lz
                  rw [decide_eq_true rfl, Bool.not_true] at E1
                  have G1 := guard_d .neq z z
                  unfold digV at E1 G1
                  refine wp_region_schedC (fun u => Below Y.heap.size Y u) [(true, 0), (true, 2), (false, 1), (true, 3), (true, 4), (true, 5), (true, 7), (true, 8), (false, 6), (true, 9), (true, 10)] (by kernel_rfl) rfl (by kernel_rfl) (by kernel_rfl) (fun _ _ d _ _ h => by cases d <;> exact h) (ext_drew Y) ?_
                  intro J0 hJ0
                  have Q : Hid (Below Y.heap.size Y Y.drew) := ext_drew Y
                  iterate 2 (refine schedC_pure (v := ?_) rfl (by rfl) ?_ ?_; rotate_left; (focus (intro u hC; obtain ⟨y0, y1, y2, y3, y4, y5, y6, y7, _, _, _, _, _, _, _, _⟩ := full8 (keepB hC DZ.out); go_simp; try with_reducible rfl)); try go_simp)
                  refine schedC_eff rfl ?_
                  intro J hJ
                  go_wp2_with fail
                  refine (rootm_c _ Lo T l2 (Lib.hid (TA.out.tr.ext Q.out))).mono ?_
                  rw [← HZ.out]
                  unfold digV
                  rintro e v9 ⟨rfl, hb⟩
                  have Q2 : Hid (Below Y.heap.size Y v9) := Lib.hid (ext_trans Q.out hb)
                  clear hb Q
                  go_wp2_with fail
                  refine ⟨Q2.out, ?_⟩
                  refine schedC_pure (v := .bool false) rfl (by rfl) (fun u hC => exec_run rfl rfl rfl (G1 _ _ u) (E1 u)) ?_
                  try go_simp
                  iterate 4 (refine schedC_pure (v := ?_) rfl (by rfl) ?_ ?_; rotate_left; (focus (intro u hC; go_simp; try with_reducible rfl)); try go_simp)
                  refine schedC_eff rfl ?_
                  intro J hJ
                  go_wp2_with fail
                  refine (len_c _ Lo T l2 (Lib.hid (TA.out.tr.ext Q2.out))).mono ?_
                  rw [HLl.out]
                  rintro e v10 ⟨rfl, rfl⟩
                  go_wp2_with fail
                  refine ⟨Q2.out, ?_⟩
                  iterate 2 (refine schedC_pure (v := ?_) rfl (by rfl) ?_ ?_; rotate_left; (focus (intro u hC; go_simp; try with_reducible rfl)); try go_simp)
                  refine schedC_nil (hJ0 _ _ ?_)
                  clear hJ0 E1 G1
                  replace TA := Lib.hid (TA.out.ext Q2.out)
                  replace O := Lib.hid (O.out.ext Q2.out)
                  replace B := Lib.hid (ext_trans B.out Q2.out)
                  have hHi9 : Hi ≤ v10.heap.size := by have := Q2.out.size; omega
                  clear Q2
                  go_wp2_with fail
                  exact ⟨⟨k + 1, l2, by omega, by go_num, hHi9, HLl.out, TA.out, O.out, B.out⟩, by simp [intOf]; omega⟩
                · by_cases hp0 : 0 ≤ pv
                  · have hpm : ¬ pv < (m : Int) := by omega
                    go_upto_region 13 with fail
                    refine wp_region_schedC (fun u => u.cell? ⟨bn, on + k, none⟩ = some (.int .u16 x)) [(true, 0), (true, 1), (true, 2), (true, 3), (true, 4), (true, 5), (true, 6), (true, 7), (true, 8), (true, 9), (true, 10), (true, 11), (false, 12), (false, 13)] (by kernel_rfl) rfl (by kernel_rfl) (by kernel_rfl) (fun _ _ d _ _ h => by cases d <;> exact h) CN.out ?_
                    intro J0 hJ0
                    iterate 4 (refine schedC_pure (v := ?_) rfl (by rfl) ?_ ?_; rotate_left; (focus (intro u hC; go_simp; try with_reducible rfl)); try go_simp)
                    refine schedC_pure (v := .int .u8 (byt y 0)) rfl (by rfl) (fun u hC => by go_simp) ?_
                    try go_simp
                    iterate 4 (refine schedC_pure (v := ?_) rfl (by rfl) ?_ ?_; rotate_left; (focus (intro u hC; go_simp; try with_reducible rfl)); try go_simp)
                    refine schedC_pure (v := .int .u16 (byt y 1)) rfl (by rfl) (fun u hC => by go_simp) ?_
                    try go_simp
                    refine schedC_pure (v := .int .u8 (byt y 1)) rfl (by rfl) (fun u hC => by go_simp) ?_
                    try go_simp
                    iterate 1 (refine schedC_pure (v := ?_) rfl (by rfl) ?_ ?_; rotate_left; (focus (intro u hC; go_simp; try with_reducible rfl)); try go_simp)
                    rw [HCY.out]
                    have bnl : bn < wr.drew.heap.size := Nat.lt_of_lt_of_le hbn (Nat.le_trans (Nat.le_trans LoW (Nat.le_trans LoHi hHi)) (Nat.le_refl wr.heap.size))
                    have HC2 : Hid (wr.drew.cell? ⟨bn, on + k, none⟩ = some (.int .u16 x)) := CN.out
                    have hHiV : Hi ≤ wr.drew.heap.size := hHi
                    replace TA : Hid (TrIn wr.drew Lo Hi T l') := TA.out.ext (ext_drew wr)
                    replace O : Hid (OwnD wr.drew 26 w.heap.size (some ⟨b, 0, none⟩) m c1 l') := O.out.ext (ext_drew wr)
                    replace B : Hid (Below w.heap.size w wr.drew) := ext_trans B.out (ext_drew wr)
                    clear CN cp1
                    generalize wr.drew = V at *
                    refine schedC_eff rfl ?_
                    intro J hJ
                    go_wp2_with fail
                    refine ⟨by first | exact ((ext_alloc V _).cell (p := ⟨bn, on + k, none⟩) bnl).trans HC2.out | exact HC2.out, ?_⟩
                    refine schedC_eff rfl ?_
                    intro J2 hJ2
                    go_wp2_with fail
                    refine ⟨by first | exact ((ext_alloc V _).cell (p := ⟨bn, on + k, none⟩) bnl).trans HC2.out | exact HC2.out, ?_⟩
                    refine schedC_nil (hJ0 _ _ ?_)
                    obtain ⟨gx, hgx⟩ : ∃ g, g = V.heap.size := ⟨_, rfl⟩
                    obtain ⟨U, hU⟩ : ∃ U, U = World.alloc V (.cells #[.int .u8 (byt y 0), .int .u8 (byt y 1), .int .u8 (byt y 2), .int .u8 (byt y 3), .int .u8 (byt y 4), .int .u8 (byt y 5), .int .u8 (byt y 6), .int .u8 (byt y 7)] 26) := ⟨_, rfl⟩
                    have DX : Hid (U.heap[gx]? = some (.cells #[.int .u8 (byt y 0), .int .u8 (byt y 1), .int .u8 (byt y 2), .int .u8 (byt y 3), .int .u8 (byt y 4), .int .u8 (byt y 5), .int .u8 (byt y 6), .int .u8 (byt y 7)] 26 (0, 0))) := by rw [hU, hgx]; exact Go.heap_alloc_new V _
                    have BU : Hid (Below V.heap.size V U) := by rw [hU]; exact ext_alloc V _
                    rw [← hgx, ← hU]
                    clear hJ0 HC2 hU
                    replace TA := Lib.hid (TA.out.ext BU.out)
                    replace O := Lib.hid (O.out.ext BU.out)
                    replace B := Lib.hid (ext_trans B.out BU.out)
                    have hHiU : Hi ≤ U.heap.size := by have := BU.out.size; omega
                    have gxH : Hi ≤ gx := by rw [hgx]; exact hHiV
                    have gxU : gx < U.heap.size := (Array.getElem?_eq_some_iff.1 DX.out).1
                    clear BU hgx hHiV bnl
                    obtain ⟨d0, d1, d2, d3, d4, d5, d6, d7, _, _, _, _, _, _, _, _⟩ := full8 DX.out
                    go_wp2_with fail
                    rw [← show digV y = .agg #[.int .u8 (byt y 0), .int .u8 (byt y 1), .int .u8 (byt y 2), .int .u8 (byt y 3), .int .u8 (byt y 4), .int .u8 (byt y 5), .int .u8 (byt y 6), .int .u8 (byt y 7)] from rfl]

                    refine (set_no _ Lo T l' pv y (Lib.hid TA.out.tr) (by rw [HLl.out]; exact hin)).mono ?_
                    rintro e w4 ⟨rfl, hb⟩
                    replace TA := Lib.hid (TA.out.ext hb)
                    replace O := Lib.hid (O.out.ext hb)
                    replace B := Lib.hid (ext_trans B.out hb)
                    have hHi4 : Hi ≤ w4.heap.size := by have := hb.size; omega
                    clear hb d0 d1 d2 d3 d4 d5 d6 d7 DX hHiU gxH gxU

                    go_wp2_with fail
                    refine (plain_c _ (some ⟨b, 0, none⟩) m c1 l' (Lib.hid O.out.rd) (by omega)).mono ?_
                    rintro e w5 ⟨A5, c5, rfl, hO, hb⟩
                    have R5 := Lib.hid hO.rd
                    replace TA := Lib.hid (TA.out.ext hb)
                    replace O := Lib.hid (O.out.ext hb)
                    replace B := Lib.hid (ext_trans B.out hb)
                    have hHi5 : Hi ≤ w5.heap.size := by have := hb.size; omega
                    clear hO hb
                    obtain ⟨z, hz⟩ : ∃ z, z = treeN l' (hgt l'.length) := ⟨_, rfl⟩
                    have HZ := Lib.hid hz
                    have HRV : Hid (rootV l' = (z, 0)) := by show _ = _; rw [hz]; exact rootV_ok TA.out.n1 TA.out.n2
                    have lz : z < 18446744073709551616 := by rw [hz]; exact treeN_lt TA.out.small _
                    clear hz
                    go_wp2_with fail
                    refine (rroot_c _ A5 m c5 l' R5).mono ?_
                    rw [HRV.out]
                    unfold digV
                    rintro e w6 ⟨rfl, hb⟩
                    replace TA := Lib.hid (TA.out.ext hb)
                    replace O := Lib.hid (O.out.ext hb)
                    replace B := Lib.hid (ext_trans B.out hb)
                    have hHi6 : Hi ≤ w6.heap.size := by have := hb.size; omega
                    clear hb R5 hHi5
                    go_upto_region 21 with fail
                    obtain ⟨gz, hgz⟩ : ∃ g, g = w6.heap.size := ⟨_, rfl⟩
                    obtain ⟨Y, hY⟩ : ∃ Y, Y = World.alloc w6 (.cells #[.int .u8 (byt z 0), .int .u8 (byt z 1), .int .u8 (byt z 2), .int .u8 (byt z 3), .int .u8 (byt z 4), .int .u8 (byt z 5), .int .u8 (byt z 6), .int .u8 (byt z 7)] 25) := ⟨_, rfl⟩
                    have DZ : Hid (Y.heap[gz]? = some (.cells #[.int .u8 (byt z 0), .int .u8 (byt z 1), .int .u8 (byt z 2), .int .u8 (byt z 3), .int .u8 (byt z 4), .int .u8 (byt z 5), .int .u8 (byt z 6), .int .u8 (byt z 7)] 25 (0, 0))) := by rw [hY, hgz]; exact Go.heap_alloc_new w6 _
                    replace TA : Hid (TrIn Y Lo Hi T l') := by rw [hY]; exact TA.out.ext (ext_alloc _ _)
                    replace O : Hid (OwnD Y 26 w.heap.size (some ⟨b, 0, none⟩) m c1 l') := by rw [hY]; exact O.out.ext (ext_alloc _ _)
                    replace B : Hid (Below w.heap.size w Y) := by rw [hY]; exact ext_trans B.out (ext_alloc _ _)
                    have hHiY : Hi ≤ Y.heap.size := by rw [hY]; have := (ext_alloc w6 (.cells #[.int .u8 (byt z 0), .int .u8 (byt z 1), .int .u8 (byt z 2), .int .u8 (byt z 3), .int .u8 (byt z 4), .int .u8 (byt z 5), .int .u8 (byt z 6), .int .u8 (byt z 7)] 25)).size; omega
                    rw [← hY, ← hgz]
                    clear hY hgz hHi6
                    have E1 := neq_d lz lz
                    rw [decide_eq_true rfl, Bool.not_true] at E1
                    have G1 := guard_d .neq z z
                    unfold digV at E1 G1
                    refine wp_region_schedC (fun u => Below Y.heap.size Y u) [(true, 0), (true, 2), (false, 1), (true, 3), (true, 4), (true, 5), (true, 7), (true, 8), (false, 6), (true, 9), (true, 10)] (by kernel_rfl) rfl (by kernel_rfl) (by kernel_rfl) (fun _ _ d _ _ h => by cases d <;> exact h) (ext_drew Y) ?_
                    intro J0 hJ0
                    have Q : Hid (Below Y.heap.size Y Y.drew) := ext_drew Y
                    iterate 2 (refine schedC_pure (v := ?_) rfl (by rfl) ?_ ?_; rotate_left; (focus (intro u hC; obtain ⟨y0, y1, y2, y3, y4, y5, y6, y7, _, _, _, _, _, _, _, _⟩ := full8 (keepB hC DZ.out); go_simp; try with_reducible rfl)); try go_simp)
                    refine schedC_eff rfl ?_
                    intro J hJ
                    go_wp2_with fail
                    refine (rootm_c _ Lo T l' (Lib.hid (TA.out.tr.ext Q.out))).mono ?_
                    rw [← HZ.out]
                    unfold digV
                    rintro e v9 ⟨rfl, hb⟩
                    have Q2 : Hid (Below Y.heap.size Y v9) := Lib.hid (ext_trans Q.out hb)
                    clear hb Q
                    go_wp2_with fail
                    refine ⟨Q2.out, ?_⟩
                    refine schedC_pure (v := .bool false) rfl (by rfl) (fun u hC => exec_run rfl rfl rfl (G1 _ _ u) (E1 u)) ?_
                    try go_simp
                    iterate 4 (refine schedC_pure (v := ?_) rfl (by rfl) ?_ ?_; rotate_left; (focus (intro u hC; go_simp; try with_reducible rfl)); try go_simp)
                    refine schedC_eff rfl ?_
                    intro J hJ
                    go_wp2_with fail
                    refine (len_c _ Lo T l' (Lib.hid (TA.out.tr.ext Q2.out))).mono ?_
                    rw [HLl.out]
                    rintro e v10 ⟨rfl, rfl⟩
                    go_wp2_with fail
                    refine ⟨Q2.out, ?_⟩
                    iterate 2 (refine schedC_pure (v := ?_) rfl (by rfl) ?_ ?_; rotate_left; (focus (intro u hC; go_simp; try with_reducible rfl)); try go_simp)
                    refine schedC_nil (hJ0 _ _ ?_)
                    clear hJ0 E1 G1
                    replace TA := Lib.hid (TA.out.ext Q2.out)
                    replace O := Lib.hid (O.out.ext Q2.out)
                    replace B := Lib.hid (ext_trans B.out Q2.out)
                    have hHi9 : Hi ≤ v10.heap.size := by have := Q2.out.size; omega
                    clear Q2
                    go_wp2_with fail
                    exact ⟨⟨k + 1, l', by omega, by go_num, hHi9, HLl.out, TA.out, O.out, B.out⟩, by simp [intOf]; omega⟩
                  · go_upto_region 13 with fail
                    refine wp_region_schedC (fun u => u.cell? ⟨bn, on + k, none⟩ = some (.int .u16 x)) [(true, 0), (true, 1), (true, 2), (true, 3), (true, 4), (true, 5), (true, 6), (true, 7), (true, 8), (true, 9), (true, 10), (true, 11), (false, 12), (false, 13)] (by kernel_rfl) rfl (by kernel_rfl) (by kernel_rfl) (fun _ _ d _ _ h => by cases d <;> exact h) CN.out ?_
                    intro J0 hJ0
                    iterate 4 (refine schedC_pure (v := ?_) rfl (by rfl) ?_ ?_; rotate_left; (focus (intro u hC; go_simp; try with_reducible rfl)); try go_simp)
                    refine schedC_pure (v := .int .u8 (byt y 0)) rfl (by rfl) (fun u hC => by go_simp) ?_
                    try go_simp
                    iterate 4 (refine schedC_pure (v := ?_) rfl (by rfl) ?_ ?_; rotate_left; (focus (intro u hC; go_simp; try with_reducible rfl)); try go_simp)
                    refine schedC_pure (v := .int .u16 (byt y 1)) rfl (by rfl) (fun u hC => by go_simp) ?_
                    try go_simp
                    refine schedC_pure (v := .int .u8 (byt y 1)) rfl (by rfl) (fun u hC => by go_simp) ?_
                    try go_simp
                    iterate 1 (refine schedC_pure (v := ?_) rfl (by rfl) ?_ ?_; rotate_left; (focus (intro u hC; go_simp; try with_reducible rfl)); try go_simp)
                    rw [HCY.out]
                    have bnl : bn < wr.drew.heap.size := Nat.lt_of_lt_of_le hbn (Nat.le_trans (Nat.le_trans LoW (Nat.le_trans LoHi hHi)) (Nat.le_refl wr.heap.size))
                    have HC2 : Hid (wr.drew.cell? ⟨bn, on + k, none⟩ = some (.int .u16 x)) := CN.out
                    have hHiV : Hi ≤ wr.drew.heap.size := hHi
                    replace TA : Hid (TrIn wr.drew Lo Hi T l') := TA.out.ext (ext_drew wr)
                    replace O : Hid (OwnD wr.drew 26 w.heap.size (some ⟨b, 0, none⟩) m c1 l') := O.out.ext (ext_drew wr)
                    replace B : Hid (Below w.heap.size w wr.drew) := ext_trans B.out (ext_drew wr)
                    clear CN cp1
                    generalize wr.drew = V at *
                    refine schedC_eff rfl ?_
                    intro J hJ
                    go_wp2_with fail
                    refine ⟨by first | exact ((ext_alloc V _).cell (p := ⟨bn, on + k, none⟩) bnl).trans HC2.out | exact HC2.out, ?_⟩
                    refine schedC_eff rfl ?_
                    intro J2 hJ2
                    go_wp2_with fail
                    refine ⟨by first | exact ((ext_alloc V _).cell (p := ⟨bn, on + k, none⟩) bnl).trans HC2.out | exact HC2.out, ?_⟩
                    refine schedC_nil (hJ0 _ _ ?_)
                    obtain ⟨gx, hgx⟩ : ∃ g, g = V.heap.size := ⟨_, rfl⟩
                    obtain ⟨U, hU⟩ : ∃ U, U = World.alloc V (.cells #[.int .u8 (byt y 0), .int .u8 (byt y 1), .int .u8 (byt y 2), .int .u8 (byt y 3), .int .u8 (byt y 4), .int .u8 (byt y 5), .int .u8 (byt y 6), .int .u8 (byt y 7)] 26) := ⟨_, rfl⟩
                    have DX : Hid (U.heap[gx]? = some (.cells #[.int .u8 (byt y 0), .int .u8 (byt y 1), .int .u8 (byt y 2), .int .u8 (byt y 3), .int .u8 (byt y 4), .int .u8 (byt y 5), .int .u8 (byt y 6), .int .u8 (byt y 7)] 26 (0, 0))) := by rw [hU, hgx]; exact Go.heap_alloc_new V _
                    have BU : Hid (Below V.heap.size V U) := by rw [hU]; exact ext_alloc V _
                    rw [← hgx, ← hU]
                    clear hJ0 HC2 hU
                    replace TA := Lib.hid (TA.out.ext BU.out)
                    replace O := Lib.hid (O.out.ext BU.out)
                    replace B := Lib.hid (ext_trans B.out BU.out)
                    have hHiU : Hi ≤ U.heap.size := by have := BU.out.size; omega
                    have gxH : Hi ≤ gx := by rw [hgx]; exact hHiV
                    have gxU : gx < U.heap.size := (Array.getElem?_eq_some_iff.1 DX.out).1
                    clear BU hgx hHiV bnl
                    obtain ⟨d0, d1, d2, d3, d4, d5, d6, d7, _, _, _, _, _, _, _, _⟩ := full8 DX.out
                    go_wp2_with fail
                    rw [← show digV y = .agg #[.int .u8 (byt y 0), .int .u8 (byt y 1), .int .u8 (byt y 2), .int .u8 (byt y 3), .int .u8 (byt y 4), .int .u8 (byt y 5), .int .u8 (byt y 6), .int .u8 (byt y 7)] from rfl]

                    refine (set_no _ Lo T l' pv y (Lib.hid TA.out.tr) (by rw [HLl.out]; exact hin)).mono ?_
                    rintro e w4 ⟨rfl, hb⟩
                    replace TA := Lib.hid (TA.out.ext hb)
                    replace O := Lib.hid (O.out.ext hb)
                    replace B := Lib.hid (ext_trans B.out hb)
                    have hHi4 : Hi ≤ w4.heap.size := by have := hb.size; omega
                    clear hb d0 d1 d2 d3 d4 d5 d6 d7 DX hHiU gxH gxU

                    go_wp2_with fail
                    refine (plain_c _ (some ⟨b, 0, none⟩) m c1 l' (Lib.hid O.out.rd) (by omega)).mono ?_
                    rintro e w5 ⟨A5, c5, rfl, hO, hb⟩
                    have R5 := Lib.hid hO.rd
                    replace TA := Lib.hid (TA.out.ext hb)
                    replace O := Lib.hid (O.out.ext hb)
                    replace B := Lib.hid (ext_trans B.out hb)
                    have hHi5 : Hi ≤ w5.heap.size := by have := hb.size; omega
                    clear hO hb
                    obtain ⟨z, hz⟩ : ∃ z, z = treeN l' (hgt l'.length) := ⟨_, rfl⟩
                    have HZ := Lib.hid hz
                    have HRV : Hid (rootV l' = (z, 0)) := by show _ = _; rw [hz]; exact rootV_ok TA.out.n1 TA.out.n2
                    have lz : z < 18446744073709551616 := by rw [hz]; exact treeN_lt TA.out.small _
                    clear hz
                    go_wp2_with fail
                    refine (rroot_c _ A5 m c5 l' R5).mono ?_
                    rw [HRV.out]
                    unfold digV
                    rintro e w6 ⟨rfl, hb⟩
                    replace TA := Lib.hid (TA.out.ext hb)
                    replace O := Lib.hid (O.out.ext hb)
                    replace B := Lib.hid (ext_trans B.out hb)
                    have hHi6 : Hi ≤ w6.heap.size := by have := hb.size; omega
                    clear hb R5 hHi5
                    go_upto_region 21 with fail
                    obtain ⟨gz, hgz⟩ : ∃ g, g = w6.heap.size := ⟨_, rfl⟩
                    obtain ⟨Y, hY⟩ : ∃ Y, Y = World.alloc w6 (.cells #[.int .u8 (byt z 0), .int .u8 (byt z 1), .int .u8 (byt z 2), .int .u8 (byt z 3), .int .u8 (byt z 4), .int .u8 (byt z 5), .int .u8 (byt z 6), .int .u8 (byt z 7)] 25) := ⟨_, rfl⟩
                    have DZ : Hid (Y.heap[gz]? = some (.cells #[.int .u8 (byt z 0), .int .u8 (byt z 1), .int .u8 (byt z 2), .int .u8 (byt z 3), .int .u8 (byt z 4), .int .u8 (byt z 5), .int .u8 (byt z 6), .int .u8 (byt z 7)] 25 (0, 0))) := by rw [hY, hgz]; exact Go.heap_alloc_new w6 _
                    replace TA : Hid (TrIn Y Lo Hi T l') := by rw [hY]; exact TA.out.ext (ext_alloc _ _)
                    replace O : Hid (OwnD Y 26 w.heap.size (some ⟨b, 0, none⟩) m c1 l') := by rw [hY]; exact O.out.ext (ext_alloc _ _)
                    replace B : Hid (Below w.heap.size w Y) := by rw [hY]; exact ext_trans B.out (ext_alloc _ _)
                    have hHiY : Hi ≤ Y.heap.size := by rw [hY]; have := (ext_alloc w6 (.cells #[.int .u8 (byt z 0), .int .u8 (byt z 1), .int .u8 (byt z 2), .int .u8 (byt z 3), .int .u8 (byt z 4), .int .u8 (byt z 5), .int .u8 (byt z 6), .int .u8 (byt z 7)] 25)).size; omega
                    rw [← hY, ← hgz]
                    clear hY hgz hHi6
                    have E1 := neq_d lz lz
                    rw [decide_eq_true rfl, Bool.not_true] at E1
                    have G1 := guard_d .neq z z
                    unfold digV at E1 G1
                    refine wp_region_schedC (fun u => Below Y.heap.size Y u) [(true, 0), (true, 2), (false, 1), (true, 3), (true, 4), (true, 5), (true, 7), (true, 8), (false, 6), (true, 9), (true, 10)] (by kernel_rfl) rfl (by kernel_rfl) (by kernel_rfl) (fun _ _ d _ _ h => by cases d <;> exact h) (ext_drew Y) ?_
                    intro J0 hJ0
                    have Q : Hid (Below Y.heap.size Y Y.drew) := ext_drew Y
                    iterate 2 (refine schedC_pure (v := ?_) rfl (by rfl) ?_ ?_; rotate_left; (focus (intro u hC; obtain ⟨y0, y1, y2, y3, y4, y5, y6, y7, _, _, _, _, _, _, _, _⟩ := full8 (keepB hC DZ.out); go_simp; try with_reducible rfl)); try go_simp)
                    refine schedC_eff rfl ?_
                    intro J hJ
                    go_wp2_with fail
                    refine (rootm_c _ Lo T l' (Lib.hid (TA.out.tr.ext Q.out))).mono ?_
                    rw [← HZ.out]
                    unfold digV
                    rintro e v9 ⟨rfl, hb⟩
                    have Q2 : Hid (Below Y.heap.size Y v9) := Lib.hid (ext_trans Q.out hb)
                    clear hb Q
                    go_wp2_with fail
                    refine ⟨Q2.out, ?_⟩
                    refine schedC_pure (v := .bool false) rfl (by rfl) (fun u hC => exec_run rfl rfl rfl (G1 _ _ u) (E1 u)) ?_
                    try go_simp
                    iterate 4 (refine schedC_pure (v := ?_) rfl (by rfl) ?_ ?_; rotate_left; (focus (intro u hC; go_simp; try with_reducible rfl)); try go_simp)
                    refine schedC_eff rfl ?_
                    intro J hJ
                    go_wp2_with fail
                    refine (len_c _ Lo T l' (Lib.hid (TA.out.tr.ext Q2.out))).mono ?_
                    rw [HLl.out]
                    rintro e v10 ⟨rfl, rfl⟩
                    go_wp2_with fail
                    refine ⟨Q2.out, ?_⟩
                    iterate 2 (refine schedC_pure (v := ?_) rfl (by rfl) ?_ ?_; rotate_left; (focus (intro u hC; go_simp; try with_reducible rfl)); try go_simp)
                    refine schedC_nil (hJ0 _ _ ?_)
                    clear hJ0 E1 G1
                    replace TA := Lib.hid (TA.out.ext Q2.out)
                    replace O := Lib.hid (O.out.ext Q2.out)
                    replace B := Lib.hid (ext_trans B.out Q2.out)
                    have hHi9 : Hi ≤ v10.heap.size := by have := Q2.out.size; omega
                    clear Q2
                    go_wp2_with fail
                    exact ⟨⟨k + 1, l', by omega, by go_num, hHi9, HLl.out, TA.out, O.out, B.out⟩, by simp [intOf]; omega⟩
              · obtain ⟨r3, hr3⟩ : ∃ r, r = k % 3 := ⟨_, rfl⟩
                have w3 : (k : Int) % 3 = (r3 : Int) := by omega
                have w4 : (k : Int).tmod 3 = (r3 : Int) := by rw [Int.tmod_eq_emod_of_nonneg (by omega)]; exact w3
                have w5 : IntKind.i64.wrap (r3 : Int) = (r3 : Int) := by rw [IntKind.wrap_i64]; omega
                have w6 : ¬ (r3 : Int) = 0 := by omega
                obtain ⟨a, ha⟩ : ∃ a : Nat, IntKind.u64.wrap pv = (a : Int) := ⟨(IntKind.u64.wrap pv).toNat, by have := wrap_u64_nonneg pv; omega⟩
                obtain ⟨r, hr⟩ : ∃ r, r = a % m := ⟨_, rfl⟩
                have lr : r < m := by rw [hr]; exact Nat.mod_lt _ (by omega)
                have v2 : IntKind.u64.wrap (m : Int) = (m : Int) := by simp [IntKind.wrap, IntKind.bits, IntKind.signed]; omega
                have v3 : (a : Int) % (m : Int) = (r : Int) := by rw [hr]; exact (Int.natCast_emod _ _).symm
                have v4 : (a : Int).tmod (m : Int) = (r : Int) := by rw [Int.tmod_eq_emod_of_nonneg (by omega)]; exact v3
                have v5 : IntKind.i64.wrap (r : Int) = (r : Int) := by rw [IntKind.wrap_i64]; omega
                clear hr hr3
                go_upto_region 13 with fail
                refine wp_region_schedC (fun u => u.cell? ⟨bn, on + k, none⟩ = some (.int .u16 x)) [(true, 0), (true, 1), (true, 2), (true, 3), (true, 4), (true, 5), (true, 6), (true, 7), (true, 8), (true, 9), (true, 10), (true, 11), (false, 12), (false, 13)] (by kernel_rfl) rfl (by kernel_rfl) (by kernel_rfl) (fun _ _ d _ _ h => by cases d <;> exact h) CN.out ?_
                intro J0 hJ0
                iterate 4 (refine schedC_pure (v := ?_) rfl (by rfl) ?_ ?_; rotate_left; (focus (intro u hC; go_simp; try with_reducible rfl)); try go_simp)
                refine schedC_pure (v := .int .u8 (byt y 0)) rfl (by rfl) (fun u hC => by go_simp) ?_
                try go_simp
                iterate 4 (refine schedC_pure (v := ?_) rfl (by rfl) ?_ ?_; rotate_left; (focus (intro u hC; go_simp; try with_reducible rfl)); try go_simp)
                refine schedC_pure (v := .int .u16 (byt y 1)) rfl (by rfl) (fun u hC => by go_simp) ?_
                try go_simp
                refine schedC_pure (v := .int .u8 (byt y 1)) rfl (by rfl) (fun u hC => by go_simp) ?_
                try go_simp
                iterate 1 (refine schedC_pure (v := ?_) rfl (by rfl) ?_ ?_; rotate_left; (focus (intro u hC; go_simp; try with_reducible rfl)); try go_simp)
                rw [HCY.out]
                have bnl : bn < wr.drew.heap.size := Nat.lt_of_lt_of_le hbn (Nat.le_trans (Nat.le_trans LoW (Nat.le_trans LoHi hHi)) (Nat.le_refl wr.heap.size))
                have HC2 : Hid (wr.drew.cell? ⟨bn, on + k, none⟩ = some (.int .u16 x)) := CN.out
                have hHiV : Hi ≤ wr.drew.heap.size := hHi
                replace TA : Hid (TrIn wr.drew Lo Hi T l') := TA.out.ext (ext_drew wr)
                replace O : Hid (OwnD wr.drew 26 w.heap.size (some ⟨b, 0, none⟩) m c1 l') := O.out.ext (ext_drew wr)
                replace B : Hid (Below w.heap.size w wr.drew) := ext_trans B.out (ext_drew wr)
                clear CN cp1
                generalize wr.drew = V at *
                refine schedC_eff rfl ?_
                intro J hJ
                go_wp2_with fail
                refine ⟨by first | exact ((ext_alloc V _).cell (p := ⟨bn, on + k, none⟩) bnl).trans HC2.out | exact HC2.out, ?_⟩
                refine schedC_eff rfl ?_
                intro J2 hJ2
                go_wp2_with fail
                refine ⟨by first | exact ((ext_alloc V _).cell (p := ⟨bn, on + k, none⟩) bnl).trans HC2.out | exact HC2.out, ?_⟩
                refine schedC_nil (hJ0 _ _ ?_)
                obtain ⟨gx, hgx⟩ : ∃ g, g = V.heap.size := ⟨_, rfl⟩
                obtain ⟨U, hU⟩ : ∃ U, U = World.alloc V (.cells #[.int .u8 (byt y 0), .int .u8 (byt y 1), .int .u8 (byt y 2), .int .u8 (byt y 3), .int .u8 (byt y 4), .int .u8 (byt y 5), .int .u8 (byt y 6), .int .u8 (byt y 7)] 26) := ⟨_, rfl⟩
                have DX : Hid (U.heap[gx]? = some (.cells #[.int .u8 (byt y 0), .int .u8 (byt y 1), .int .u8 (byt y 2), .int .u8 (byt y 3), .int .u8 (byt y 4), .int .u8 (byt y 5), .int .u8 (byt y 6), .int .u8 (byt y 7)] 26 (0, 0))) := by rw [hU, hgx]; exact Go.heap_alloc_new V _
                have BU : Hid (Below V.heap.size V U) := by rw [hU]; exact ext_alloc V _
                rw [← hgx, ← hU]
                clear hJ0 HC2 hU
                replace TA := Lib.hid (TA.out.ext BU.out)
                replace O := Lib.hid (O.out.ext BU.out)
                replace B := Lib.hid (ext_trans B.out BU.out)
                have hHiU : Hi ≤ U.heap.size := by have := BU.out.size; omega
                have gxH : Hi ≤ gx := by rw [hgx]; exact hHiV
                have gxU : gx < U.heap.size := (Array.getElem?_eq_some_iff.1 DX.out).1
                clear BU hgx hHiV bnl
                obtain ⟨d0, d1, d2, d3, d4, d5, d6, d7, _, _, _, _, _, _, _, _⟩ := full8 DX.out
                go_wp2_with fail
                rw [← show digV y = .agg #[.int .u8 (byt y 0), .int .u8 (byt y 1), .int .u8 (byt y 2), .int .u8 (byt y 3), .int .u8 (byt y 4), .int .u8 (byt y 5), .int .u8 (byt y 6), .int .u8 (byt y 7)] from rfl]

                refine (set_okH _ Lo Hi T l' r y TA (by rw [HLl.out]; exact lr) ly).mono ?_
                rintro e w4 ⟨rfl, hT, hs⟩
                replace TA := Lib.hid hT
                replace O := Lib.hid (O.out.keep (hs.below.block b bLo))
                replace B := Lib.hid (B.out.trans (hs.below.mono LoW))
                replace DX := Lib.hid ((hs.rest gx gxH gxU).trans DX.out)
                have hHi4 : Hi ≤ w4.heap.size := by have := hs.below.size; omega
                clear hT hs d0 d1 d2 d3 d4 d5 d6 d7
                obtain ⟨l2, hl2⟩ : ∃ l2, l2 = l'.set r y := ⟨_, rfl⟩
                have HL2 := Lib.hid hl2
                have HLl2 : Hid (l2.length = m) := by show _ = _; rw [hl2, List.length_set]; exact HLl.out
                rw [← hl2] at TA
                clear hl2
                obtain ⟨y0, y1, y2, y3, y4, y5, y6, y7, p0, p1, p2, p3, p4, p5, p6, p7, q0, q1, q2, q3, q4, q5, q6, q7⟩ := O.out.rowK.1.place (j := r) (by omega)
                obtain ⟨a0, a1, a2, a3, a4, a5, a6, a7, _, _, _, _, _, _, _, _⟩ := full8 DX.out
                have rI : (r : Int) < (m : Int) := by omega
                have rI0 : (0 : Int) ≤ (r : Int) := by omega
                go_upto_region 20 with fail
                obtain ⟨U2, hU2⟩ : ∃ U2, U2 = (World.setCell (World.setCell (World.setCell (World.setCell (World.setCell (World.setCell (World.setCell (World.setCell w4 ⟨b, r * 8, none⟩ (.int .u8 (byt y 0))) ⟨b, r * 8 + 1, none⟩ (.int .u8 (byt y 1))) ⟨b, r * 8 + 2, none⟩ (.int .u8 (byt y 2))) ⟨b, r * 8 + 3, none⟩ (.int .u8 (byt y 3))) ⟨b, r * 8 + 4, none⟩ (.int .u8 (byt y 4))) ⟨b, r * 8 + 5, none⟩ (.int .u8 (byt y 5))) ⟨b, r * 8 + 6, none⟩ (.int .u8 (byt y 6))) ⟨b, r * 8 + 7, none⟩ (.int .u8 (byt y 7))) := ⟨_, rfl⟩
                replace TA : Hid (TrIn U2 Lo Hi T l2) := by rw [hU2]; exact TA.out.keepIn (fun k hk _ _ => put_other w4 b k r y (by omega))
                replace O : Hid (OwnD U2 26 w.heap.size (some ⟨b, 0, none⟩) m c1 l2) := by rw [hU2, HL2.out]; exact O.out.put lr ly
                replace B : Hid (Below w.heap.size w U2) := by rw [hU2]; exact below_row B.out (Nat.le_refl _) (by omega)
                have hHiU2 : Hi ≤ U2.heap.size := by rw [hU2]; exact Nat.le_trans hHi4 (below_row (x := y) (j := r) (Below.refl b w4) (by omega) (Nat.le_refl b)).size
                rw [← hU2]
                clear hU2 DX HL2 HLl y0 y1 y2 y3 y4 y5 y6 y7 p0 p1 p2 p3 p4 p5 p6 p7 q0 q1 q2 q3 q4 q5 q6 q7 a0 a1 a2 a3 a4 a5 a6 a7 hHi4 hHiU gxH gxU
                have HLl := HLl2
                clear HLl2

                go_wp2_with fail
                refine (plain_c _ (some ⟨b, 0, none⟩) m c1 l2 (Lib.hid O.out.rd) (by omega)).mono ?_
                rintro e w5 ⟨A5, c5, rfl, hO, hb⟩
                have R5 := Lib.hid hO.rd
                replace TA := Lib.hid (TA.out.ext hb)
                replace O := Lib.hid (O.out.ext hb)
                replace B := Lib.hid (ext_trans B.out hb)
                have hHi5 : Hi ≤ w5.heap.size := by have := hb.size; omega
                clear hO hb
                obtain ⟨z, hz⟩ : ∃ z, z = treeN l2 (hgt l2.length) := ⟨_, rfl⟩
                have HZ := Lib.hid hz
                have HRV : Hid (rootV l2 = (z, 0)) := by show _ = _; rw [hz]; exact rootV_ok TA.out.n1 TA.out.n2
                have lz : z < 18446744073709551616 := by rw [hz]; exact treeN_lt TA.out.small _
                clear hz
                go_wp2_with fail
                refine (rroot_c _ A5 m c5 l2 R5).mono ?_
                rw [HRV.out]
                unfold digV
                rintro e w6 ⟨rfl, hb⟩
                replace TA := Lib.hid (TA.out.ext hb)
                replace O := Lib.hid (O.out.ext hb)
                replace B := Lib.hid (ext_trans B.out hb)
                have hHi6 : Hi ≤ w6.heap.size := by have := hb.size; omega
                clear hb R5 hHi5
                go_upto_region 21 with fail
                obtain ⟨gz, hgz⟩ : ∃ g, g = w6.heap.size := ⟨_, rfl⟩
                obtain ⟨Y, hY⟩ : ∃ Y, Y = World.alloc w6 (.cells #[.int .u8 (byt z 0), .int .u8 (byt z 1), .int .u8 (byt z 2), .int .u8 (byt z 3), .int .u8 (byt z 4), .int .u8 (byt z 5), .int .u8 (byt z 6), .int .u8 (byt z 7)] 25) := ⟨_, rfl⟩
                have DZ : Hid (Y.heap[gz]? = some (.cells #[.int .u8 (byt z 0), .int .u8 (byt z 1), .int .u8 (byt z 2), .int .u8 (byt z 3), .int .u8 (byt z 4), .int .u8 (byt z 5), .int .u8 (byt z 6), .int .u8 (byt z 7)] 25 (0, 0))) := by rw [hY, hgz]; exact Go.heap_alloc_new w6 _
                replace TA : Hid (TrIn Y Lo Hi T l2) := by rw [hY]; exact TA.out.ext (ext_alloc _ _)
                replace O : Hid (OwnD Y 26 w.heap.size (some ⟨b, 0, none⟩) m c1 l2) := by rw [hY]; exact O.out.ext (ext_alloc _ _)
                replace B : Hid (Below w.heap.size w Y) := by rw [hY]; exact ext_trans B.out (ext_alloc _ _)
                have hHiY : Hi ≤ Y.heap.size := by rw [hY]; have := (ext_alloc w6 (.cells #[.int .u8 (byt z 0), .int .u8 (byt z 1), .int .u8 (byt z 2), .int .u8 (byt z 3), .int .u8 (byt z 4), .int .u8 (byt z 5), .int .u8 (byt z 6), .int .u8 (byt z 7)] 25)).size; omega
                rw [← hY, ← hgz]
                clear hY hgz hHi6
                have E1 := neq_d lz lz
                rw [decide_eq_true rfl, Bool.not_true] at E1
                have G1 := guard_d .neq z z
                unfold digV at E1 G1
                refine wp_region_schedC (fun u => Below Y.heap.size Y u) [(true, 0), (true, 2), (false, 1), (true, 3), (true, 4), (true, 5), (true, 7), (true, 8), (false, 6), (true, 9), (true, 10)] (by kernel_rfl) rfl (by kernel_rfl) (by kernel_rfl) (fun _ _ d _ _ h => by cases d <;> exact h) (ext_drew Y) ?_
                intro J0 hJ0
                have Q : Hid (Below Y.heap.size Y Y.drew) := ext_drew Y
                iterate 2 (refine schedC_pure (v := ?_) rfl (by rfl) ?_ ?_; rotate_left; (focus (intro u hC; obtain ⟨y0, y1, y2, y3, y4, y5, y6, y7, _, _, _, _, _, _, _, _⟩ := full8 (keepB hC DZ.out); go_simp; try with_reducible rfl)); try go_simp)
                refine schedC_eff rfl ?_
                intro J hJ
                go_wp2_with fail
                refine (rootm_c _ Lo T l2 (Lib.hid (TA.out.tr.ext Q.out))).mono ?_
                rw [← HZ.out]
                unfold digV
                rintro e v9 ⟨rfl, hb⟩
                have Q2 : Hid (Below Y.heap.size Y v9) := Lib.hid (ext_trans Q.out hb)
                clear hb Q
                go_wp2_with fail
                refine ⟨Q2.out, ?_⟩
                refine schedC_pure (v := .bool false) rfl (by rfl) (fun u hC => exec_run rfl rfl rfl (G1 _ _ u) (E1 u)) ?_
                try go_simp
                iterate 4 (refine schedC_pure (v := ?_) rfl (by rfl) ?_ ?_; rotate_left; (focus (intro u hC; go_simp; try with_reducible rfl)); try go_simp)
                refine schedC_eff rfl ?_
                intro J hJ
                go_wp2_with fail
                refine (len_c _ Lo T l2 (Lib.hid (TA.out.tr.ext Q2.out))).mono ?_
                rw [HLl.out]
                rintro e v10 ⟨rfl, rfl⟩
                go_wp2_with fail
                refine ⟨Q2.out, ?_⟩
                iterate 2 (refine schedC_pure (v := ?_) rfl (by rfl) ?_ ?_; rotate_left; (focus (intro u hC; go_simp; try with_reducible rfl)); try go_simp)
                refine schedC_nil (hJ0 _ _ ?_)
                clear hJ0 E1 G1
                replace TA := Lib.hid (TA.out.ext Q2.out)
                replace O := Lib.hid (O.out.ext Q2.out)
                replace B := Lib.hid (ext_trans B.out Q2.out)
                have hHi9 : Hi ≤ v10.heap.size := by have := Q2.out.size; omega
                clear Q2
                go_wp2_with fail
                exact ⟨⟨k + 1, l2, by omega, by go_num, hHi9, HLl.out, TA.out, O.out, B.out⟩, by simp [intOf]; omega⟩
            · have g3I : ¬ (k : Int) < 12 := by omega
              go_wp2_with fail
              go_meet
              exact ⟨l', HLl, TA, O, B⟩
          · have g2I : ¬ (k : Int) < (nn : Int) := by omega
            go_wp2_with fail
            go_meet
            exact ⟨l', HLl, TA, O, B⟩
        · have g1I : ¬ (k : Int) < (np : Int) := by omega
          go_wp2_with fail
          go_meet
          exact ⟨l', HLl, TA, O, B⟩
    case rest =>
      obtain ⟨l', HLl, TA, O, B⟩ := hcut
      have TT := Lib.hid TA.out.tr
      have RO := Lib.hid O.out.rd
      clear TA O
      go_wp2_with fail
      go_loopw [17] (fun iv wq => ∃ (k2 : Nat) (j : Int), k2 ≤ m + 2 ∧ Hid (j = (k2 : Int) - 1) ∧ iv = .int .i64 j ∧ Hid (TrAt wq Lo T l') ∧ Hid (RdD wq (some ⟨b, 0, none⟩) m c1 l') ∧ Hid (Below w.heap.size w wq)) (fun iv _ => m + 2 - (intOf iv + 1).toNat)
      case atStart => exact ⟨0, -1, by omega, by show _ = _; omega, rfl, TT.out, RO.out, B.out⟩
      case round =>
        clear TT RO B
        obtain ⟨k2, j, hk2, hj, rfl, TT, RO, B⟩ := hrel
        have hj1 : -1 ≤ j := by have := hj.out; omega
        have hj2 : j ≤ (m : Int) + 1 := by have := hj.out; omega
        by_cases hlt : j ≤ (m : Int)
        · have jn : IntKind.i64.wrap (j + 1) = j + 1 := by rw [IntKind.wrap_i64]; omega
          obtain ⟨xs, hxs⟩ : ∃ xs, xs = (pathV l' j).1 := ⟨_, rfl⟩
          obtain ⟨er, her⟩ : ∃ er, er = (pathV l' j).2 := ⟨_, rfl⟩
          have HX := Lib.hid hxs
          have HE := Lib.hid her
          obtain ⟨pl, hpl⟩ : ∃ pl, pl = xs.length := ⟨_, rfl⟩
          have HPL := Lib.hid hpl
          have pl12 : pl ≤ 12 := by rw [hpl, hxs]; exact pathV_len2 l' j
          clear hxs her hpl
          go_wp2_with fail
          refine (pathm_c _ Lo T l' j TT).mono ?_
          rw [← HX.out, ← HE.out]
          unfold Paths
          rw [← HPL.out]
          rintro e w2 ⟨A2, c2, rfl, hO2, hb⟩
          replace TT := Lib.hid (TT.out.ext hb)
          replace RO := Lib.hid (RO.out.ext hb)
          replace B := Lib.hid (ext_trans B.out hb)
          have P2 := Lib.hid hO2.rd
          clear hO2 hb
          go_wp2_with fail
          refine (plain_c _ (some ⟨b, 0, none⟩) m c1 l' RO (by omega)).mono ?_
          rintro e w3 ⟨A3, c3, rfl, hO, hb⟩
          replace TT := Lib.hid (TT.out.ext hb)
          replace RO := Lib.hid (RO.out.ext hb)
          replace B := Lib.hid (ext_trans B.out hb)
          replace P2 := Lib.hid (P2.out.ext hb)
          have R3 := Lib.hid hO.rd
          clear hO hb
          go_wp2_with fail
          refine (rpath_c _ A3 m c3 l' j R3).mono ?_
          rw [← HX.out, ← HE.out]
          unfold PathsR
          rw [← HPL.out]
          rintro e w4 ⟨A4, c4, rfl, hO, hb⟩
          replace TT := Lib.hid (TT.out.ext hb)
          replace RO := Lib.hid (RO.out.ext hb)
          replace B := Lib.hid (ext_trans B.out hb)
          replace P2 := Lib.hid (P2.out.ext hb)
          have P4 := Lib.hid hO.rd
          clear hO hb R3 HX HE HPL
          go_wp2_with fail
          by_cases hin : 0 ≤ j ∧ j < (m : Int)
          · obtain ⟨r, rfl⟩ : ∃ r : Nat, j = (r : Int) := ⟨j.toNat, by omega⟩
            have lr : r < m := by omega
            have rI : (r : Int) < (m : Int) := by omega
            have rI0 : (0 : Int) ≤ (r : Int) := by omega
            obtain ⟨d, hd⟩ : ∃ d, d = l'.getD r 0 := ⟨_, rfl⟩
            have HD := Lib.hid hd
            have ld : d < 18446744073709551616 := by rw [hd]; exact small_getD TT.out.small _
            clear hd hin
            refine (leaf_ok _ Lo T l' r TT (by rw [HLl.out]; exact lr)).mono ?_
            rw [← HD.out]
            unfold digV
            rintro e w5 ⟨rfl, hb⟩
            replace TT := Lib.hid (TT.out.ext hb)
            replace RO := Lib.hid (RO.out.ext hb)
            replace B := Lib.hid (ext_trans B.out hb)

            replace P2 := Lib.hid (P2.out.ext hb)
            replace P4 := Lib.hid (P4.out.ext hb)
            clear hb

            go_upto_region 30 with fail
            obtain ⟨gd, hgd⟩ : ∃ g, g = w5.heap.size := ⟨_, rfl⟩
            obtain ⟨U, hU⟩ : ∃ U, U = World.alloc w5 (.cells #[.int .u8 (byt d 0), .int .u8 (byt d 1), .int .u8 (byt d 2), .int .u8 (byt d 3), .int .u8 (byt d 4), .int .u8 (byt d 5), .int .u8 (byt d 6), .int .u8 (byt d 7)] 26) := ⟨_, rfl⟩
            have DD : Hid (U.heap[gd]? = some (.cells #[.int .u8 (byt d 0), .int .u8 (byt d 1), .int .u8 (byt d 2), .int .u8 (byt d 3), .int .u8 (byt d 4), .int .u8 (byt d 5), .int .u8 (byt d 6), .int .u8 (byt d 7)] 26 (0, 0))) := by rw [hU, hgd]; exact Go.heap_alloc_new w5 _
            replace TT : Hid (TrAt U Lo T l') := by rw [hU]; exact TT.out.ext (ext_alloc _ _)
            replace RO : Hid (RdD U (some ⟨b, 0, none⟩) m c1 l') := by rw [hU]; exact RO.out.ext (ext_alloc _ _)
            replace P2 : Hid (RdD U A2 pl c2 xs) := by rw [hU]; exact P2.out.ext (ext_alloc _ _)
            replace P4 : Hid (RdD U A4 pl c4 xs) := by rw [hU]; exact P4.out.ext (ext_alloc _ _)
            replace B : Hid (Below w.heap.size w U) := by rw [hU]; exact ext_trans B.out (ext_alloc _ _)
            rw [← hU, ← hgd]
            clear hU hgd

            have CO : Hid (U.cell? ⟨b, r * 8, none⟩ = some (.int .u8 (byt d 0)) ∧ U.cell? ⟨b, r * 8 + 1, none⟩ = some (.int .u8 (byt d 1)) ∧ U.cell? ⟨b, r * 8 + 2, none⟩ = some (.int .u8 (byt d 2)) ∧ U.cell? ⟨b, r * 8 + 3, none⟩ = some (.int .u8 (byt d 3)) ∧ U.cell? ⟨b, r * 8 + 4, none⟩ = some (.int .u8 (byt d 4)) ∧ U.cell? ⟨b, r * 8 + 5, none⟩ = some (.int .u8 (byt d 5)) ∧ U.cell? ⟨b, r * 8 + 6, none⟩ = some (.int .u8 (byt d 6)) ∧ U.cell? ⟨b, r * 8 + 7, none⟩ = some (.int .u8 (byt d 7))) := by
              obtain ⟨b1, o1, hA1, _, hc⟩ := RO.out.at lr
              injection hA1 with hA1
              injection hA1 with e1 e2 _
              subst e1 e2
              rw [← HD.out] at hc
              simp only [Nat.zero_add] at hc
              exact hc
            have bU : b < U.heap.size := by
              obtain ⟨b1, o1, hA1, q, _⟩ := RO.out.at lr
              injection hA1 with hA1
              injection hA1 with e1 e2 _
              subst e1
              exact q
            have E1 := neq_d ld ld
            rw [decide_eq_true rfl, Bool.not_true] at E1
            have G1 := guard_d .neq d d
            unfold digV at E1 G1

            refine wp_region_schedC (fun u => Below U.heap.size U u) [(true, 0), (true, 1), (true, 2), (true, 3), (true, 4), (true, 6), (false, 5), (false, 7), (true, 8), (true, 9), (true, 10), (true, 11), (true, 12), (true, 13), (true, 14), (true, 15), (true, 16), (true, 17), (true, 18), (true, 19), (true, 20), (true, 21), (true, 22), (true, 23), (true, 24), (true, 25)] (by kernel_rfl) rfl (by kernel_rfl) (by kernel_rfl) (fun _ _ d _ _ h => by cases d <;> exact h) (ext_drew U) ?_
            intro J0 hJ0
            have Q : Hid (Below U.heap.size U U.drew) := ext_drew U
            iterate 6 ((first | refine schedC_skipS rfl (by rfl) ?_ | (refine schedC_pure (v := ?_) rfl (by rfl) ?_ ?_; rotate_left; (focus (intro u hC; go_simp; try with_reducible rfl)))); try go_simp)
            refine schedC_eff rfl ?_
            intro J hJ
            go_wp2_with fail
            refine (plain_c _ A2 pl c2 xs (Lib.hid (P2.out.ext Q.out)) (by omega)).mono ?_
            rintro e v5 ⟨A5, c5, rfl, hO, hb⟩
            have P5 := Lib.hid hO.rd
            have Q2 : Hid (Below U.heap.size U v5) := Lib.hid (ext_trans Q.out hb)
            clear hO hb Q
            go_wp2_with fail
            refine ⟨Q2.out, ?_⟩
            refine schedC_eff rfl ?_
            intro J2 hJ2
            go_wp2_with fail
            refine (rsame_c _ A5 pl c5 xs A4 pl c4 xs P5 (Lib.hid (P4.out.ext Q2.out))).mono ?_
            rw [decide_eq_true rfl]
            rintro e v6 ⟨rfl, hb⟩
            have Q3 : Hid (Below U.heap.size U v6) := Lib.hid (ext_trans Q2.out hb)
            clear hb Q2 P5
            go_wp2_with fail
            refine ⟨Q3.out, ?_⟩

            iterate 15 ((first | refine schedC_skipS rfl (by rfl) ?_ | (refine schedC_pure (v := ?_) rfl (by rfl) ?_ ?_; rotate_left; (focus (intro u hC; obtain ⟨e0, e1, e2, e3, e4, e5, e6, e7, _, _, _, _, _, _, _, _⟩ := full8 (keepB hC DD.out); have c0 := (hC.cell (p := ⟨b, r * 8, none⟩) bU).trans CO.out.1; have c1 := (hC.cell (p := ⟨b, r * 8 + 1, none⟩) bU).trans CO.out.2.1; have c2 := (hC.cell (p := ⟨b, r * 8 + 2, none⟩) bU).trans CO.out.2.2.1; have c3 := (hC.cell (p := ⟨b, r * 8 + 3, none⟩) bU).trans CO.out.2.2.2.1; have c4 := (hC.cell (p := ⟨b, r * 8 + 4, none⟩) bU).trans CO.out.2.2.2.2.1; have c5 := (hC.cell (p := ⟨b, r * 8 + 5, none⟩) bU).trans CO.out.2.2.2.2.2.1; have c6 := (hC.cell (p := ⟨b, r * 8 + 6, none⟩) bU).trans CO.out.2.2.2.2.2.2.1; have c7 := (hC.cell (p := ⟨b, r * 8 + 7, none⟩) bU).trans CO.out.2.2.2.2.2.2.2; go_simp; try with_reducible rfl)))); try go_simp)
            refine schedC_pure (v := .bool false) rfl (by rfl) (fun u hC => exec_run rfl rfl rfl (G1 _ _ u) (E1 u)) ?_
            try go_simp
            iterate 2 ((first | refine schedC_skipS rfl (by rfl) ?_ | (refine schedC_pure (v := ?_) rfl (by rfl) ?_ ?_; rotate_left; (focus (intro u hC; obtain ⟨e0, e1, e2, e3, e4, e5, e6, e7, _, _, _, _, _, _, _, _⟩ := full8 (keepB hC DD.out); have c0 := (hC.cell (p := ⟨b, r * 8, none⟩) bU).trans CO.out.1; have c1 := (hC.cell (p := ⟨b, r * 8 + 1, none⟩) bU).trans CO.out.2.1; have c2 := (hC.cell (p := ⟨b, r * 8 + 2, none⟩) bU).trans CO.out.2.2.1; have c3 := (hC.cell (p := ⟨b, r * 8 + 3, none⟩) bU).trans CO.out.2.2.2.1; have c4 := (hC.cell (p := ⟨b, r * 8 + 4, none⟩) bU).trans CO.out.2.2.2.2.1; have c5 := (hC.cell (p := ⟨b, r * 8 + 5, none⟩) bU).trans CO.out.2.2.2.2.2.1; have c6 := (hC.cell (p := ⟨b, r * 8 + 6, none⟩) bU).trans CO.out.2.2.2.2.2.2.1; have c7 := (hC.cell (p := ⟨b, r * 8 + 7, none⟩) bU).trans CO.out.2.2.2.2.2.2.2; go_simp; try with_reducible rfl)))); try go_simp)
            clear E1 G1

            refine schedC_nil (hJ0 _ _ ?_)
            clear hJ0
            replace TT := Lib.hid (TT.out.ext Q3.out)
            replace RO := Lib.hid (RO.out.ext Q3.out)
            replace B := Lib.hid (ext_trans B.out Q3.out)
            clear Q3 P2 P4 DD
            go_wp2_with fail
            exact ⟨⟨k2 + 1, (r : Int) + 1, by have := hj.out; omega, by show _ = _; have := hj.out; omega, rfl, TT.out, RO.out, B.out⟩, by have h9 := hj.out; simp only [intOf]; omega⟩
          · by_cases hj0 : 0 ≤ j
            · have hjm : ¬ j < (m : Int) := by omega
              have hjd : decide (j < (m : Int)) = false := decide_eq_false hjm
              refine (leaf_no _ Lo T l' j TT (by rw [HLl.out]; exact hin)).mono ?_
              unfold digV
              rintro e w5 ⟨rfl, hb⟩
              replace TT := Lib.hid (TT.out.ext hb)
              replace RO := Lib.hid (RO.out.ext hb)
              replace B := Lib.hid (ext_trans B.out hb)

              replace P2 := Lib.hid (P2.out.ext hb)
              replace P4 := Lib.hid (P4.out.ext hb)
              clear hb

              go_upto_region 30 with fail
              obtain ⟨gd, hgd⟩ : ∃ g, g = w5.heap.size := ⟨_, rfl⟩
              obtain ⟨U, hU⟩ : ∃ U, U = World.alloc w5 (.cells #[.int .u8 (byt 0 0), .int .u8 (byt 0 1), .int .u8 (byt 0 2), .int .u8 (byt 0 3), .int .u8 (byt 0 4), .int .u8 (byt 0 5), .int .u8 (byt 0 6), .int .u8 (byt 0 7)] 26) := ⟨_, rfl⟩
              have DD : Hid (U.heap[gd]? = some (.cells #[.int .u8 (byt 0 0), .int .u8 (byt 0 1), .int .u8 (byt 0 2), .int .u8 (byt 0 3), .int .u8 (byt 0 4), .int .u8 (byt 0 5), .int .u8 (byt 0 6), .int .u8 (byt 0 7)] 26 (0, 0))) := by rw [hU, hgd]; exact Go.heap_alloc_new w5 _
              replace TT : Hid (TrAt U Lo T l') := by rw [hU]; exact TT.out.ext (ext_alloc _ _)
              replace RO : Hid (RdD U (some ⟨b, 0, none⟩) m c1 l') := by rw [hU]; exact RO.out.ext (ext_alloc _ _)
              replace P2 : Hid (RdD U A2 pl c2 xs) := by rw [hU]; exact P2.out.ext (ext_alloc _ _)
              replace P4 : Hid (RdD U A4 pl c4 xs) := by rw [hU]; exact P4.out.ext (ext_alloc _ _)
              replace B : Hid (Below w.heap.size w U) := by rw [hU]; exact ext_trans B.out (ext_alloc _ _)
              rw [← hU, ← hgd]
              clear hU hgd

              refine wp_region_schedC (fun u => Below U.heap.size U u) [(true, 0), (true, 1), (true, 2), (true, 3), (true, 4), (true, 6), (false, 5), (false, 7), (true, 8), (true, 9), (true, 10), (true, 11), (true, 12), (true, 13), (true, 14), (true, 15), (true, 16), (true, 17), (true, 18), (true, 19), (true, 20), (true, 21), (true, 22), (true, 23), (true, 24), (true, 25)] (by kernel_rfl) rfl (by kernel_rfl) (by kernel_rfl) (fun _ _ d _ _ h => by cases d <;> exact h) (ext_drew U) ?_
              intro J0 hJ0
              have Q : Hid (Below U.heap.size U U.drew) := ext_drew U
              iterate 6 ((first | refine schedC_skipS rfl (by rfl) ?_ | (refine schedC_pure (v := ?_) rfl (by rfl) ?_ ?_; rotate_left; (focus (intro u hC; go_simp; try with_reducible rfl)))); try go_simp)
              refine schedC_eff rfl ?_
              intro J hJ
              go_wp2_with fail
              refine (plain_c _ A2 pl c2 xs (Lib.hid (P2.out.ext Q.out)) (by omega)).mono ?_
              rintro e v5 ⟨A5, c5, rfl, hO, hb⟩
              have P5 := Lib.hid hO.rd
              have Q2 : Hid (Below U.heap.size U v5) := Lib.hid (ext_trans Q.out hb)
              clear hO hb Q
              go_wp2_with fail
              refine ⟨Q2.out, ?_⟩
              refine schedC_eff rfl ?_
              intro J2 hJ2
              go_wp2_with fail
              refine (rsame_c _ A5 pl c5 xs A4 pl c4 xs P5 (Lib.hid (P4.out.ext Q2.out))).mono ?_
              rw [decide_eq_true rfl]
              rintro e v6 ⟨rfl, hb⟩
              have Q3 : Hid (Below U.heap.size U v6) := Lib.hid (ext_trans Q2.out hb)
              clear hb Q2 P5
              go_wp2_with fail
              refine ⟨Q3.out, ?_⟩

              iterate 18 ((first | refine schedC_skipS rfl (by rfl) ?_ | (refine schedC_pure (v := ?_) rfl (by rfl) ?_ ?_; rotate_left; (focus (intro u hC; obtain ⟨e0, e1, e2, e3, e4, e5, e6, e7, _, _, _, _, _, _, _, _⟩ := full8 (keepB hC DD.out); go_simp; try with_reducible rfl)))); try go_simp)

              refine schedC_nil (hJ0 _ _ ?_)
              clear hJ0
              replace TT := Lib.hid (TT.out.ext Q3.out)
              replace RO := Lib.hid (RO.out.ext Q3.out)
              replace B := Lib.hid (ext_trans B.out Q3.out)
              clear Q3 P2 P4 DD
              go_wp2_with fail
              exact ⟨⟨k2 + 1, j + 1, by have := hj.out; omega, by show _ = _; have := hj.out; omega, rfl, TT.out, RO.out, B.out⟩, by have h9 := hj.out; simp only [intOf]; omega⟩
            · skip
              refine (leaf_no _ Lo T l' j TT (by rw [HLl.out]; exact hin)).mono ?_
              unfold digV
              rintro e w5 ⟨rfl, hb⟩
              replace TT := Lib.hid (TT.out.ext hb)
              replace RO := Lib.hid (RO.out.ext hb)
              replace B := Lib.hid (ext_trans B.out hb)

              replace P2 := Lib.hid (P2.out.ext hb)
              replace P4 := Lib.hid (P4.out.ext hb)
              clear hb

              go_upto_region 30 with fail
              obtain ⟨gd, hgd⟩ : ∃ g, g = w5.heap.size := ⟨_, rfl⟩
              obtain ⟨U, hU⟩ : ∃ U, U = World.alloc w5 (.cells #[.int .u8 (byt 0 0), .int .u8 (byt 0 1), .int .u8 (byt 0 2), .int .u8 (byt 0 3), .int .u8 (byt 0 4), .int .u8 (byt 0 5), .int .u8 (byt 0 6), .int .u8 (byt 0 7)] 26) := ⟨_, rfl⟩
              have DD : Hid (U.heap[gd]? = some (.cells #[.int .u8 (byt 0 0), .int .u8 (byt 0 1), .int .u8 (byt 0 2), .int .u8 (byt 0 3), .int .u8 (byt 0 4), .int .u8 (byt 0 5), .int .u8 (byt 0 6), .int .u8 (byt 0 7)] 26 (0, 0))) := by rw [hU, hgd]; exact Go.heap_alloc_new w5 _
              replace TT : Hid (TrAt U Lo T l') := by rw [hU]; exact TT.out.ext (ext_alloc _ _)
              replace RO : Hid (RdD U (some ⟨b, 0, none⟩) m c1 l') := by rw [hU]; exact RO.out.ext (ext_alloc _ _)
              replace P2 : Hid (RdD U A2 pl c2 xs) := by rw [hU]; exact P2.out.ext (ext_alloc _ _)
              replace P4 : Hid (RdD U A4 pl c4 xs) := by rw [hU]; exact P4.out.ext (ext_alloc _ _)
              replace B : Hid (Below w.heap.size w U) := by rw [hU]; exact ext_trans B.out (ext_alloc _ _)
              rw [← hU, ← hgd]
              clear hU hgd

              refine wp_region_schedC (fun u => Below U.heap.size U u) [(true, 0), (true, 1), (true, 2), (true, 3), (true, 4), (true, 6), (false, 5), (false, 7), (true, 8), (true, 9), (true, 10), (true, 11), (true, 12), (true, 13), (true, 14), (true, 15), (true, 16), (true, 17), (true, 18), (true, 19), (true, 20), (true, 21), (true, 22), (true, 23), (true, 24), (true, 25)] (by kernel_rfl) rfl (by kernel_rfl) (by kernel_rfl) (fun _ _ d _ _ h => by cases d <;> exact h) (ext_drew U) ?_
              intro J0 hJ0
              have Q : Hid (Below U.heap.size U U.drew) := ext_drew U
              iterate 6 ((first | refine schedC_skipS rfl (by rfl) ?_ | (refine schedC_pure (v := ?_) rfl (by rfl) ?_ ?_; rotate_left; (focus (intro u hC; go_simp; try with_reducible rfl)))); try go_simp)
              refine schedC_eff rfl ?_
              intro J hJ
              go_wp2_with fail
              refine (plain_c _ A2 pl c2 xs (Lib.hid (P2.out.ext Q.out)) (by omega)).mono ?_
              rintro e v5 ⟨A5, c5, rfl, hO, hb⟩
              have P5 := Lib.hid hO.rd
              have Q2 : Hid (Below U.heap.size U v5) := Lib.hid (ext_trans Q.out hb)
              clear hO hb Q
              go_wp2_with fail
              refine ⟨Q2.out, ?_⟩
              refine schedC_eff rfl ?_
              intro J2 hJ2
              go_wp2_with fail
              refine (rsame_c _ A5 pl c5 xs A4 pl c4 xs P5 (Lib.hid (P4.out.ext Q2.out))).mono ?_
              rw [decide_eq_true rfl]
              rintro e v6 ⟨rfl, hb⟩
              have Q3 : Hid (Below U.heap.size U v6) := Lib.hid (ext_trans Q2.out hb)
              clear hb Q2 P5
              go_wp2_with fail
              refine ⟨Q3.out, ?_⟩

              iterate 18 ((first | refine schedC_skipS rfl (by rfl) ?_ | (refine schedC_pure (v := ?_) rfl (by rfl) ?_ ?_; rotate_left; (focus (intro u hC; obtain ⟨e0, e1, e2, e3, e4, e5, e6, e7, _, _, _, _, _, _, _, _⟩ := full8 (keepB hC DD.out); go_simp; try with_reducible rfl)))); try go_simp)

              refine schedC_nil (hJ0 _ _ ?_)
              clear hJ0
              replace TT := Lib.hid (TT.out.ext Q3.out)
              replace RO := Lib.hid (RO.out.ext Q3.out)
              replace B := Lib.hid (ext_trans B.out Q3.out)
              clear Q3 P2 P4 DD
              go_wp2_with fail
              exact ⟨⟨k2 + 1, j + 1, by have := hj.out; omega, by show _ = _; have := hj.out; omega, rfl, TT.out, RO.out, B.out⟩, by have h9 := hj.out; simp only [intOf]; omega⟩
        · go_wp2_with fail
          go_ret
          exact ⟨rfl, B.out⟩
#print axioms walkTreeSets
end Go.Proofs.YtbejjmmopdcjoaaDoor
