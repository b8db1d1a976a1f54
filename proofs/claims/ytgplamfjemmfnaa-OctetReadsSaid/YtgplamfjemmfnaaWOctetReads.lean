/-
  OctetReads: the walk.
-/
import Derived.Test.YtgplamfjemmfnaaARSome
import Derived.Test.YtgplamfjemmfnaaARUnf
import Derived.Test.YtgplamfjemmfnaaAThr
import Derived.Test.YtgplamfjemmfnaaAAct
import Derived.Test.YtgplamfjemmfnaaAArg
import Derived.Test.YtgplamfjemmfnaaKnown
import Derived.Test.YtgplamfjemmfnaaSchedC
import Derived.Deep.DeepCutAuto
import Derived.Deep.CutBlock
namespace Go.Proofs.Ytgplamfjemmfnaa
open Go.RowKit

theorem drew_grownT (w : World) (r : Option Nat) : w.grownBy w.drew r := ⟨rfl, rfl, rfl, Nat.le_refl _, fun _ _ _ => rfl⟩
theorem rread_at {bs : List UInt8} {a : Nat} {err : Int} {most : Nat} {p : Nat × Nat × Int} (h : p = rreadF bs a err most) : rnum (bs.drop a) err most = (p.2.1, bs.drop p.1, p.2.2) := by rw [h]; exact rreadF_num bs a err most
theorem rsome_at {bs : List UInt8} {a : Nat} {err : Int} {most : Int} {p : Nat × List UInt8 × Int} (h : p = rsomeF bs a err most) : rbytes (bs.drop a) err most = (p.2.1, bs.drop p.1, p.2.2) := by rw [h]; exact rsomeF_bytes bs a err most
/-- a reader's reads leave another row of bytes alone -/
theorem Rd.byOther {w w' : World} {b : Nat} {A : Option Addr} {n c : Nat} {bs : List UInt8} {err : Int} {A' : Option Addr} {n' c' : Nat} {bs' : List UInt8} (r : Rd w A' n' c' bs') (h : Rdr w b A n c bs err) (k : w.grownBy w' (some b)) : Rd w' A' n' c' bs' :=
  ⟨r.len, r.le, r.max, fun hn => by
    obtain ⟨b3, o3, hA, hb, hc⟩ := r.cells hn
    have hne3 := Rd.apart h r b3 o3 hA hn
    refine ⟨b3, o3, hA, Nat.lt_of_lt_of_le hb k.size, fun j hj => ?_⟩
    rw [World.cell?_of_block (a := ⟨b3, o3 + j, none⟩) (k.block b3 hb (fun e => hne3 (by injection e)))]
    exact hc j hj, r.none_⟩
theorem keepO {w w' : World} {b x : Nat} {o : Obj} (h : w.heap[x]? = some o) (k : w.grownBy w' (some b)) (hne : x ≠ b) : w'.heap[x]? = some o := (k.block x (Array.getElem?_eq_some_iff.1 h).1 (fun e => hne (by injection e))).trans h
theorem awayC {w : World} {g x j : Nat} {v : Value} (h : x ≠ g) : (w.setCell ⟨g, j, none⟩ v).heap[x]? = w.heap[x]? := Below.heap_setCell _ _ _ _ h
theorem away3 {w : World} {g x : Nat} {y0 y1 y2 : Value} {o : Obj} (hx : w.heap[x]? = some o) (h : x ≠ g) : (((w.setCell ⟨g, 0, none⟩ y0).setCell ⟨g, 1, none⟩ y1).setCell ⟨g, 2, none⟩ y2).heap[x]? = some o := ((awayC h).trans ((awayC h).trans (awayC h))).trans hx
/-- what the switch leaves -/
def ORMid (w : World) (b g6 m0 cM : Nat) (AM : Option Addr) (bs : List UInt8) (s : Value) (wx : World) : Prop :=
  s = .bool true ∧ ∃ (a : Nat) (err : Int) (AR : Option Addr) (nR cR : Nat), a ≤ m0 ∧ g6 < wx.heap.size ∧ Hid (Rdr wx b AR nR cR (bs.drop a) err) ∧ Hid (wx.heap[g6]? = some (.cells #[.slice AM m0 cM, .int .i64 a, .int .i64 err] 39 (0, 0))) ∧ Hid (Rd wx AM m0 cM bs) ∧ Hid (Below w.heap.size w wx)

set_option maxRecDepth 100000 in
set_option maxHeartbeats 8000000 in
theorem reads_law (w : World) (A0 : Option Addr) (n0 c0 : Nat) (b0 : List UInt8) (A1 : Option Addr) (n1 c1 : Nat) (xs : List ActV) (h0 : Hid (Rd w A0 n0 c0 b0)) (h1 : Hid (RdA w A1 n1 c1 xs)) (hok : Hid (∀ x ∈ xs, x.ok)) :
    Calls Try.prog 5 #[.slice A0 n0 c0, .slice A1 n1 c1] w (Holds w) := by
  have l0 := h0.out.le
  have x0 := h0.out.max
  have l1 := h1.out.le
  have x1 := h1.out.max
  obtain ⟨m0, hm0⟩ : ∃ m, m = min n0 200 := ⟨_, rfl⟩
  have i0 : (m0 : Int) ≤ (c0 : Int) := by omega
  have e0 : (if (200 : Int) < (n0 : Int) then (200 : Int) else (n0 : Int)) = (m0 : Int) := by split <;> omega
  have hm0' : m0 ≤ n0 := by omega
  have q0 : m0 ≤ 200 := by omega
  clear hm0
  obtain ⟨bs, hbs⟩ : ∃ l, l = b0.take m0 := ⟨_, rfl⟩
  have H0 : Hid (Rd w A0 m0 c0 bs) := by rw [hbs]; exact Lib.hid (h0.out.front hm0')
  clear hbs h0
  go_enter Try.func5, Try.ntmps5
  go_upto_region 2 with (refine wpList_push_all (o := ⟨some 25, _, _, _, _, _⟩) rfl (.tmp 19) (.tmp 24) 22 22 rfl 5 Try.underlying22 infoU8 w.heap.size _ _ _ [] (by rfl) (Own.empty w _) _ m0 bs (by rfl) ((H0.out.ext (ext_alloc _ _)).src Try.underlying22) (by omega) (ext_alloc _ _).size ?_; intro AX cX w1 hoX hb; go_simp)
  have OX : Hid (Own w1 5 w.heap.size AX m0 cX bs) := by have := hoX; rw [Nat.zero_add, List.nil_append] at this; exact this
  have B : Hid (Below w.heap.size w w1) := Lib.hid ((ext_alloc w _).trans hb)
  have HR := Lib.hid OX.out.row_ge
  have s1 : w.heap.size ≤ w1.heap.size := B.out.size
  clear hoX hb H0 e0 i0 hm0' l0 x0
  go_wp2_with fail
  refine (newReader_o w1 AX m0 cX bs OX.out.rd (by omega)).mono ?_
  rintro e w2 ⟨b, AR, nR, cR, rfl, hbk, hor, b1, hb⟩
  obtain rfl : m0 = nR := by have h2 := hor.len; have h3 := OX.out.len; omega
  have CB := Lib.hid hbk
  have OR := Lib.hid hor
  have s2 : w1.heap.size ≤ w2.heap.size := hb.size
  have b2 : b < w2.heap.size := (Array.getElem?_eq_some_iff.1 hbk).1
  replace OX := Lib.hid (OX.out.ext hb)
  replace B := Lib.hid (ext_trans B.out hb)
  clear hbk hor hb
  go_upto_region 4 with (refine wpList_push_all (o := ⟨some 30, _, _, _, _, _⟩) rfl (.tmp 28) (.tmp 29) 22 22 rfl 5 Try.underlying22 infoU8 w2.heap.size _ _ _ [] (by rfl) (Own.empty w2 _) _ m0 bs (by rfl) ((OX.out.rd.ext (ext_alloc _ _)).src Try.underlying22) (by omega) (ext_alloc _ _).size ?_; intro AM cM w3 hoM hb; go_simp)
  have OM : Hid (Own w3 5 w2.heap.size AM m0 cM bs) := by have := hoM; rw [Nat.zero_add, List.nil_append] at this; exact this
  have P3 : Hid (Below w2.heap.size w2 w3) := Lib.hid ((ext_alloc w2 _).trans hb)
  have s3 : w2.heap.size ≤ w3.heap.size := P3.out.size
  clear hoM hb
  obtain ⟨g6, hg6⟩ : ∃ g, g = w3.heap.size := ⟨_, rfl⟩
  obtain ⟨U, hU⟩ : ∃ U, U = World.alloc w3 (.cells #[.slice AM m0 cM, .int .i64 0, .int .i64 0] 39) := ⟨_, rfl⟩
  have C6 : Hid (U.heap[g6]? = some (.cells #[.slice AM m0 cM, .int .i64 ((0 : Nat) : Int), .int .i64 0] 39 (0, 0))) := by rw [hU, hg6]; exact Go.heap_alloc_new w3 _
  have PU : Hid (Below w2.heap.size w2 U) := by rw [hU]; exact ext_trans P3.out (ext_alloc _ _)
  have g62 : w2.heap.size ≤ g6 := by omega
  have sU : g6 < U.heap.size := (Array.getElem?_eq_some_iff.1 C6.out).1
  replace OM : Hid (Own U 5 w2.heap.size AM m0 cM bs) := by rw [hU]; exact OM.out.ext (ext_alloc _ _)
  rw [← hU, ← hg6]
  clear hU hg6 P3 s3
  replace OX := Lib.hid (OX.out.ext PU.out)
  replace OR := Lib.hid (OR.out.ext PU.out)
  replace CB := Lib.hid (keepB3 PU.out CB.out)
  replace B := Lib.hid (ext_trans B.out PU.out)
  clear PU
  go_wp2_with fail
  go_loopw [7] (fun iv wy => ∃ (k : Nat) (bs2 : List UInt8), k ≤ m0 ∧ iv = .int .i64 k ∧ Hid (Own wy 5 w.heap.size AX m0 cX bs2) ∧ Hid (U.grownBy wy (Value.slice AX m0 cX).ownBlock)) (fun iv _ => m0 - (intOf iv).toNat)
  case atStart => exact ⟨0, _, Nat.zero_le _, rfl, OX.out, World.grownBy.refl _ _⟩
  case round =>
    rename World => Z
    obtain ⟨j, bs2, hj, rfl, ho, hg⟩ := hrel
    by_cases hlt : j < m0
    · obtain ⟨g, rfl, _, _⟩ := ho.out.blockless (by omega)
      obtain ⟨x, hx⟩ := ho.out.get hlt
      have fr := ho.out.row.frozenAt j
      have hltI : (j : Int) < (m0 : Int) := by omega
      have hjI : (0 : Int) ≤ (j : Int) := by omega
      have S7 := ho.out.set j (7 : UInt8)
      rw [show ((((7 : UInt8).toNat : Nat)) : Int) = 7 from rfl] at S7
      have HS := Lib.hid S7
      clear S7 ho
      go_wp2_with fail
      exact ⟨⟨j + 1, _, by omega, by go_num, HS.out.1, grown_step hg.out HS.out.2⟩, by simp [intOf]; omega⟩
    · obtain rfl : m0 = j := by omega
      have HG := hg
      clear hlt hj hg
      have zb : ∀ x, w1.heap.size ≤ x → (Value.slice AX m0 cX).ownBlock ≠ some x := fun x hx e => by have := (HR.out x e).2; omega
      have CB2 : Hid (Z.heap[b]? = some (.cells #[.slice AR m0 cR, .int .i64 0] 67 (0, 0))) := (HG.out.block b (Array.getElem?_eq_some_iff.1 CB.out).1 (fun e => zb b b1 e.symm)).trans CB.out
      have C6z : Hid (Z.heap[g6]? = some (.cells #[.slice AM m0 cM, .int .i64 ((0 : Nat) : Int), .int .i64 0] 39 (0, 0))) := (HG.out.block g6 sU (fun e => zb g6 (by omega) e.symm)).trans C6.out
      have ORz := Lib.hid (OR.out.kept HG.out (fun g h => (HR.out g h).2))
      have RM : Hid (Rd Z AM m0 cM bs) := (OM.out.kept HG.out (fun g h => Nat.lt_of_lt_of_le (HR.out g h).2 s2)).rd
      have RR : Hid (Rdr Z b AR m0 cR (bs.drop 0) 0) := ⟨CB2.out, ORz.out.rd⟩
      have BZ := Lib.hid (below_grown B.out B.out.size HG.out (fun k hk => (HR.out k hk).1))
      have sZ : g6 < Z.heap.size := Nat.lt_of_lt_of_le sU HG.out.size
      clear zb CB2 ORz HG OX OR OM C6 CB B ho
      have bg6 : b < g6 := by omega
      have wg6 : w.heap.size ≤ g6 := by omega
      have wb : w.heap.size ≤ b := by omega
      clear HR s1 b1 s2 b2 g62 sU
      go_wp2_with fail
      go_loopw [8] (fun iv wr => ∃ (i a : Nat) (err : Int) (AR : Option Addr) (nR cR : Nat), i ≤ n1 ∧ i ≤ 30 ∧ a ≤ m0 ∧ g6 < wr.heap.size ∧ iv = .int .i64 i ∧ Hid (Rdr wr b AR nR cR (bs.drop a) err) ∧ Hid (wr.heap[g6]? = some (.cells #[.slice AM m0 cM, .int .i64 a, .int .i64 err] 39 (0, 0))) ∧ Hid (Rd wr AM m0 cM bs) ∧ Hid (Below w.heap.size w wr)) (fun iv _ => 30 - (intOf iv).toNat)
      case atStart => exact ⟨0, 0, 0, AR, m0, cR, Nat.zero_le _, by omega, Nat.zero_le _, sZ, rfl, RR.out, C6z.out, RM.out, BZ.out⟩
      case round =>
        clear RR C6z RM BZ sZ
        rename World => Y
        obtain ⟨i, a, err, AR2, nR, cR2, hi, hi30, ha, sY, rfl, RR, C6, RM, BY⟩ := hrel
        by_cases g1 : i < n1
        · by_cases g2 : i < 30
          · have g1I : (i : Int) < (n1 : Int) := by omega
            have g2I : (i : Int) < 30 := by omega
            have iI : (0 : Int) ≤ (i : Int) := by omega
            obtain ⟨ba, oa, rfl, hba, ca0, ca1, ca2⟩ := (h1.out.ext BY.out).at g1
            have OKX := Lib.hid (ok_at hok.out i)
            obtain ⟨x, hx⟩ : ∃ x, x = xs.getD i noAct := ⟨_, rfl⟩
            rw [← hx] at ca0 ca1 ca2 OKX
            clear hx
            obtain ⟨kd, nn, mm⟩ := x
            have okm : mm < 18446744073709551616 := OKX.out.2.2
            have okn0 : -9223372036854775808 ≤ nn := OKX.out.2.1.1
            have okn1 : nn < 9223372036854775808 := OKX.out.2.1.2
            dsimp only at ca0 ca1 ca2
            clear OKX
            go_upto_region 14 with fail
            clear ca0 ca1 ca2 hba
            obtain ⟨g9, hg9⟩ : ∃ g, g = Y.heap.size := ⟨_, rfl⟩
            obtain ⟨V, hV⟩ : ∃ V, V = World.alloc Y (.cells #[.int .i64 kd, .int .i64 nn, .int .u64 mm] 41) := ⟨_, rfl⟩
            have C9 : Hid (V.heap[g9]? = some (.cells #[.int .i64 kd, .int .i64 nn, .int .u64 mm] 41 (0, 0))) := by rw [hV, hg9]; exact Go.heap_alloc_new Y _
            have PV : Hid (Below Y.heap.size Y V) := by rw [hV]; exact ext_alloc _ _
            have g69 : g6 < g9 := by omega
            have sV : g9 < V.heap.size := (Array.getElem?_eq_some_iff.1 C9.out).1
            rw [← hV, ← hg9]
            clear hV hg9
            replace RR := Lib.hid (RR.out.ext PV.out)
            replace C6 := Lib.hid (keepB3 PV.out C6.out)
            replace RM := Lib.hid (RM.out.ext PV.out)
            replace BY := Lib.hid (ext_trans BY.out PV.out)
            clear PV sY
            obtain ⟨z0, z1, z2, _, _, _⟩ := full3f C9.out
            go_upto_block 4 with fail
            go_cut [10] from 59 to 120 (fun s wx => ORMid w b g6 m0 cM AM bs s wx)
            case first =>
              by_cases q0 : kd = 0
              · subst q0
                obtain ⟨k0, k1, k2, _, _, _⟩ := full3f C6.out
                go_wp2_with fail
                obtain ⟨p, hp⟩ : ∃ p, p = rreadF bs a err mm := ⟨_, rfl⟩
                have HN : Hid (rnum (bs.drop a) err mm = (p.2.1, bs.drop p.1, p.2.2)) := rread_at hp
                have ha2 : p.1 ≤ m0 := by rw [hp, ← RM.out.len]; exact rreadF_le bs a err mm (by rw [RM.out.len]; exact ha)
                refine (rread_c _ AM m0 cM bs RM a ha err mm okm).mono ?_
                rw [← hp]
                clear hp
                obtain ⟨a2, v, e2⟩ := p
                dsimp only at HN ha2 ⊢
                rintro e w4 ⟨rfl, hb⟩
                dsimp only
                replace RR := Lib.hid (RR.out.ext hb)
                replace C6 := Lib.hid (keepB3 hb C6.out)
                replace C9 := Lib.hid (keepB3 hb C9.out)
                replace RM := Lib.hid (RM.out.ext hb)
                replace BY := Lib.hid (ext_trans BY.out hb)
                have s4 : g9 < w4.heap.size := (Array.getElem?_eq_some_iff.1 C9.out).1
                clear hb z0 z1 z2 k0 k1 k2 sV
                go_upto_region 18 with fail
                obtain ⟨g11, hg11⟩ : ∃ g, g = w4.heap.size := ⟨_, rfl⟩
                obtain ⟨X, hX⟩ : ∃ X, X = World.alloc w4 (.cells #[.slice AM m0 cM, .int .i64 a2, .int .i64 e2] 39) := ⟨_, rfl⟩
                have C11 : Hid (X.heap[g11]? = some (.cells #[.slice AM m0 cM, .int .i64 a2, .int .i64 e2] 39 (0, 0))) := by rw [hX, hg11]; exact Go.heap_alloc_new w4 _
                have PX : Hid (Below w4.heap.size w4 X) := by rw [hX]; exact ext_alloc _ _
                have g611 : g9 < g11 := by omega
                rw [← hX, ← hg11]
                clear hX hg11
                replace RR := Lib.hid (RR.out.ext PX.out)
                replace C6 := Lib.hid (keepB3 PX.out C6.out)
                replace C9 := Lib.hid (keepB3 PX.out C9.out)
                replace RM := Lib.hid (RM.out.ext PX.out)
                replace BY := Lib.hid (ext_trans BY.out PX.out)
                have N5 : Hid (Calls Try.prog 23 #[.pointer (some ⟨b, 0, none⟩), .int .u64 mm] X.drew (Reads1 X.drew b (.int .u64 v) (bs.drop a2) e2)) := by
                  have := num_r X.drew b AR2 nR cR2 _ err (RR.out.ext (ext_drew X)) mm
                  rw [HN.out] at this
                  exact this
                clear HN PX s4
                refine wp_region_schedC (fun z => z.heap[g9]? = some (.cells #[.int .i64 0, .int .i64 nn, .int .u64 mm] 41 (0, 0)) ∧ z.heap[g11]? = some (.cells #[.slice AM m0 cM, .int .i64 a2, .int .i64 e2] 39 (0, 0))) [(true, 0), (true, 1), (true, 2), (true, 3), (true, 5), (false, 4), (true, 6), (false, 7), (true, 8)] (by kernel_rfl) rfl (by kernel_rfl) (by kernel_rfl) (fun _ _ d _ _ h => by cases d <;> exact h) ⟨C9.out, C11.out⟩ ?_
                intro J0 hJ0
                iterate 5 (refine schedC_pure (v := ?_) rfl (by rfl) ?_ ?_; rotate_left; (focus (intro z hC; obtain ⟨u0, u1, u2, _, _, _⟩ := full3f hC.1; obtain ⟨y0, y1, y2, _, _, _⟩ := full3f hC.2; go_simp; try with_reducible rfl)); try go_simp)
                refine schedC_eff rfl ?_
                intro J hJ
                go_wp2_with fail
                refine (N5.out).mono ?_
                unfold Reads1
                rintro e w9 ⟨rfl, A5, n5, c5, h5, hg⟩
                have R5 := Lib.hid h5
                have C9a := Lib.hid (keepO C9.out (grownBy_trans (drew_grownT X _) hg) (show g9 ≠ b by omega))
                have C11a := Lib.hid (keepO C11.out (grownBy_trans (drew_grownT X _) hg) (show g11 ≠ b by omega))
                have C6a := Lib.hid (keepO C6.out (grownBy_trans (drew_grownT X _) hg) (show g6 ≠ b by omega))
                have RMa := Lib.hid (RM.out.byOther RR.out (grownBy_trans (drew_grownT X _) hg))
                have BYa := Lib.hid (below_grown BY.out BY.out.size (grownBy_trans (drew_grownT X _) hg) (fun k hk => by injection hk with hk; omega))
                clear h5 hg C9 C11 C6 RM RR BY
                obtain ⟨k0, k1, k2, f0, f1, f2⟩ := full3f C6a.out
                go_wp2_with fail
                refine ⟨⟨C9a.out, C11a.out⟩, ?_⟩
                iterate 1 (refine schedC_pure (v := ?_) rfl (by rfl) ?_ ?_; rotate_left; (focus (intro z hC; obtain ⟨u0, u1, u2, _, _, _⟩ := full3f hC.1; obtain ⟨y0, y1, y2, _, _, _⟩ := full3f hC.2; go_simp; try with_reducible rfl)); try go_simp)
                refine schedC_eff rfl ?_
                intro J2 hJ2
                go_wp2_with fail
                refine ⟨⟨away3 C9a.out (by omega), away3 C11a.out (by omega)⟩, ?_⟩
                iterate 1 (refine schedC_pure (v := ?_) rfl (by rfl) ?_ ?_; rotate_left; (focus (intro z hC; obtain ⟨u0, u1, u2, _, _, _⟩ := full3f hC.1; obtain ⟨y0, y1, y2, _, _, _⟩ := full3f hC.2; go_simp; try with_reducible rfl)); try go_simp)
                refine schedC_nil (hJ0 _ _ ?_)
                clear hJ0
                go_wp2_with fail
                go_meet
                exact ⟨rfl, a2, e2, _, _, _, ha2, (by have := (Array.getElem?_eq_some_iff.1 C6a.out).1; simpa [World.setCell] using this), ⟨away3 R5.out.blk (by omega), R5.out.rd.put3 C6a.out⟩, set3 C6a.out _ _ _, RMa.out.put3 C6a.out, bel3 BYa.out wg6 _ _ _⟩
              · have d0 : (kd == 0) = false := by simpa using q0
                by_cases q1 : kd = 1
                · subst q1
                  obtain ⟨k0, k1, k2, _, _, _⟩ := full3f C6.out
                  go_wp2_with fail
                  obtain ⟨p, hp⟩ : ∃ p, p = rreadF bs a err 18446744073709551615 := ⟨_, rfl⟩
                  have HN : Hid (rnum (bs.drop a) err 18446744073709551615 = (p.2.1, bs.drop p.1, p.2.2)) := rread_at hp
                  have ha2 : p.1 ≤ m0 := by rw [hp, ← RM.out.len]; exact rreadF_le bs a err _ (by rw [RM.out.len]; exact ha)
                  have hv2 : p.2.1 < 18446744073709551616 := by have h1 := rnum_lt (bs.drop a) err 18446744073709551615; rw [HN.out] at h1; exact h1
                  refine (rread_c _ AM m0 cM bs RM a ha err 18446744073709551615 (by omega)).mono ?_
                  rw [← hp]
                  clear hp
                  obtain ⟨a2, v, e2⟩ := p
                  dsimp only at HN ha2 hv2 ⊢
                  rintro e w4 ⟨rfl, hb⟩
                  dsimp only
                  replace RR := Lib.hid (RR.out.ext hb)
                  replace C6 := Lib.hid (keepB3 hb C6.out)
                  replace C9 := Lib.hid (keepB3 hb C9.out)
                  replace RM := Lib.hid (RM.out.ext hb)
                  replace BY := Lib.hid (ext_trans BY.out hb)
                  have s4 : g9 < w4.heap.size := (Array.getElem?_eq_some_iff.1 C9.out).1
                  clear hb z0 z1 z2 k0 k1 k2 sV
                  go_upto_region 21 with fail
                  obtain ⟨g11, hg11⟩ : ∃ g, g = w4.heap.size := ⟨_, rfl⟩
                  obtain ⟨X, hX⟩ : ∃ X, X = World.alloc w4 (.cells #[.slice AM m0 cM, .int .i64 a2, .int .i64 e2] 39) := ⟨_, rfl⟩
                  have C11 : Hid (X.heap[g11]? = some (.cells #[.slice AM m0 cM, .int .i64 a2, .int .i64 e2] 39 (0, 0))) := by rw [hX, hg11]; exact Go.heap_alloc_new w4 _
                  have PX : Hid (Below w4.heap.size w4 X) := by rw [hX]; exact ext_alloc _ _
                  have g611 : g9 < g11 := by omega
                  rw [← hX, ← hg11]
                  clear hX hg11
                  replace RR := Lib.hid (RR.out.ext PX.out)
                  replace C6 := Lib.hid (keepB3 PX.out C6.out)
                  replace C9 := Lib.hid (keepB3 PX.out C9.out)
                  replace RM := Lib.hid (RM.out.ext PX.out)
                  replace BY := Lib.hid (ext_trans BY.out PX.out)
                  have N5 : Hid (Calls Try.prog 24 #[.pointer (some ⟨b, 0, none⟩)] X.drew (Reads1 X.drew b (.int .i64 (unfold_ v)) (bs.drop a2) e2)) := by
                    have := int_r X.drew b AR2 nR cR2 _ err (RR.out.ext (ext_drew X))
                    rw [HN.out] at this
                    exact this
                  clear HN PX s4
                  refine wp_region_schedC (fun z => z.heap[g9]? = some (.cells #[.int .i64 1, .int .i64 nn, .int .u64 mm] 41 (0, 0)) ∧ z.heap[g11]? = some (.cells #[.slice AM m0 cM, .int .i64 a2, .int .i64 e2] 39 (0, 0))) [(true, 0), (true, 1), (true, 3), (false, 2), (false, 4), (true, 5), (false, 6), (true, 7)] (by kernel_rfl) rfl (by kernel_rfl) (by kernel_rfl) (fun _ _ d _ _ h => by cases d <;> exact h) ⟨C9.out, C11.out⟩ ?_
                  intro J0 hJ0
                  iterate 3 (refine schedC_pure (v := ?_) rfl (by rfl) ?_ ?_; rotate_left; (focus (intro z hC; obtain ⟨u0, u1, u2, _, _, _⟩ := full3f hC.1; obtain ⟨y0, y1, y2, _, _, _⟩ := full3f hC.2; go_simp; try with_reducible rfl)); try go_simp)
                  refine schedC_eff rfl ?_
                  intro J hJ
                  go_wp2_with fail
                  refine (N5.out).mono ?_
                  unfold Reads1
                  rintro e w9 ⟨rfl, A5, n5, c5, h5, hg⟩
                  have R5 := Lib.hid h5
                  have C9a := Lib.hid (keepO C9.out (grownBy_trans (drew_grownT X _) hg) (show g9 ≠ b by omega))
                  have C11a := Lib.hid (keepO C11.out (grownBy_trans (drew_grownT X _) hg) (show g11 ≠ b by omega))
                  have C6a := Lib.hid (keepO C6.out (grownBy_trans (drew_grownT X _) hg) (show g6 ≠ b by omega))
                  have RMa := Lib.hid (RM.out.byOther RR.out (grownBy_trans (drew_grownT X _) hg))
                  have BYa := Lib.hid (below_grown BY.out BY.out.size (grownBy_trans (drew_grownT X _) hg) (fun k hk => by injection hk with hk; omega))
                  clear h5 hg C9 C11 C6 RM RR BY
                  obtain ⟨k0, k1, k2, f0, f1, f2⟩ := full3f C6a.out
                  go_wp2_with fail
                  refine ⟨⟨C9a.out, C11a.out⟩, ?_⟩
                  refine schedC_eff rfl ?_
                  intro J1 hJ1
                  go_wp2_with fail
                  refine (runfold_c w9 v hv2).mono ?_
                  rintro e w10 ⟨rfl, rfl⟩
                  go_wp2_with fail
                  refine ⟨⟨C9a.out, C11a.out⟩, ?_⟩
                  iterate 1 (refine schedC_pure (v := ?_) rfl (by rfl) ?_ ?_; rotate_left; (focus (intro z hC; obtain ⟨u0, u1, u2, _, _, _⟩ := full3f hC.1; obtain ⟨y0, y1, y2, _, _, _⟩ := full3f hC.2; go_simp; try with_reducible rfl)); try go_simp)
                  refine schedC_eff rfl ?_
                  intro J2 hJ2
                  go_wp2_with fail
                  refine ⟨⟨away3 C9a.out (by omega), away3 C11a.out (by omega)⟩, ?_⟩
                  iterate 1 (refine schedC_pure (v := ?_) rfl (by rfl) ?_ ?_; rotate_left; (focus (intro z hC; obtain ⟨u0, u1, u2, _, _, _⟩ := full3f hC.1; obtain ⟨y0, y1, y2, _, _, _⟩ := full3f hC.2; go_simp; try with_reducible rfl)); try go_simp)
                  refine schedC_nil (hJ0 _ _ ?_)
                  clear hJ0
                  go_wp2_with fail
                  go_meet
                  exact ⟨rfl, a2, e2, _, _, _, ha2, (by have := (Array.getElem?_eq_some_iff.1 C6a.out).1; simpa [World.setCell] using this), ⟨away3 R5.out.blk (by omega), R5.out.rd.put3 C6a.out⟩, set3 C6a.out _ _ _, RMa.out.put3 C6a.out, bel3 BYa.out wg6 _ _ _⟩
                · have d1 : (kd == 1) = false := by simpa using q1
                  by_cases q2 : kd = 2
                  · subst q2
                    obtain ⟨k0, k1, k2, _, _, _⟩ := full3f C6.out
                    go_wp2_with fail
                    obtain ⟨p, hp⟩ : ∃ p, p = rsomeF bs a err nn := ⟨_, rfl⟩
                    have HN : Hid (rbytes (bs.drop a) err nn = (p.2.1, bs.drop p.1, p.2.2)) := rsome_at hp
                    have ha2 : p.1 ≤ m0 := by rw [hp, ← RM.out.len]; exact rsomeF_le bs a err nn (by rw [RM.out.len]; exact ha)
                    refine (rsome_c _ AM m0 cM bs RM a ha err nn okn0 okn1 (by omega)).mono ?_
                    rw [← hp]
                    clear hp
                    obtain ⟨a2, v, e2⟩ := p
                    dsimp only at HN ha2
                    unfold RSomes
                    dsimp only
                    rintro e w4 ⟨AV, nV, cV, rfl, hv4, hb⟩
                    have RV := Lib.hid hv4
                    clear hv4
                    dsimp only
                    replace RR := Lib.hid (RR.out.ext hb)
                    replace C6 := Lib.hid (keepB3 hb C6.out)
                    replace C9 := Lib.hid (keepB3 hb C9.out)
                    replace RM := Lib.hid (RM.out.ext hb)
                    replace BY := Lib.hid (ext_trans BY.out hb)
                    have s4 : g9 < w4.heap.size := (Array.getElem?_eq_some_iff.1 C9.out).1
                    clear hb z0 z1 z2 k0 k1 k2 sV
                    go_upto_region 24 with fail
                    obtain ⟨g11, hg11⟩ : ∃ g, g = w4.heap.size := ⟨_, rfl⟩
                    obtain ⟨X, hX⟩ : ∃ X, X = World.alloc w4 (.cells #[.slice AM m0 cM, .int .i64 a2, .int .i64 e2] 39) := ⟨_, rfl⟩
                    have C11 : Hid (X.heap[g11]? = some (.cells #[.slice AM m0 cM, .int .i64 a2, .int .i64 e2] 39 (0, 0))) := by rw [hX, hg11]; exact Go.heap_alloc_new w4 _
                    have PX : Hid (Below w4.heap.size w4 X) := by rw [hX]; exact ext_alloc _ _
                    have g611 : g9 < g11 := by omega
                    rw [← hX, ← hg11]
                    clear hX hg11
                    replace RR := Lib.hid (RR.out.ext PX.out)
                    replace C6 := Lib.hid (keepB3 PX.out C6.out)
                    replace C9 := Lib.hid (keepB3 PX.out C9.out)
                    replace RM := Lib.hid (RM.out.ext PX.out)
                    replace BY := Lib.hid (ext_trans BY.out PX.out)
                    replace RV := Lib.hid (RV.out.ext PX.out)
                    have n12 : nR ≤ 1000000000000 := by have h1 := RR.out.rd.len; rw [List.length_drop, RM.out.len] at h1; omega
                    have N5 : Hid (Calls Try.prog 27 #[.pointer (some ⟨b, 0, none⟩), .int .i64 nn] X.drew (ReadsB X.drew b v (bs.drop a2) e2)) := by
                      have := bytes_r X.drew b AR2 nR cR2 _ err (RR.out.ext (ext_drew X)) n12 nn okn0 okn1
                      rw [HN.out] at this
                      exact this
                    clear HN PX s4
                    refine wp_region_schedC (fun z => z.heap[g9]? = some (.cells #[.int .i64 2, .int .i64 nn, .int .u64 mm] 41 (0, 0)) ∧ z.heap[g11]? = some (.cells #[.slice AM m0 cM, .int .i64 a2, .int .i64 e2] 39 (0, 0))) [(true, 0), (true, 1), (true, 2), (true, 3), (true, 5), (false, 4), (false, 6), (false, 7), (true, 8)] (by kernel_rfl) rfl (by kernel_rfl) (by kernel_rfl) (fun _ _ d _ _ h => by cases d <;> exact h) ⟨C9.out, C11.out⟩ ?_
                    intro J0 hJ0
                    iterate 5 (refine schedC_pure (v := ?_) rfl (by rfl) ?_ ?_; rotate_left; (focus (intro z hC; obtain ⟨u0, u1, u2, _, _, _⟩ := full3f hC.1; obtain ⟨y0, y1, y2, _, _, _⟩ := full3f hC.2; go_simp; try with_reducible rfl)); try go_simp)
                    refine schedC_eff rfl ?_
                    intro J hJ
                    go_wp2_with fail
                    refine (N5.out).mono ?_
                    unfold ReadsB
                    rintro e w9 ⟨⟨A9, n9, c9, rfl, h9⟩, A5, n5, c5, h5, hg⟩
                    have R9 := Lib.hid h9
                    have RVa := Lib.hid (RV.out.byOther RR.out (grownBy_trans (drew_grownT X _) hg))
                    have R5 := Lib.hid h5
                    have C9a := Lib.hid (keepO C9.out (grownBy_trans (drew_grownT X _) hg) (show g9 ≠ b by omega))
                    have C11a := Lib.hid (keepO C11.out (grownBy_trans (drew_grownT X _) hg) (show g11 ≠ b by omega))
                    have C6a := Lib.hid (keepO C6.out (grownBy_trans (drew_grownT X _) hg) (show g6 ≠ b by omega))
                    have RMa := Lib.hid (RM.out.byOther RR.out (grownBy_trans (drew_grownT X _) hg))
                    have BYa := Lib.hid (below_grown BY.out BY.out.size (grownBy_trans (drew_grownT X _) hg) (fun k hk => by injection hk with hk; omega))
                    clear h5 hg C9 C11 C6 RM RR BY
                    obtain ⟨k0, k1, k2, f0, f1, f2⟩ := full3f C6a.out
                    clear h9 RV
                    go_wp2_with fail
                    refine ⟨⟨C9a.out, C11a.out⟩, ?_⟩
                    refine schedC_eff rfl ?_
                    intro J1 hJ1
                    go_wp2_with fail
                    obtain rfl : n9 = nV := by have h1 := R9.out.len; have h2 := RVa.out.len; omega
                    refine (same_yes _ A9 n9 c9 v R9.out AV cV RVa.out).mono ?_
                    rintro e w10 ⟨rfl, hb⟩
                    replace C9a := Lib.hid (keepB3 hb C9a.out)
                    replace C11a := Lib.hid (keepB3 hb C11a.out)
                    replace C6a := Lib.hid (keepB3 hb C6a.out)
                    replace R5 := Lib.hid (R5.out.ext hb)
                    replace RMa := Lib.hid (RMa.out.ext hb)
                    replace BYa := Lib.hid (ext_trans BYa.out hb)
                    clear hb k0 k1 k2 f0 f1 f2 R9 RVa
                    obtain ⟨k0, k1, k2, f0, f1, f2⟩ := full3f C6a.out
                    go_wp2_with fail
                    refine ⟨⟨C9a.out, C11a.out⟩, ?_⟩
                    refine schedC_eff rfl ?_
                    intro J2 hJ2
                    go_wp2_with fail
                    refine ⟨⟨away3 C9a.out (by omega), away3 C11a.out (by omega)⟩, ?_⟩
                    iterate 1 (refine schedC_pure (v := ?_) rfl (by rfl) ?_ ?_; rotate_left; (focus (intro z hC; obtain ⟨u0, u1, u2, _, _, _⟩ := full3f hC.1; obtain ⟨y0, y1, y2, _, _, _⟩ := full3f hC.2; go_simp; try with_reducible rfl)); try go_simp)
                    refine schedC_nil (hJ0 _ _ ?_)
                    clear hJ0
                    go_wp2_with fail
                    go_meet
                    exact ⟨rfl, a2, e2, _, _, _, ha2, (by have := (Array.getElem?_eq_some_iff.1 C6a.out).1; simpa [World.setCell] using this), ⟨away3 R5.out.blk (by omega), R5.out.rd.put3 C6a.out⟩, set3 C6a.out _ _ _, RMa.out.put3 C6a.out, bel3 BYa.out wg6 _ _ _⟩
                  · have d2 : (kd == 2) = false := by simpa using q2
                    by_cases q3 : kd = 3
                    · subst q3
                      obtain ⟨k0, k1, k2, _, _, _⟩ := full3f C6.out
                      go_wp2_with fail
                      obtain ⟨p, hp⟩ : ∃ p, p = rsomeF bs a err nn := ⟨_, rfl⟩
                      have HN : Hid (rbytes (bs.drop a) err nn = (p.2.1, bs.drop p.1, p.2.2)) := rsome_at hp
                      have ha2 : p.1 ≤ m0 := by rw [hp, ← RM.out.len]; exact rsomeF_le bs a err nn (by rw [RM.out.len]; exact ha)
                      refine (rsome_c _ AM m0 cM bs RM a ha err nn okn0 okn1 (by omega)).mono ?_
                      rw [← hp]
                      clear hp
                      obtain ⟨a2, v, e2⟩ := p
                      dsimp only at HN ha2
                      unfold RSomes
                      dsimp only
                      rintro e w4 ⟨AV, nV, cV, rfl, hv4, hb⟩
                      have RV := Lib.hid hv4
                      clear hv4
                      dsimp only
                      replace RR := Lib.hid (RR.out.ext hb)
                      replace C6 := Lib.hid (keepB3 hb C6.out)
                      replace C9 := Lib.hid (keepB3 hb C9.out)
                      replace RM := Lib.hid (RM.out.ext hb)
                      replace BY := Lib.hid (ext_trans BY.out hb)
                      have s4 : g9 < w4.heap.size := (Array.getElem?_eq_some_iff.1 C9.out).1
                      clear hb z0 z1 z2 k0 k1 k2 sV
                      go_upto_region 27 with fail
                      obtain ⟨g11, hg11⟩ : ∃ g, g = w4.heap.size := ⟨_, rfl⟩
                      obtain ⟨X, hX⟩ : ∃ X, X = World.alloc w4 (.cells #[.slice AM m0 cM, .int .i64 a2, .int .i64 e2] 39) := ⟨_, rfl⟩
                      have C11 : Hid (X.heap[g11]? = some (.cells #[.slice AM m0 cM, .int .i64 a2, .int .i64 e2] 39 (0, 0))) := by rw [hX, hg11]; exact Go.heap_alloc_new w4 _
                      have PX : Hid (Below w4.heap.size w4 X) := by rw [hX]; exact ext_alloc _ _
                      have g611 : g9 < g11 := by omega
                      rw [← hX, ← hg11]
                      clear hX hg11
                      replace RR := Lib.hid (RR.out.ext PX.out)
                      replace C6 := Lib.hid (keepB3 PX.out C6.out)
                      replace C9 := Lib.hid (keepB3 PX.out C9.out)
                      replace RM := Lib.hid (RM.out.ext PX.out)
                      replace BY := Lib.hid (ext_trans BY.out PX.out)
                      replace RV := Lib.hid (RV.out.ext PX.out)
                      have n12 : nR ≤ 1000000000000 := by have h1 := RR.out.rd.len; rw [List.length_drop, RM.out.len] at h1; omega
                      have N5 : Hid (Calls Try.prog 28 #[.pointer (some ⟨b, 0, none⟩), .int .i64 nn] X.drew (Reads1 X.drew b (.string ⟨v.toArray⟩) (bs.drop a2) e2)) := by
                        have := text_r X.drew b AR2 nR cR2 _ err (RR.out.ext (ext_drew X)) n12 nn okn0 okn1
                        rw [HN.out] at this
                        exact this
                      clear HN PX s4
                      refine wp_region_schedC (fun z => z.heap[g9]? = some (.cells #[.int .i64 3, .int .i64 nn, .int .u64 mm] 41 (0, 0)) ∧ z.heap[g11]? = some (.cells #[.slice AM m0 cM, .int .i64 a2, .int .i64 e2] 39 (0, 0)) ∧ Rd z AV nV cV v) [(true, 0), (true, 1), (true, 2), (true, 3), (true, 5), (true, 6), (false, 4), (true, 7), (false, 8), (true, 9)] (by kernel_rfl) rfl (by kernel_rfl) (by kernel_rfl) (fun _ _ d _ _ h => by cases d <;> exact h) ⟨C9.out, C11.out, RV.out.ext (ext_drew _)⟩ ?_
                      intro J0 hJ0
                      iterate 6 (refine schedC_pure (v := ?_) rfl (by rfl) ?_ ?_; rotate_left; (focus (intro z hC; obtain ⟨u0, u1, u2, _, _, _⟩ := full3f hC.1; obtain ⟨y0, y1, y2, _, _, _⟩ := full3f hC.2.1; have TX := hC.2.2.text Try.underlying22 Try.underlying5 Try.underlying9; go_simp; try with_reducible rfl)); try go_simp)
                      refine schedC_eff rfl ?_
                      intro J hJ
                      go_wp2_with fail
                      refine (N5.out).mono ?_
                      unfold Reads1
                      rintro e w9 ⟨rfl, A5, n5, c5, h5, hg⟩
                      have RVa := Lib.hid (RV.out.byOther RR.out (grownBy_trans (drew_grownT X _) hg))
                      have R5 := Lib.hid h5
                      have C9a := Lib.hid (keepO C9.out (grownBy_trans (drew_grownT X _) hg) (show g9 ≠ b by omega))
                      have C11a := Lib.hid (keepO C11.out (grownBy_trans (drew_grownT X _) hg) (show g11 ≠ b by omega))
                      have C6a := Lib.hid (keepO C6.out (grownBy_trans (drew_grownT X _) hg) (show g6 ≠ b by omega))
                      have RMa := Lib.hid (RM.out.byOther RR.out (grownBy_trans (drew_grownT X _) hg))
                      have BYa := Lib.hid (below_grown BY.out BY.out.size (grownBy_trans (drew_grownT X _) hg) (fun k hk => by injection hk with hk; omega))
                      clear h5 hg C9 C11 C6 RM RR BY
                      obtain ⟨k0, k1, k2, f0, f1, f2⟩ := full3f C6a.out
                      clear RV
                      go_wp2_with fail
                      refine ⟨⟨C9a.out, C11a.out, RVa.out⟩, ?_⟩
                      iterate 1 (refine schedC_pure (v := ?_) rfl (by rfl) ?_ ?_; rotate_left; (focus (intro z hC; obtain ⟨u0, u1, u2, _, _, _⟩ := full3f hC.1; obtain ⟨y0, y1, y2, _, _, _⟩ := full3f hC.2.1; have TX := hC.2.2.text Try.underlying22 Try.underlying5 Try.underlying9; go_simp; try with_reducible rfl)); try go_simp)
                      refine schedC_eff rfl ?_
                      intro J2 hJ2
                      go_wp2_with fail
                      refine ⟨⟨away3 C9a.out (by omega), away3 C11a.out (by omega), RVa.out.put3 C6a.out⟩, ?_⟩
                      iterate 1 (refine schedC_pure (v := ?_) rfl (by rfl) ?_ ?_; rotate_left; (focus (intro z hC; obtain ⟨u0, u1, u2, _, _, _⟩ := full3f hC.1; obtain ⟨y0, y1, y2, _, _, _⟩ := full3f hC.2.1; have TX := hC.2.2.text Try.underlying22 Try.underlying5 Try.underlying9; go_simp; try with_reducible rfl)); try go_simp)
                      refine schedC_nil (hJ0 _ _ ?_)
                      clear hJ0
                      go_wp2_with fail
                      go_meet
                      exact ⟨rfl, a2, e2, _, _, _, ha2, (by have := (Array.getElem?_eq_some_iff.1 C6a.out).1; simpa [World.setCell] using this), ⟨away3 R5.out.blk (by omega), R5.out.rd.put3 C6a.out⟩, set3 C6a.out _ _ _, RMa.out.put3 C6a.out, bel3 BYa.out wg6 _ _ _⟩
                    · have d3 : (kd == 3) = false := by simpa using q3
                      clear q0 q1 q2 q3
                      go_wp2_with fail
                      go_meet
                      exact ⟨rfl, a, err, _, _, _, ha, by omega, RR.out, C6.out, RM.out, BY.out⟩

            case rest =>
              clear RR C6 RM BY z0 z1 z2 sV C9
              rename_i W0
              obtain ⟨rfl, a2, err2, AR3, nR3, cR3, ha2, sW, RR, C6, RM, BY⟩ := hcut
              rename World => W
              have nl : nR3 = m0 - a2 := by have h1 := RR.out.rd.len; rw [List.length_drop, RM.out.len] at h1; exact h1.symm
              obtain ⟨E, hE⟩ : ∃ E, E = rend nR3 err2 := ⟨_, rfl⟩
              have HE : Hid ((if err2 ≠ 0 then err2 else if 0 < m0 - a2 then 5 else 0) = E) := by show _ = _; rw [hE, ← nl]; rfl
              have HE2 : Hid (rend nR3 err2 = E) := hE.symm
              have wl : (m0 : Int) - (a2 : Int) = (nR3 : Int) := by omega
              have wl1 : IntKind.i64.wrap (nR3 : Int) = (nR3 : Int) := IntWalk.i64_in _ (by omega)
              have HNL := Lib.hid nl
              clear hE nl
              have B0 : Below W.heap.size W W.drew := ext_drew W
              go_upto_region 28 with fail
              refine wp_region_schedC (fun z => Below W.heap.size W z) [(true, 0), (true, 1), (true, 2), (true, 3), (true, 5), (true, 6), (false, 4), (true, 7), (true, 8), (true, 9), (true, 10), (true, 12), (true, 13), (true, 14), (true, 15), (true, 16), (true, 17), (false, 11), (true, 18), (true, 19), (true, 20), (true, 21), (true, 23), (false, 22), (false, 24), (true, 25), (true, 26)] (by kernel_rfl) rfl (by kernel_rfl) (by kernel_rfl) (fun _ _ d _ _ h => by cases d <;> exact h) B0 ?_
              have BD := Lib.hid B0
              clear B0
              intro J0 hJ0
              iterate 6 (refine schedC_pure (v := ?_) rfl (by rfl) ?_ ?_; rotate_left; (focus (intro z hC; obtain ⟨u0, u1, u2, _, _, _⟩ := full3f (keepB3 hC C6.out); go_simp; try with_reducible rfl)); try go_simp)
              refine schedC_eff rfl ?_
              intro J1 hJ1
              go_wp2_with fail
              refine (err_r _ b AR3 nR3 cR3 _ err2 (RR.out.ext BD.out)).mono ?_
              rintro e q1 ⟨rfl, rfl⟩
              go_wp2_with fail
              refine ⟨BD.out, ?_⟩
              iterate 10 (refine schedC_pure (v := ?_) rfl (by rfl) ?_ ?_; rotate_left; (focus (intro z hC; obtain ⟨u0, u1, u2, _, _, _⟩ := full3f (keepB3 hC C6.out); go_simp; try with_reducible rfl)); try go_simp)
              refine schedC_eff rfl ?_
              intro J2 hJ2
              go_wp2_with fail
              refine (left_r _ b AR3 nR3 cR3 _ err2 (RR.out.ext BD.out)).mono ?_
              rintro e q2 ⟨rfl, rfl⟩
              go_wp2_with fail
              refine ⟨BD.out, ?_⟩
              iterate 5 (refine schedC_pure (v := ?_) rfl (by rfl) ?_ ?_; rotate_left; (focus (intro z hC; obtain ⟨u0, u1, u2, _, _, _⟩ := full3f (keepB3 hC C6.out); go_simp; try with_reducible rfl)); try go_simp)
              refine schedC_eff rfl ?_
              intro J3 hJ3
              go_wp2_with fail
              refine (end_r _ b AR3 nR3 cR3 _ err2 (RR.out.ext BD.out)).mono ?_
              rw [HE2.out]
              rintro e q3 ⟨rfl, rfl⟩
              go_wp2_with fail
              refine ⟨BD.out, ?_⟩
              refine schedC_eff rfl ?_
              intro J4 hJ4
              go_wp2_with fail
              refine (rendR_c _ AM m0 cM a2 err2 ha2).mono ?_
              rw [HE.out]
              rintro e q4 ⟨rfl, hb⟩
              have BE := Lib.hid (ext_trans BD.out hb)
              clear hb
              go_wp2_with fail
              refine ⟨BE.out, ?_⟩
              iterate 2 (refine schedC_pure (v := ?_) rfl (by rfl) ?_ ?_; rotate_left; (focus (intro z hC; obtain ⟨u0, u1, u2, _, _, _⟩ := full3f (keepB3 hC C6.out); go_simp; try with_reducible rfl)); try go_simp)
              refine schedC_nil (hJ0 _ _ ?_)
              clear hJ0
              go_wp2_with fail
              exact ⟨⟨i + 1, a2, err2, AR3, nR3, cR3, by omega, by omega, ha2, Nat.lt_of_lt_of_le sW BE.out.size, by go_num, RR.out.ext BE.out, keepB3 BE.out C6.out, RM.out.ext BE.out, ext_trans BY.out BE.out⟩, by simp [intOf]; omega⟩

          · have g1I : (i : Int) < (n1 : Int) := by omega
            have g2I : ¬ (i : Int) < 30 := by omega
            go_wp2_with fail
            refine (known_c _).mono ?_
            rintro e w9 ⟨rfl, hb⟩
            go_wp2_with fail
            go_ret
            exact ⟨rfl, ext_trans BY.out hb⟩
        · have g1I : ¬ (i : Int) < (n1 : Int) := by omega
          go_wp2_with fail
          refine (known_c _).mono ?_
          rintro e w9 ⟨rfl, hb⟩
          go_wp2_with fail
          go_ret
          exact ⟨rfl, ext_trans BY.out hb⟩

theorem walkOctetReads (w : World) (A0 : Option Addr) (n0 c0 : Nat) (b0 : List UInt8) (A1 : Option Addr) (n1 c1 : Nat) (xs : List ActV) (h0 : Rd w A0 n0 c0 b0) (h1 : RdA w A1 n1 c1 xs) (hok : ∀ x ∈ xs, x.ok) :
    Calls Try.prog 5 #[.slice A0 n0 c0, .slice A1 n1 c1] w (Holds w) := reads_law w A0 n0 c0 b0 A1 n1 c1 xs h0 h1 hok
#print axioms walkOctetReads
end Go.Proofs.Ytgplamfjemmfnaa
