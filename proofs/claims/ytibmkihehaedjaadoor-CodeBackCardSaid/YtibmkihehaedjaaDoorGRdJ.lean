/-
  code: readInstr: the program's contract.
-/
import Derived.Test.YtibmkihehaedjaaDoorGRdI
import Derived.Test.YtibmkihehaedjaaDoorGRd2
namespace Go.Proofs.YtibmkihehaedjaaDoor
open Go.RowKit

def ReadsI (w : World) (b : Nat) (A : Option Addr) (n : Nat) (bs : List UInt8) (err : Int) (e : Ending) (w' : World) : Prop :=
  ∃ (i : Ins) (rest : List UInt8) (err' r : Int), e = .returned (.tuple #[.agg #[.int .i64 i.o, .int .i64 i.a, .int .i64 i.b, .int .i64 i.c], .int .i64 r]) ∧ (∃ A' n' c, Rdr w' b A' n' c rest err' ∧ SameBlk A n A' n') ∧ w.grownBy w' (some b) ∧ ReadI bs err i rest err' r
theorem ints3 {x0 x1 x2 : Int} (j : Nat) (v : Value) (h : (#[Value.int .i64 x0, Value.int .i64 x1, Value.int .i64 x2] : Array Value)[j]? = some v) : ∃ x : Int, v = Value.int .i64 x := by
  match j, h with
  | 0, h => exact ⟨x0, (Option.some.inj h).symm⟩
  | 1, h => exact ⟨x1, (Option.some.inj h).symm⟩
  | 2, h => exact ⟨x2, (Option.some.inj h).symm⟩
  | j + 3, h => simp at h
theorem full4f {w : World} {b : Nat} {T : TypeId} {x0 x1 x2 x3 : Value} (h : w.heap[b]? = some (.cells #[x0, x1, x2, x3] T (0, 0))) : w.cell? ⟨b, 0, none⟩ = some x0 ∧ w.cell? ⟨b, 1, none⟩ = some x1 ∧ w.cell? ⟨b, 2, none⟩ = some x2 ∧ w.cell? ⟨b, 3, none⟩ = some x3 ∧ w.frozen? ⟨b, 0, none⟩ = false ∧ w.frozen? ⟨b, 1, none⟩ = false ∧ w.frozen? ⟨b, 2, none⟩ = false ∧ w.frozen? ⟨b, 3, none⟩ = false :=
  ⟨(full4i h).1, (full4i h).2.1, (full4i h).2.2.1, (full4i h).2.2.2, by simp [World.frozen?, h], by simp [World.frozen?, h], by simp [World.frozen?, h], by simp [World.frozen?, h]⟩

def put4 (w : World) (g : Nat) (a b c d : Int) : World := (((w.setCell ⟨g, 0, none⟩ (.int .i64 a)).setCell ⟨g, 1, none⟩ (.int .i64 b)).setCell ⟨g, 2, none⟩ (.int .i64 c)).setCell ⟨g, 3, none⟩ (.int .i64 d)
theorem ints4 {x0 x1 x2 x3 : Int} (j : Nat) (v : Value) (h : (#[Value.int .i64 x0, Value.int .i64 x1, Value.int .i64 x2, Value.int .i64 x3] : Array Value)[j]? = some v) : ∃ x : Int, v = Value.int .i64 x := by
  match j, h with
  | 0, h => exact ⟨x0, (Option.some.inj h).symm⟩
  | 1, h => exact ⟨x1, (Option.some.inj h).symm⟩
  | 2, h => exact ⟨x2, (Option.some.inj h).symm⟩
  | 3, h => exact ⟨x3, (Option.some.inj h).symm⟩
  | j + 4, h => simp at h
section
variable {w : World} {g : Nat} {T : TypeId} {x0 x1 x2 x3 : Int} (h : w.heap[g]? = some (.cells #[.int .i64 x0, .int .i64 x1, .int .i64 x2, .int .i64 x3] T (0, 0))) (a b c d : Int)
include h
theorem put4_1 : (w.setCell ⟨g, 0, none⟩ (.int .i64 a)).heap[g]? = some (.cells #[.int .i64 a, .int .i64 x1, .int .i64 x2, .int .i64 x3] T (0, 0)) := setC_same w g 0 _ _ _ h
theorem put4_2 : ((w.setCell ⟨g, 0, none⟩ (.int .i64 a)).setCell ⟨g, 1, none⟩ (.int .i64 b)).heap[g]? = some (.cells #[.int .i64 a, .int .i64 b, .int .i64 x2, .int .i64 x3] T (0, 0)) := setC_same _ g 1 _ _ _ (put4_1 h a)
theorem put4_3 : (((w.setCell ⟨g, 0, none⟩ (.int .i64 a)).setCell ⟨g, 1, none⟩ (.int .i64 b)).setCell ⟨g, 2, none⟩ (.int .i64 c)).heap[g]? = some (.cells #[.int .i64 a, .int .i64 b, .int .i64 c, .int .i64 x3] T (0, 0)) := setC_same _ g 2 _ _ _ (put4_2 h a b)
theorem put4_blk : (put4 w g a b c d).heap[g]? = some (.cells #[.int .i64 a, .int .i64 b, .int .i64 c, .int .i64 d] T (0, 0)) := setC_same _ g 3 _ _ _ (put4_3 h a b c)
end
theorem put4_rdr {w : World} {g r : Nat} {T : TypeId} {x0 x1 x2 x3 : Int} {A : Option Addr} {n k : Nat} {bs : List UInt8} {err : Int} (hr : Rdr w r A n k bs err) (hne : g ≠ r) (h : w.heap[g]? = some (.cells #[.int .i64 x0, .int .i64 x1, .int .i64 x2, .int .i64 x3] T (0, 0))) (a b c d : Int) : Rdr (put4 w g a b c d) r A n k bs err :=
  (((hr.setAway hne h ints4).setAway hne (put4_1 h a) ints4).setAway hne (put4_2 h a b) ints4).setAway hne (put4_3 h a b c) ints4
theorem put4_grow {w w' : World} {r g : Nat} (h : w.grownBy w' (some r)) (hg : w.heap.size ≤ g) (a b c d : Int) : w.grownBy (put4 w' g a b c d) (some r) := grow_set (grow_set (grow_set (grow_set h hg) hg) hg) hg

set_option maxRecDepth 100000 in
set_option maxHeartbeats 4000000 in
theorem readInstr_c (w : World) (hf : Hid (Forms w)) (b : Nat) (hb0 : b ≠ 0) (A : Option Addr) (n c : Nat) (bs : List UInt8) (err : Int) (h : Hid (Rdr w b A n c bs err)) : Calls Tryd.prog 46 #[.pointer (some ⟨b, 0, none⟩)] w (ReadsI w b A n bs err) := by
  have HNZ := Lib.hid hb0
  clear hb0
  have hbl := h.out.lt
  have HST := Lib.hid (St.start bs err)
  obtain ⟨o, ho⟩ : ∃ o, o = (rnum bs err 21).1 := ⟨_, rfl⟩
  have ho21 : o ≤ 21 := by rw [ho]; exact rnum_most bs err 21
  have HOE := Lib.hid ho
  obtain ⟨q, hq⟩ : ∃ q, q = (hasB o).length := ⟨_, rfl⟩
  have hq3 : q ≤ 3 := by rw [hq]; exact (hasB_len o (by omega)).2
  have HQ := Lib.hid hq
  obtain ⟨S, hS⟩ : ∃ S : ByteArray, S = ⟨(hasB o).toArray⟩ := ⟨_, rfl⟩
  have HSZ : S.size = q := by rw [hS, hq]; rfl
  have CH : Hid (∀ w, Forms w → w.cell? ⟨0, o * 2 + 1, none⟩ = some (.string S)) := fun w h => by rw [hS]; exact h.has o (by omega)
  have w1 : IntKind.i64.wrap (o : Int) = (o : Int) := IntWalk.i64_in _ (by omega)
  have oI : (o : Int) < 22 := by omega
  have oI0 : (0 : Int) ≤ (o : Int) := by omega
  have qI : (q : Int) ≤ 3 := by omega
  clear ho hq hS
  go_enter Tryd.func46, Tryd.ntmps46
  go_wp2_with fail
  obtain ⟨g2, hg2⟩ : ∃ g, g = w.heap.size := ⟨_, rfl⟩
  obtain ⟨U1, hU1⟩ : ∃ U, U = World.alloc w (.cells #[.int .i64 0, .int .i64 0, .int .i64 0, .int .i64 0] 33) := ⟨_, rfl⟩
  have C2 : Hid (U1.heap[g2]? = some (.cells #[.int .i64 0, .int .i64 0, .int .i64 0, .int .i64 0] 33 (0, 0))) := by rw [hU1, hg2]; exact Go.heap_alloc_new w _
  have BU : Hid (Below w.heap.size w U1) := by rw [hU1]; exact ext_alloc w _
  have g2w : w.heap.size ≤ g2 := by omega
  have bg2 : b < g2 := by omega
  rw [← hU1, ← hg2]
  clear hU1 hg2
  refine (num_r2 _ b A n c bs err (h.out.ext BU.out) 21).mono ?_
  rw [← HOE.out]
  rintro e w2 ⟨rfl, A2, n2, c2, hR, hg, hsb⟩
  have SB := Lib.hid hsb
  clear hsb
  replace C2 := Lib.hid (grow_blk hg C2.out (by omega))
  have HG : Hid (w.grownBy w2 (some b)) := grownBy_ext BU.out hg
  have HF := Lib.hid ((hf.out.ext BU.out).grown hg HNZ.out)
  have RR := Lib.hid hR
  clear hR hg BU h hf
  go_upto_region 3 with fail
  obtain ⟨g5, hg5⟩ : ∃ g, g = w2.heap.size := ⟨_, rfl⟩
  obtain ⟨U, hU⟩ : ∃ U, U = World.alloc w2 (.cells #[.int .i64 0, .int .i64 0, .int .i64 0] 70) := ⟨_, rfl⟩
  have C5 : Hid (U.heap[g5]? = some (.cells #[.int .i64 ((fun _ : Nat => (0 : Int)) 0), .int .i64 ((fun _ : Nat => (0 : Int)) 1), .int .i64 ((fun _ : Nat => (0 : Int)) 2)] 70 (0, 0))) := by rw [hU, hg5]; exact Go.heap_alloc_new w2 _
  have BU : Hid (Below w2.heap.size w2 U) := by rw [hU]; exact ext_alloc w2 _
  have g5w : w.heap.size ≤ g5 := by have := HG.out.size; omega
  have g25 : g2 < g5 := by rw [hg5]; exact (Array.getElem?_eq_some_iff.1 C2.out).1
  replace C2 := Lib.hid (keepG BU.out C2.out)
  replace RR := Lib.hid (RR.out.ext BU.out)
  replace HG := Lib.hid (grownBy_more HG.out BU.out)
  replace HF := Lib.hid (HF.out.ext BU.out)
  rw [← hU, ← hg5]
  clear hU hg5 BU
  have ch := CH.out U HF.out
  clear CH
  go_wp2_with fail
  clear ch
  go_loopw [15] (fun iv wr => ∃ (k : Nat) (t : Nat → Int) (bk : List UInt8) (ek : Int) (A' : Option Addr) (n' c' : Nat), k ≤ q ∧ Hid (SameBlk A n A' n') ∧ iv = .int .i64 k ∧ Hid (St bs err k t bk ek) ∧ Hid (Rdr wr b A' n' c' bk ek) ∧ Hid (w.grownBy wr (some b)) ∧ Hid (wr.heap[g2]? = some (.cells #[.int .i64 0, .int .i64 0, .int .i64 0, .int .i64 0] 33 (0, 0))) ∧ Hid (wr.heap[g5]? = some (.cells #[.int .i64 (t 0), .int .i64 (t 1), .int .i64 (t 2)] 70 (0, 0)))) (fun iv _ => q - (intOf iv).toNat)
  case atStart => exact ⟨0, _, _, _, A2, n2, c2, Nat.zero_le _, SB.out, rfl, HST.out, RR.out, HG.out, C2.out, C5.out⟩
  case round =>
    clear HST RR HG C2 C5 HF SB
    obtain ⟨k, t, bk, ek, A', n', c', hk, SB, rfl, HST, RR, HG, C2, C5⟩ := hrel
    by_cases hlt : k < q
    · have k3 : k < 3 := by omega
      have hltI : (k : Int) < (q : Int) := by omega
      have hkI : (0 : Int) ≤ (k : Int) := by omega
      have k3I : (k : Int) < 3 := by omega
      go_wp2_with fail
      refine (int_r2 _ b A' n' c' bk ek RR.out).mono ?_
      obtain ⟨v, hv⟩ : ∃ v, v = unfold_ (rnum bk ek 18446744073709551615).1 := ⟨_, rfl⟩
      rw [← hv]
      rintro e v2 ⟨rfl, A3, n3, c3, hR, hg, hsb⟩
      replace SB := Lib.hid (SB.out.trans hsb)
      clear hsb
      have HV := Lib.hid hv
      replace C2 := Lib.hid (grow_blk hg C2.out (by omega))
      replace C5 := Lib.hid (grow_blk hg C5.out (by omega))
      replace HG := Lib.hid (grownBy_trans HG.out hg)
      replace RR := Lib.hid hR
      obtain ⟨e5, f5⟩ := three_cell k3 C5.out
      clear hR hg hv
      go_upto_region 7 with fail
      clear e5 f5
      obtain ⟨V, hV⟩ : ∃ V, V = World.setCell v2 ⟨g5, k, none⟩ (.int .i64 v) := ⟨_, rfl⟩
      have D5 : Hid (V.heap[g5]? = some (.cells #[.int .i64 (upd t k v 0), .int .i64 (upd t k v 1), .int .i64 (upd t k v 2)] 70 (0, 0))) := by rw [hV]; exact three_upd k3 C5.out
      have D2 : Hid (V.heap[g2]? = some (.cells #[.int .i64 0, .int .i64 0, .int .i64 0, .int .i64 0] 33 (0, 0))) := by
        rw [hV]
        exact (Below.heap_setCell _ _ _ _ (fun e => by have e2 : g2 = g5 := e; omega)).trans C2.out
      replace RR : Hid (Rdr V b A3 n3 c3 (rnum bk ek 18446744073709551615).2.1 (rnum bk ek 18446744073709551615).2.2) := by rw [hV]; exact RR.out.setAway (by omega) C5.out ints3
      replace HG : Hid (w.grownBy V (some b)) := by rw [hV]; exact grow_set HG.out g5w
      rw [← hV]
      clear hV C5 C2
      obtain ⟨e5, f5⟩ := three_cell k3 D5.out
      rw [show upd t k v k = v by unfold upd; rw [if_pos rfl]] at e5
      by_cases hr : -2147483648 ≤ v ∧ v ≤ 2147483647
      · have HST2 := Lib.hid (HST.out.stay (by rw [← HOE.out, ← HQ.out]; exact hlt) v HV.out hr)
        obtain ⟨hr1, hr2⟩ := hr
        clear HST
        go_wp2_with fail
        refine (inRange_t _ _ hr1 hr2).mono ?_
        rintro e w' ⟨rfl, rfl⟩
        clear e5 f5 hr1 hr2
        go_wp2_with fail
        exact ⟨⟨k + 1, upd t k v, _, _, A3, n3, c3, by omega, SB.out, by go_num, HST2.out, RR.out, HG.out, D2.out, D5.out⟩, by simp [intOf]; omega⟩
      · have HX := Lib.hid (HST.out.out (by rw [← HOE.out, ← HQ.out]; exact hlt) v HV.out hr)
        have HR := Lib.hid hr
        clear HST hr
        go_wp2_with fail
        refine (inRange_f _ _ HR.out).mono ?_
        rintro e w' ⟨rfl, rfl⟩
        clear e5 f5
        obtain ⟨x0, x1, x2, x3, y0, y1, y2, y3⟩ := full4f D2.out
        go_wp2_with fail
        clear x0 x1 x2 x3 y0 y1 y2 y3
        obtain ⟨W, hW⟩ : ∃ W, W = put4 V g2 0 0 0 0 := ⟨_, rfl⟩
        have E2 : Hid (W.heap[g2]? = some (.cells #[.int .i64 0, .int .i64 0, .int .i64 0, .int .i64 0] 33 (0, 0))) := by rw [hW]; exact put4_blk D2.out 0 0 0 0
        replace RR : Hid (Rdr W b A3 n3 c3 (rnum bk ek 18446744073709551615).2.1 (rnum bk ek 18446744073709551615).2.2) := by rw [hW]; exact put4_rdr RR.out (by omega) D2.out 0 0 0 0
        replace HG : Hid (w.grownBy W (some b)) := by rw [hW]; exact put4_grow HG.out g2w 0 0 0 0
        unfold put4 at hW
        rw [← hW]
        clear hW D2 D5
        obtain ⟨x0, x1, x2, x3⟩ := full4i E2.out
        refine bodyPost_ret (v := .tuple #[.agg #[.int .i64 0, .int .i64 0, .int .i64 0, .int .i64 0], .int .i64 2]) (by simp only [results, Tryd.results46]; simp [go_sem, x0, x1, x2, x3]) rfl ?_
        exact ⟨noIns, _, _, 2, rfl, ⟨A3, n3, c3, RR.out, SB.out⟩, HG.out, fun h => absurd HX.out.1 h, fun _ => .inr (.inl ⟨rfl, HX.out.2⟩)⟩
    · obtain rfl : k = q := by omega
      obtain ⟨x0, x1, x2⟩ := full3i C5.out
      have HFIN : Hid (ReadI bs err ⟨o, t 0, t 1, t 2⟩ bk ek 0) := by
        have h1 := HST.out
        rw [HQ.out, HOE.out] at h1
        have h2 := h1.fin
        rw [← HOE.out] at h2
        exact h2
      clear HST
      go_wp2_with fail
      clear x0 x1 x2
      refine (build_c _ o (t 0) (t 1) (t 2)).mono ?_
      rintro e v2 ⟨rfl, hb⟩
      replace C2 := Lib.hid (keepG hb C2.out)
      replace RR := Lib.hid (RR.out.ext hb)
      replace HG := Lib.hid (grownBy_more HG.out hb)
      clear hb C5
      obtain ⟨x0, x1, x2, x3, y0, y1, y2, y3⟩ := full4f C2.out
      go_wp2_with fail
      clear x0 x1 x2 x3 y0 y1 y2 y3
      obtain ⟨W, hW⟩ : ∃ W, W = put4 v2 g2 o (t 0) (t 1) (t 2) := ⟨_, rfl⟩
      have E2 : Hid (W.heap[g2]? = some (.cells #[.int .i64 o, .int .i64 (t 0), .int .i64 (t 1), .int .i64 (t 2)] 33 (0, 0))) := by rw [hW]; exact put4_blk C2.out _ _ _ _
      replace RR : Hid (Rdr W b A' n' c' bk ek) := by rw [hW]; exact put4_rdr RR.out (by omega) C2.out _ _ _ _
      replace HG : Hid (w.grownBy W (some b)) := by rw [hW]; exact put4_grow HG.out g2w _ _ _ _
      unfold put4 at hW
      rw [← hW]
      clear hW C2
      obtain ⟨x0, x1, x2, x3⟩ := full4i E2.out
      refine bodyPost_ret (v := .tuple #[.agg #[.int .i64 o, .int .i64 (t 0), .int .i64 (t 1), .int .i64 (t 2)], .int .i64 0]) (by simp only [results, Tryd.results46]; simp [go_sem, x0, x1, x2, x3]) rfl ?_
      exact ⟨⟨o, t 0, t 1, t 2⟩, _, _, 0, rfl, ⟨A', n', c', RR.out, SB.out⟩, HG.out, HFIN.out⟩
#print axioms readInstr_c
end Go.Proofs.YtibmkihehaedjaaDoor
