/-
  VeilOwn: the walk.
-/
import Derived.Test.YtdejlahgeckobaaVTold
import Derived.Test.YtdejlahgeckobaaHOpen
namespace Go.Proofs.Ytdejlahgeckobaa
open Go.RowKit

theorem Own.keptO {w w' : World} {E : TypeId} {B : Nat} {A : Option Addr} {n c : Nat} {bs : List UInt8} (h : Own w E B A n c bs) {r : Option Nat} (hk : w.grownBy w' r) (hne : ∀ g, (Value.slice A n c).ownBlock = some g → r ≠ some g) : Own w' E B A n c bs :=
  ⟨h.len, h.max, h.row.kept hk (by
    cases hv : (Value.slice A n c).ownBlock with
    | none => exact .inl rfl
    | some g => exact .inr (fun e => hne g hv (by first | exact e | exact e.symm)))⟩

set_option maxRecDepth 100000 in
set_option maxHeartbeats 4000000 in
theorem walkVeilOwn (w : World) (k : Nat) (A : Option Addr) (n c : Nat) (bs : List UInt8) (y0 : Nat) (hk : k < 18446744073709551616) (h0 : Rd w A n c bs) (hy : y0 < 256) :
    Calls Try.prog 14 #[digV k, .slice A n c, .int .u8 y0] w (Holds w) := by
  have h := Lib.hid h0
  clear h0
  have hle := h.out.le
  have hmax := h.out.max
  obtain ⟨m, hm⟩ : ∃ m, m = min n 300 := ⟨_, rfl⟩
  have m3 : m ≤ 300 := by omega
  have mn : m ≤ n := by omega
  have RM : Hid (Rd w A m c (bs.take m)) := h.out.front mn
  obtain ⟨ms, hms⟩ : ∃ l, l = bs.take m := ⟨_, rfl⟩
  rw [← hms] at RM
  have ML : Hid (ms.length = m) := RM.out.len
  have mI : (m : Int) ≤ (c : Int) := by omega
  have HM := Lib.hid hm
  clear hms hm
  obtain ⟨y, ey⟩ : ∃ y : UInt8, y0 = y.toNat := ⟨UInt8.ofNat y0, by rw [UInt8.toNat_ofNat']; omega⟩
  subst ey
  obtain ⟨P, hP⟩ : ∃ P, P = [1] ++ ms := ⟨_, rfl⟩
  obtain ⟨L, hL⟩ : ∃ L, L = 1 + m := ⟨_, rfl⟩
  have PL : Hid (P.length = L) := by rw [hP]; show _ = _; rw [List.length_append, ML.out, hL]; rfl
  have L1 : 0 < L := by omega
  have L2 : L ≤ 301 := by omega
  have HB : Hid (sealR k P = boxB k P) := by show _ = _; unfold sealR; rw [if_pos (by rw [PL.out]; omega)]
  have HO : Hid (openR k (boxB k P) = (P, 0)) := openR_box hk (by rw [PL.out]; omega)
  obtain ⟨X, hX⟩ : ∃ X, X = boxB k P := ⟨_, rfl⟩
  rw [← hX] at HB HO
  have HP := Lib.hid hP
  have HL := Lib.hid hL
  have lI0 : (0 : Int) < (L : Int) := by omega
  have qL : ((L : Int) != (L : Int)) = false := by simp
  clear hX hP hL hy
  unfold digV
  go_enter Try.func14, Try.ntmps14
  go_upto_region 1 with fail
  have DK : Hid ((World.alloc w (.cells #[.int .u8 (byt k 0), .int .u8 (byt k 1), .int .u8 (byt k 2), .int .u8 (byt k 3), .int .u8 (byt k 4), .int .u8 (byt k 5), .int .u8 (byt k 6), .int .u8 (byt k 7)] 31)).heap[w.heap.size]? = some (.cells #[.int .u8 (byt k 0), .int .u8 (byt k 1), .int .u8 (byt k 2), .int .u8 (byt k 3), .int .u8 (byt k 4), .int .u8 (byt k 5), .int .u8 (byt k 6), .int .u8 (byt k 7)] 31 (0, 0))) := Go.heap_alloc_new w _
  have B : Hid (Below w.heap.size w (World.alloc w (.cells #[.int .u8 (byt k 0), .int .u8 (byt k 1), .int .u8 (byt k 2), .int .u8 (byt k 3), .int .u8 (byt k 4), .int .u8 (byt k 5), .int .u8 (byt k 6), .int .u8 (byt k 7)] 31))) := ext_alloc _ _
  generalize World.alloc w (.cells #[.int .u8 (byt k 0), .int .u8 (byt k 1), .int .u8 (byt k 2), .int .u8 (byt k 3), .int .u8 (byt k 4), .int .u8 (byt k 5), .int .u8 (byt k 6), .int .u8 (byt k 7)] 31) = W at *
  have zk : w.heap.size < W.heap.size := (Array.getElem?_eq_some_iff.1 DK.out).1
  go_wp2_with fail
  have O0 : Hid (Own (World.alloc W (.cells #[.int .u8 1] 5)) 5 W.heap.size (some ⟨W.heap.size, 0, none⟩) 1 1 [1]) := ⟨rfl, by omega, World.ownsRow_lit W #[.int .u8 1] 1 (Nat.le_refl _) (by unfold maxLen; omega) rfl⟩
  replace DK := Lib.hid (keepA (x := .cells #[.int .u8 1] 5) DK.out)
  have C0 : Hid (Below W.heap.size W (World.alloc W (.cells #[.int .u8 1] 5))) := ext_alloc _ _
  generalize World.alloc W (.cells #[.int .u8 1] 5) = W1 at *
  refine (few_c W1 A n c bs (Lib.hid (h.out.ext (ext_trans B.out C0.out)))).mono ?_
  rw [← HM.out]
  rintro e w1 ⟨rfl, rfl⟩
  have RM1 := Lib.hid (RM.out.ext (ext_trans B.out C0.out))
  have z1 : W.heap.size ≤ W1.heap.size := C0.out.size
  go_wp2_with (refine wpList_push_all (o := ⟨some 18, _, _, _, _, _⟩) rfl (.tmp 15) (.tmp 17) 22 22 rfl 5 Try.underlying22 infoU8 W.heap.size _ 1 1 [1] (by rfl) O0.out _ m ms (by rfl) (RM1.out.src Try.underlying22) (by omega) z1 ?_; intro AP cP w2 ho hb; rw [← HL.out]; have OP : Hid (Own w2 5 W.heap.size AP L cP P) := (by rw [HL.out, HP.out]; exact ho); have C2 := Lib.hid (C0.out.trans hb); have D2 := Lib.hid (hb.block w.heap.size zk |>.trans DK.out); have tP := OP.out.rd.text (P := Try.prog) (t := 22) (t' := 9) Try.underlying22 Try.underlying5 Try.underlying9; clear ho hb; obtain ⟨k0, k1, k2, k3, k4, k5, k6, k7, _, _, _, _, _, _, _, _⟩ := full8 D2.out; go_simp)
  try rw [← show digV k = .agg #[.int .u8 (byt k 0), .int .u8 (byt k 1), .int .u8 (byt k 2), .int .u8 (byt k 3), .int .u8 (byt k 4), .int .u8 (byt k 5), .int .u8 (byt k 6), .int .u8 (byt k 7)] from rfl]
  have zP : W.heap.size ≤ w2.heap.size := C2.out.size
  replace B := Lib.hid (ext_trans B.out C2.out)
  refine (seal_c w2 k hk AP L cP P (Lib.hid OP.out.rd) (by omega)).mono ?_
  rw [HB.out]
  rintro e w3 ⟨E, AX, nX, cX, rfl, ho, hb⟩
  have OX := Lib.hid ho
  have D3 := Lib.hid (keepB hb D2.out)
  have OP3 := Lib.hid (OP.out.ext hb)
  replace B := Lib.hid (ext_trans B.out hb)
  have z3 : w2.heap.size ≤ w3.heap.size := hb.size
  have DP : Hid (∀ g, (Value.slice AP L cP).ownBlock = some g → W.heap.size ≤ g ∧ g < w2.heap.size) := fun g hg => OP.out.row.lt g hg
  have tX := ho.rd.text (P := Try.prog) (t := 22) (t' := 9) Try.underlying22 Try.underlying5 Try.underlying9
  have leX := ho.rd.le
  have mxX := ho.max
  clear ho hb tP D2 OP k0 k1 k2 k3 k4 k5 k6 k7 O0 C0 C2 RM1 DK
  obtain ⟨k0, k1, k2, k3, k4, k5, k6, k7, _, _, _, _, _, _, _, _⟩ := full8 D3.out; 
  go_wp2_with fail
  try rw [← show digV k = .agg #[.int .u8 (byt k 0), .int .u8 (byt k 1), .int .u8 (byt k 2), .int .u8 (byt k 3), .int .u8 (byt k 4), .int .u8 (byt k 5), .int .u8 (byt k 6), .int .u8 (byt k 7)] from rfl]
  refine (open_c w3 k hk AX nX cX X (Lib.hid OX.out.rd)).mono ?_
  rintro e w4 ⟨AY, nY, cY, err, rfl, ho, herr, hb⟩
  rw [HO.out] at ho herr
  obtain rfl : err = 0 := herr
  obtain rfl : L = nY := by rw [← ho.len, PL.out]
  have OY := Lib.hid ho
  have D4 := Lib.hid (keepB hb D3.out)
  have OP4 := Lib.hid (OP3.out.ext hb)
  have OX4 := Lib.hid (OX.out.ext hb)
  replace B := Lib.hid (ext_trans B.out hb)
  have z4 : w3.heap.size ≤ w4.heap.size := hb.size
  have DX : Hid (∀ g, (Value.slice AX nX cX).ownBlock = some g → w2.heap.size ≤ g ∧ g < w3.heap.size) := fun g hg => OX.out.row.lt g hg
  have leY := ho.rd.le
  have mxY := ho.max
  clear ho hb tX D3 OP3 OX k0 k1 k2 k3 k4 k5 k6 k7
  go_wp2_with fail
  refine (told_c _).mono ?_
  rintro e w5 ⟨rfl, hb⟩
  have D5 := Lib.hid (keepB hb D4.out)
  have OP5 := Lib.hid (OP4.out.ext hb)
  have OX5 := Lib.hid (OX4.out.ext hb)
  have OY5 := Lib.hid (OY.out.ext hb)
  replace B := Lib.hid (ext_trans B.out hb)
  have t1 := OP5.out.rd.text (P := Try.prog) (t := 22) (t' := 9) Try.underlying22 Try.underlying5 Try.underlying9
  have t2 := OX5.out.rd.text (P := Try.prog) (t := 22) (t' := 9) Try.underlying22 Try.underlying5 Try.underlying9
  clear hb D4 OP4 OX4 OY
  go_wp2_with fail
  clear t1 t2
  go_loopw [12] (fun iv wr => ∃ (i : Nat) (ys : List UInt8), i ≤ L ∧ iv = .int .i64 i ∧ Hid (Own wr 5 w3.heap.size AY L cY ys) ∧ Hid (w5.grownBy wr (Value.slice AY L cY).ownBlock)) (fun iv _ => L - (intOf iv).toNat)
  case atStart => exact ⟨0, _, Nat.zero_le _, rfl, OY5.out, World.grownBy.refl _ _⟩
  case round =>
    have DY : Hid (∀ g, (Value.slice AY L cY).ownBlock = some g → w3.heap.size ≤ g) := fun g hg => (OY5.out.row.lt g hg).1
    clear OY5
    rename World => w6
    obtain ⟨i, ys, hi, rfl, HO6, HG⟩ := hrel
    by_cases hlt : i < L
    · obtain ⟨g, rfl, _, _⟩ := HO6.out.blockless (by omega)
      obtain ⟨x, hx⟩ := HO6.out.get hlt
      have fr := HO6.out.row.frozenAt i
      obtain ⟨z, hz⟩ : ∃ z : UInt8, ((x.toNat : Int) + (y.toNat : Int)) % 256 = (z.toNat : Int) := ⟨x + y, by rw [UInt8.toNat_add]; omega⟩
      have hltI : (i : Int) < (L : Int) := by omega
      have hiI : (0 : Int) ≤ (i : Int) := by omega
      go_wp2_with fail
      exact ⟨⟨i + 1, _, by omega, by go_num, (HO6.out.set i z).1, grown_then HG.out (HO6.out.set i z).2⟩, by simp [intOf]; omega⟩
    · obtain rfl : L = i := by omega
      have D6 := Lib.hid ((HG.out.block _ (Array.getElem?_eq_some_iff.1 D5.out).1 (fun e => by have := DY.out _ e.symm; omega)).trans D5.out)
      have OP6 := Lib.hid (OP5.out.keptO HG.out (fun g hg e => by have := DY.out _ e; have := (DP.out g hg).2; omega))
      have OX6 := Lib.hid (OX5.out.keptO HG.out (fun g hg e => by have := DY.out _ e; have := (DX.out g hg).2; omega))
      replace B := Lib.hid (below_grown B.out B.out.size HG.out (fun k hk => by have := DY.out _ hk; omega))
      clear D5 OP5 OX5 HO6 HG DY
      obtain ⟨g, rfl, hg1, hg2⟩ := OP6.out.blockless L1
      have hgP := DP.out g rfl
      obtain ⟨x, hx⟩ := OP6.out.get (j := 0) L1
      have fr := OP6.out.row.frozenAt 0
      obtain ⟨z, hz⟩ : ∃ z : UInt8, ((x.toNat : Int) + (y.toNat : Int)) % 256 = (z.toNat : Int) := ⟨x + y, by rw [UInt8.toNat_add]; omega⟩
      have hLI : ¬ (L : Int) < (L : Int) := by omega
      go_upto_region 13 with fail
      have D7 : Hid ((w6.setCell ⟨g, 0, none⟩ (.int .u8 z.toNat)).heap[w.heap.size]? = some (.cells #[.int .u8 (byt k 0), .int .u8 (byt k 1), .int .u8 (byt k 2), .int .u8 (byt k 3), .int .u8 (byt k 4), .int .u8 (byt k 5), .int .u8 (byt k 6), .int .u8 (byt k 7)] 31 (0, 0))) := keepG (OP6.out.set 0 z).2 (by omega) D6.out
      have OX7 : Hid (Own (w6.setCell ⟨g, 0, none⟩ (.int .u8 z.toNat)) E w2.heap.size AX nX cX X) := OX6.out.keptNe (OP6.out.set 0 z).2 (fun g' hg' => by have := (DX.out g' hg').1; omega)
      replace B : Hid (Below w.heap.size w (w6.setCell ⟨g, 0, none⟩ (.int .u8 z.toNat))) := below_grown B.out B.out.size (OP6.out.set 0 z).2 (fun k hk => by injection hk with hk; omega)
      clear hx fr OP6 OX6 D6
      generalize w6.setCell ⟨g, 0, none⟩ (.int .u8 z.toNat) = w7 at *
      obtain ⟨k0, k1, k2, k3, k4, k5, k6, k7, _, _, _, _, _, _, _, _⟩ := full8 D7.out; 
      go_wp2_with fail
      try rw [← show digV k = .agg #[.int .u8 (byt k 0), .int .u8 (byt k 1), .int .u8 (byt k 2), .int .u8 (byt k 3), .int .u8 (byt k 4), .int .u8 (byt k 5), .int .u8 (byt k 6), .int .u8 (byt k 7)] from rfl]
      refine (open_c w7 k hk AX nX cX X (Lib.hid OX7.out.rd)).mono ?_
      rintro e w8 ⟨AZ, nZ, cZ, err, rfl, ho, herr, hb⟩
      rw [HO.out] at ho herr
      obtain rfl : err = 0 := herr
      have t1 := ho.rd.text (P := Try.prog) (t := 22) (t' := 9) Try.underlying22 Try.underlying5 Try.underlying9
      have t2 := (OX7.out.ext hb).rd.text (P := Try.prog) (t := 22) (t' := 9) Try.underlying22 Try.underlying5 Try.underlying9
      replace B := Lib.hid (ext_trans B.out hb)
      clear ho hb
      go_wp2_with fail
      go_ret
      exact ⟨by simp, B.out⟩
#print axioms walkVeilOwn
end Go.Proofs.Ytdejlahgeckobaa
