/-
  HashSame: the walk.
-/
import Derived.Test.YtdejlahgeckobaaHKnown
import Derived.Test.YtdejlahgeckobaaHSam
import Derived.Test.YtdejlahgeckobaaHByt0
import Derived.Test.YtdejlahgeckobaaHFrame
import Derived.Test.YtdejlahgeckobaaHPushG
import Derived.Test.YtdejlahgeckobaaHOpen
namespace Go.Proofs.Ytdejlahgeckobaa
open Go.RowKit

/-- a slice from place k on, as the model has it -/
theorem Rd.from_ {w : World} {A : Option Addr} {n c : Nat} {bs : List UInt8} (h : Rd w A n c bs) {k : Nat} (hk : k ≤ n) : Rd w (if c = k then A else Option.map (fun x => x.add k) A) (n - k) (c - k) (bs.drop k) := by
  by_cases hn : n = 0
  · subst hn
    obtain rfl : k = 0 := by omega
    have hz : bs = [] := List.eq_nil_of_length_eq_zero h.len
    subst hz
    refine ⟨rfl, by omega, by have := h.max; omega, fun h0 => absurd h0 (by omega), fun hA => ?_⟩
    by_cases hc : c = 0
    · omega
    · rw [if_neg hc] at hA
      cases A with
      | none => have := h.none_ rfl; omega
      | some a => simp at hA
  · obtain ⟨b, o, rfl, hb, hc⟩ := h.cells (by omega)
    have hle := h.le
    by_cases hck : c = k
    · subst hck
      have : n = c := by omega
      subst this
      rw [if_pos rfl]
      exact ⟨by rw [List.length_drop, h.len], by omega, by omega, fun h0 => absurd h0 (by omega), fun e => by cases e⟩
    · rw [if_neg hck]
      show Rd w (some ((⟨b, o, none⟩ : Addr).add k)) (n - k) (c - k) (bs.drop k)
      rw [Addr.add_lit]
      exact h.from1 hk

theorem Own.keptO {w w' : World} {E : TypeId} {B : Nat} {A : Option Addr} {n c : Nat} {bs : List UInt8} (h : Own w E B A n c bs) {r : Option Nat} (hk : w.grownBy w' r) (hne : ∀ g, (Value.slice A n c).ownBlock = some g → r ≠ some g) : Own w' E B A n c bs :=
  ⟨h.len, h.max, h.row.kept hk (by
    cases hv : (Value.slice A n c).ownBlock with
    | none => exact .inl rfl
    | some g => exact .inr (fun e => hne g hv (by first | exact e | exact e.symm)))⟩

theorem WrAt.keepR {w w' : World} {T : TypeId} {b : Nat} {X : Value} {s : St} (h : WrAt w T b X s) {r : Option Nat} (hg : w.grownBy w' r) (hne : r ≠ some b) : WrAt w' T b X s :=
  ⟨(hg.block b (Array.getElem?_eq_some_iff.1 h.blk).1 (fun e => hne e.symm)).trans h.blk, h.ok⟩

set_option maxRecDepth 100000 in
set_option maxHeartbeats 4000000 in
theorem same_long (w : World) (A : Option Addr) (n c : Nat) (bs : List UInt8) (A1 : Option Addr) (n1 c1 : Nat) (cs : List UInt8) (m : Nat) (A3 : Option Addr) (n3 c3 : Nat) (ms : List UInt8)
    (h' : Rd w A n c bs) (h1' : Rd w A1 n1 c1 cs) (h3' : Rd w A3 n3 c3 ms) (hl : n > 400 ∨ (n ≤ 400 ∧ n1 > 400) ∨ (n ≤ 400 ∧ n1 ≤ 400 ∧ n3 > 400)) :
    Calls Try.prog 3 #[.slice A n c, .slice A1 n1 c1, .int .u16 m, .slice A3 n3 c3] w (Holds w) := by
  have f1 := h'.le
  have f2 := h'.max
  have f3 := h1'.le
  have f4 := h1'.max
  have f5 := h3'.le
  have f6 := h3'.max
  clear h' h1' h3'
  rcases hl with hl | ⟨hn, hl⟩ | ⟨hn, hn1, hl⟩
  · have hI : (400 : Int) < (n : Int) := by omega
    clear hl
    go_enter Try.func3, Try.ntmps3
    go_wp2_with fail
    refine (known_c _).mono ?_
    rintro e w1 ⟨rfl, hb1⟩
    have B := Lib.hid hb1
    clear hb1
    go_wp2_with fail
    refine (known_c _).mono ?_
    rintro e w2 ⟨rfl, hb2⟩
    go_wp2_with fail
    go_ret
    exact ⟨rfl, ext_trans B.out hb2⟩
  · have hI0 : ¬ (400 : Int) < (n : Int) := by omega
    have hI : (400 : Int) < (n1 : Int) := by omega
    clear hl hn
    go_enter Try.func3, Try.ntmps3
    go_wp2_with fail
    refine (known_c _).mono ?_
    rintro e w1 ⟨rfl, hb1⟩
    have B := Lib.hid hb1
    clear hb1
    go_wp2_with fail
    refine (known_c _).mono ?_
    rintro e w2 ⟨rfl, hb2⟩
    go_wp2_with fail
    go_ret
    exact ⟨rfl, ext_trans B.out hb2⟩
  · have hI0 : ¬ (400 : Int) < (n : Int) := by omega
    have hI1 : ¬ (400 : Int) < (n1 : Int) := by omega
    have hI : (400 : Int) < (n3 : Int) := by omega
    clear hl hn hn1
    go_enter Try.func3, Try.ntmps3
    go_wp2_with fail
    refine (known_c _).mono ?_
    rintro e w1 ⟨rfl, hb1⟩
    have B := Lib.hid hb1
    clear hb1
    go_wp2_with fail
    refine (known_c _).mono ?_
    rintro e w2 ⟨rfl, hb2⟩
    go_wp2_with fail
    go_ret
    exact ⟨rfl, ext_trans B.out hb2⟩

set_option maxRecDepth 100000 in
set_option maxHeartbeats 4000000 in
theorem same_short (w : World) (A : Option Addr) (n c : Nat) (bs : List UInt8) (A1 : Option Addr) (n1 c1 : Nat) (cs : List UInt8) (m : Nat) (A3 : Option Addr) (n3 c3 : Nat) (ms : List UInt8)
    (h' : Hid (Rd w A n c bs)) (h1' : Hid (Rd w A1 n1 c1 cs)) (h3' : Hid (Rd w A3 n3 c3 ms)) (hm : m < 65536) (l0 : n ≤ 400) (l1 : n1 ≤ 400) (l3 : n3 ≤ 400) :
    Calls Try.prog 3 #[.slice A n c, .slice A1 n1 c1, .int .u16 m, .slice A3 n3 c3] w (Holds w) := by
  have f1 := h'.out.le
  have f2 := h'.out.max
  have f3 := h1'.out.le
  have f4 := h1'.out.max
  have f5 := h3'.out.le
  have f6 := h3'.out.max
  have g0 : ¬ (400 : Int) < (n : Int) := by omega
  have g1 : ¬ (400 : Int) < (n1 : Int) := by omega
  have g3 : ¬ (400 : Int) < (n3 : Int) := by omega
  obtain ⟨k, hk⟩ : ∃ k : Nat, k = m % (n + 1) := ⟨_, rfl⟩
  have kn : k ≤ n := by have := Nat.mod_lt m (show 0 < n + 1 by omega); omega
  have ek : (m : Int).tmod ((n : Int) + 1) = (k : Int) := by rw [Int.tmod_eq_emod_of_nonneg (by omega), hk, show ((n : Int) + 1) = ((n + 1 : Nat) : Int) from rfl]; exact (Int.natCast_emod m (n + 1)).symm
  clear hk
  obtain ⟨A', hA'⟩ : ∃ A', A' = (if c = k then A else Option.map (fun x => x.add k) A) := ⟨_, rfl⟩
  have RF : Hid (Rd w A' (n - k) (c - k) (bs.drop k)) := by rw [hA']; exact h'.out.from_ kn
  have eA : (if c = k then A else Option.map (fun x => x.add k) A) = A' := hA'.symm
  clear hA'
  have RT : Hid (Rd w A k c (bs.take k)) := h'.out.front kn
  go_enter Try.func3, Try.ntmps3
  go_wp2_with fail
  refine (known_c _).mono ?_
  rintro e w1 ⟨rfl, hb1⟩
  have B1 := Lib.hid hb1
  clear hb1
  go_wp2_with fail
  refine (newWriter_c _).mono ?_
  rintro e w2 ⟨b, hbw, rfl, hw, hb2⟩
  have W2 := Lib.hid hw
  have B2 := Lib.hid (ext_trans B1.out hb2)
  have pb : w.heap.size ≤ b := Nat.le_trans B1.out.size hbw
  have zb2 : b < w2.heap.size := (Array.getElem?_eq_some_iff.1 hw.blk).1
  clear hw hb2 B1 hbw
  go_wp2_with fail
  refine (newWriter_c _).mono ?_
  rintro e w3 ⟨b2, hbw, rfl, hw, hb2⟩
  have V3 := Lib.hid hw
  have W3 := Lib.hid (W2.out.keep hb2)
  have B3 := Lib.hid (ext_trans B2.out hb2)
  have zv : b2 < w3.heap.size := (Array.getElem?_eq_some_iff.1 hw.blk).1
  have zb : b < w3.heap.size := Nat.lt_of_lt_of_le zb2 hb2.size
  have pv : w.heap.size ≤ b2 := by omega
  have hne : b ≠ b2 := by omega
  clear hw hb2 B2 W2 zb2 hbw
  go_wp2_with fail
  refine (write_c w3 74 w3.heap.size b zb (Nat.le_refl _) none 0 0 [] W3 (Lib.hid (Own.void _ _ _)) A k c (bs.take k) (Lib.hid (RT.out.ext B3.out)) (by omega)).mono ?_
  rintro e w4 ⟨A4, c4, rfl, hw4, ho4, hat4, v, hv1, hv2⟩
  have HLk : (bs.take k).length = k := by rw [List.length_take, h'.out.len]; omega
  rw [List.nil_append, HLk] at hw4 ho4 hat4
  have Bv := below_grown (Below.refl w3.heap.size w3) (Nat.le_refl _) hv1 (fun k hk => by simp [Value.ownBlock] at hk)
  have W4 := Lib.hid hw4
  have O4 := Lib.hid ho4
  have V4 := Lib.hid ((V3.out.keep Bv).keepG hv2 (Ne.symm hne))
  have Bw := B3.out.trans (Bv.mono B3.out.size)
  have B4 := Lib.hid (below_grown Bw Bw.size hv2 (fun k hk => by injection hk with hk; omega))
  have Z4 : w3.heap.size ≤ w4.heap.size := Nat.le_trans Bv.size hv2.size
  clear hw4 ho4 hat4 hv1 hv2 Bv Bw W3 V3 HLk
  go_wp2_with fail
  refine (write_c w4 74 w3.heap.size b zb Z4 A4 k c4 (bs.take k) W4 O4 A' (n - k) (c - k) (bs.drop k) (Lib.hid (RF.out.ext B4.out)) (by omega)).mono ?_
  rintro e w5 ⟨A5, c5, rfl, hw5, ho5, hat5, v, hv1, hv2⟩
  rw [List.take_append_drop, h'.out.len] at hw5 ho5 hat5
  have W5 := Lib.hid hw5
  have O5 := Lib.hid ho5
  have V5 := Lib.hid ((V4.out.keepR hv1 (fun e => by have := (O4.out.row.lt _ e).1; omega)).keepG hv2 (Ne.symm hne))
  have Bw := below_grown B4.out B4.out.size hv1 (fun k hk => by have := (O4.out.row.lt k hk).1; have := B3.out.size; omega)
  have B5 := Lib.hid (below_grown Bw Bw.size hv2 (fun k hk => by injection hk with hk; omega))
  have Z5 : w3.heap.size ≤ w5.heap.size := Nat.le_trans Z4 (Nat.le_trans hv1.size hv2.size)
  clear hw5 ho5 hat5 hv1 hv2 Bw W4 V4 O4 B4 Z4
  go_wp2_with fail
  refine (write_c w5 74 w3.heap.size b2 zv Z5 none 0 0 [] V5 (Lib.hid (Own.void _ _ _)) A1 n1 c1 cs (Lib.hid (h1'.out.ext B5.out)) (by omega)).mono ?_
  rintro e w6 ⟨A6, c6, rfl, hw6, ho6, hat6, v, hv1, hv2⟩
  rw [List.nil_append, h1'.out.len] at hw6 ho6 hat6
  have V6 := Lib.hid hw6
  have P6 := Lib.hid ho6
  have Bv := below_grown (Below.refl w5.heap.size w5) (Nat.le_refl _) hv1 (fun k hk => by simp [Value.ownBlock] at hk)
  have W6 := Lib.hid ((W5.out.keep Bv).keepG hv2 hne)
  have O6 := Lib.hid ((O5.out.ext Bv).keptNe hv2 (fun g hg => by have := (O5.out.row.lt g hg).1; omega))
  have Bw := B5.out.trans (Bv.mono B5.out.size)
  have B6 := Lib.hid (below_grown Bw Bw.size hv2 (fun k hk => by injection hk with hk; omega))
  clear hw6 ho6 hat6 hv1 hv2 Bv Bw W5 V5 O5 B5 Z5
  obtain ⟨q, hq⟩ : ∃ q, q = (bs == cs) := ⟨_, rfl⟩
  have Q1 : Hid ((bs == cs) = q) := hq.symm
  have Q2 : Hid ((cs == bs) = q) := by show _ = q; rw [hq, Bool.eq_iff_iff, beq_iff_eq, beq_iff_eq]; exact eq_comm
  have Q3 : (q != q) = false := by simp
  clear hq
  go_wp2_with fail
  refine (wsame_c w6 _ _ _ _ _ _ _ _ _ _ _ _ _ _ W6 O6 (by omega) V6 P6 (by omega)).mono ?_
  rw [Q1.out]
  rintro e w7 ⟨rfl, hb⟩
  have C7 : Hid (Below w6.heap.size w6 w7) := hb
  clear hb
  go_wp2_with fail
  have D7 := Lib.hid (B6.out.trans (C7.out.mono B6.out.size))
  refine (lsame_c w7 A n c bs (Lib.hid (h'.out.ext D7.out)) A1 n1 c1 cs (Lib.hid (h1'.out.ext D7.out))).mono ?_
  rw [Q1.out]
  rintro e w8 ⟨rfl, hb⟩
  have C8 : Hid (Below w6.heap.size w6 w8) := Lib.hid (ext_trans C7.out hb)
  clear hb C7 D7
  go_wp2_with fail
  refine (wsame_c w8 _ _ _ _ _ _ _ _ _ _ _ _ _ _ (Lib.hid (V6.out.keep C8.out)) (Lib.hid (P6.out.ext C8.out)) (by omega) (Lib.hid (W6.out.keep C8.out)) (Lib.hid (O6.out.ext C8.out)) (by omega)).mono ?_
  rw [Q2.out]
  rintro e w9 ⟨rfl, hb⟩
  have C9 : Hid (Below w6.heap.size w6 w9) := Lib.hid (ext_trans C8.out hb)
  clear hb C8
  go_wp2_with fail
  have D9 := Lib.hid (B6.out.trans (C9.out.mono B6.out.size))
  refine (lsame_c w9 A n c bs (Lib.hid (h'.out.ext D9.out)) A1 n1 c1 cs (Lib.hid (h1'.out.ext D9.out))).mono ?_
  rw [Q1.out]
  rintro e w10 ⟨rfl, hb⟩
  have C10 : Hid (Below w6.heap.size w6 w10) := Lib.hid (ext_trans C9.out hb)
  clear hb C9 D9
  go_wp2_with fail
  refine (wsame_c w10 _ _ _ _ _ _ _ _ _ _ _ _ _ _ (Lib.hid (W6.out.keep C10.out)) (Lib.hid (O6.out.ext C10.out)) (by omega) (Lib.hid (W6.out.keep C10.out)) (Lib.hid (O6.out.ext C10.out)) (by omega)).mono ?_
  rw [beq_self_eq_true]
  rintro e w11 ⟨rfl, hb⟩
  have C11 : Hid (Below w6.heap.size w6 w11) := Lib.hid (ext_trans C10.out hb)
  clear hb C10
  go_wp2_with fail
  refine (sameNo_c w11 _).mono ?_
  rintro e w12 ⟨rfl, hb⟩
  have C12 : Hid (Below w6.heap.size w6 w12) := Lib.hid (ext_trans C11.out hb)
  clear hb C11
  replace W6 := Lib.hid (W6.out.keep C12.out)
  replace O6 := Lib.hid (O6.out.ext C12.out)
  replace B6 := Lib.hid (B6.out.trans (C12.out.mono B6.out.size))
  clear C12 V6 P6
  go_wp2_with fail
  refine (wclone_c w12 74 w3.heap.size b A5 n c5 bs _ W6 O6 (by omega)).mono ?_
  rintro e w13 ⟨b3, A7, c7, rfl, hb3, hw7, ho7, hlt7, hb7⟩
  have K7 := Lib.hid hw7
  have L7 := Lib.hid ho7
  have LT7 := Lib.hid hlt7
  have W7 := Lib.hid (W6.out.keep hb7)
  have O7 := Lib.hid (O6.out.ext hb7)
  have B7 := Lib.hid (B6.out.trans (hb7.mono B6.out.size))
  have zb12 : b < w12.heap.size := (Array.getElem?_eq_some_iff.1 W6.out.blk).1
  have z12 : w.heap.size ≤ w12.heap.size := B6.out.size
  have z13 : w12.heap.size ≤ w13.heap.size := hb7.size
  have DJ : Hid (∀ g, (Value.slice A5 n c5).ownBlock = some g → g < w12.heap.size) := fun g hg => (O6.out.row.lt g hg).2
  clear hw7 ho7 hlt7 hb7 W6 O6 B6
  go_wp2_with fail
  refine (wsame_c w13 _ _ _ _ _ _ _ _ _ _ _ _ _ _ K7 L7 (by omega) W7 O7 (by omega)).mono ?_
  rw [beq_self_eq_true]
  rintro e w14 ⟨rfl, hb⟩
  have C14 := Lib.hid hb
  clear hb
  go_wp2_with fail
  refine (write_g w14 74 w12.heap.size b3 (Nat.le_trans z13 C14.out.size) A7 n c7 bs (Lib.hid (K7.out.keep C14.out)) (Lib.hid (L7.out.ext C14.out)) (Lib.hid (fun g hg => by have := LT7.out g hg; omega)) A3 n3 c3 ms (Lib.hid (h3'.out.ext (B7.out.trans (C14.out.mono B7.out.size)))) (by omega)).mono ?_
  rintro e w15 ⟨A8, c8, rfl, hw8, ho8, hat8, v, hv1, hv2⟩
  have HLm : (bs ++ ms).length = n + n3 := by rw [List.length_append, h'.out.len, h3'.out.len]
  rw [HLm] at hw8 ho8
  have K8 := Lib.hid hw8
  have L8 := Lib.hid ho8
  have L7' := L7.out.ext C14.out
  have W8 := Lib.hid (((W7.out.keep C14.out).keepR hv1 (fun e => by have := (L7'.row.lt _ e).1; omega)).keepG hv2 (by omega))
  have O8 := Lib.hid (((O7.out.ext C14.out).keptO hv1 (fun g hg e => by have := DJ.out g hg; have := (L7'.row.lt _ e).1; omega)).keptNe hv2 (fun g hg => by have := DJ.out g hg; omega))
  have Bw := below_grown (B7.out.trans (C14.out.mono B7.out.size)) (Nat.le_trans B7.out.size C14.out.size) hv1 (fun k hk => by have := (L7'.row.lt k hk).1; omega)
  have B8 := Lib.hid (below_grown Bw Bw.size hv2 (fun k hk => by injection hk with hk; omega))
  clear hw8 ho8 hat8 hv1 hv2 Bw L7' K7 L7 W7 O7 B7 C14
  obtain ⟨z, hz⟩ : ∃ z, z = (bs ++ ms == bs) := ⟨_, rfl⟩
  have Q5 : Hid ((bs ++ ms == bs) = z) := hz.symm
  have Q6 : ((n3 : Int) == 0) = z := by
    rw [hz, ← h3'.out.len, Bool.eq_iff_iff, beq_iff_eq, beq_iff_eq]
    refine ⟨fun h => ?_, fun h => ?_⟩
    · have : ms = [] := List.eq_nil_of_length_eq_zero (by omega)
      rw [this, List.append_nil]
    · have := congrArg List.length h
      rw [List.length_append] at this
      omega
  have Q7 : (z == z) = true := by simp
  clear hz
  go_wp2_with fail
  refine (wsame_c w15 _ _ _ _ _ _ _ _ _ _ _ _ _ _ K8 L8 (by omega) W8 O8 (by omega)).mono ?_
  rw [Q5.out]
  rintro e w16 ⟨rfl, hb⟩
  have C16 : Hid (Below w15.heap.size w15 w16) := hb
  clear hb
  obtain ⟨X, hX⟩ : ∃ X, X = ofN bs := ⟨_, rfl⟩
  have LX : X < 18446744073709551616 := by rw [hX]; exact ofN_lt (by rw [h'.out.len]; omega)
  have HXX : Hid (ofN bs = X) := hX.symm
  obtain ⟨Y, hY⟩ : ∃ Y, Y = ofN (bs ++ ms) := ⟨_, rfl⟩
  have LY : Y < 18446744073709551616 := by rw [hY]; exact ofN_lt (by rw [HLm]; omega)
  have HYY : Hid (ofN (bs ++ ms) = Y) := hY.symm
  clear hX hY
  have E1 := eql_d LX LX
  have E2 := eql_d LY LY
  rw [decide_eq_true rfl] at E1 E2
  have G1 := guard_d .eql X X
  have G2 := guard_d .eql Y Y
  have HLM := Lib.hid HLm
  clear HLm
  unfold digV at E1 E2 G1 G2
  go_wp2_with fail
  refine (sum_c w16 _ _ _ _ _ _ _ (Lib.hid (W8.out.keep C16.out)) (Lib.hid (O8.out.ext C16.out)) (by omega)).mono ?_
  rw [HXX.out]
  unfold digV
  rintro e w17 ⟨rfl, hb⟩
  have C17 : Hid (Below w15.heap.size w15 w17) := Lib.hid (ext_trans C16.out hb)
  clear hb
  go_wp2_with fail
  have D17 := Lib.hid (B8.out.trans (C17.out.mono B8.out.size))
  refine (of_c w17 _ _ _ _ (Lib.hid (h'.out.ext D17.out)) (by omega)).mono ?_
  rw [HXX.out]
  unfold digV
  rintro e w18 ⟨rfl, hb⟩
  have C18 : Hid (Below w15.heap.size w15 w18) := Lib.hid (ext_trans C17.out hb)
  clear hb
  go_wp2_with fail
  refine (sum_c w18 _ _ _ _ _ _ _ (Lib.hid (K8.out.keep C18.out)) (Lib.hid (L8.out.ext C18.out)) (by omega)).mono ?_
  rw [HYY.out]
  unfold digV
  rintro e w19 ⟨rfl, hb⟩
  have C19 : Hid (Below w15.heap.size w15 w19) := Lib.hid (ext_trans C18.out hb)
  clear hb
  have D19 := Lib.hid (B8.out.trans (C19.out.mono B8.out.size))
  have RA := Lib.hid (h'.out.ext D19.out)
  have RM := Lib.hid (h3'.out.ext D19.out)
  go_wp2_with (first
    | (refine wpList_push_g (o := ⟨some 116, _, _, _, _, _⟩) (by rfl) (.tmp 114) (.tmp 115) 22 22 rfl 5 Try.underlying22 infoU8 w19.heap.size _ _ _ [] (by rfl) (Own.empty w19 _) _ n bs (by rfl) ((RA.out.ext (ext_alloc _ _)).src Try.underlying22) (by omega) (ext_alloc _ _).size ?_; intro Ad cd u3 hoa hba; have U1 := Lib.hid ((ext_alloc w19 (.cells #[] 5)).trans hba); rw [Nat.zero_add]; have O2 := Lib.hid hoa; rw [Nat.zero_add, List.nil_append] at O2; have RM2 := Lib.hid (RM.out.ext U1.out); clear hoa hba; go_simp)
    | (refine wpList_push_g (o := ⟨some 118, _, _, _, _, _⟩) (by rfl) (.tmp 116) (.tmp 117) 22 22 rfl 5 Try.underlying22 infoU8 w19.heap.size _ _ _ _ (by rfl) O2.out _ n3 ms (by rfl) (RM2.out.src Try.underlying22) (by omega) U1.out.size ?_; intro Af cf u5 hoc hbc; have U2 := Lib.hid (U1.out.trans hbc); have O3 := Lib.hid hoc; clear hoc hbc; go_simp))
  refine (of_c u5 _ _ _ _ (Lib.hid O3.out.rd) (by omega)).mono ?_
  rw [HYY.out]
  unfold digV
  rintro e w20 ⟨rfl, hb⟩
  have D20 := Lib.hid (ext_trans D19.out (ext_trans U2.out hb))
  clear hb
  go_wp2_with fail
  go_ret
  exact ⟨rfl, D20.out⟩
#print axioms same_short

theorem walkHashSame (w : World) (A : Option Addr) (n c : Nat) (bs : List UInt8) (A1 : Option Addr) (n1 c1 : Nat) (cs : List UInt8) (m : Nat) (A3 : Option Addr) (n3 c3 : Nat) (ms : List UInt8)
    (h : Rd w A n c bs) (h1 : Rd w A1 n1 c1 cs) (hm : m < 65536) (h3 : Rd w A3 n3 c3 ms) :
    Calls Try.prog 3 #[.slice A n c, .slice A1 n1 c1, .int .u16 m, .slice A3 n3 c3] w (Holds w) := by
  by_cases l0 : n > 400
  · exact same_long w A n c bs A1 n1 c1 cs m A3 n3 c3 ms h h1 h3 (.inl l0)
  by_cases l1 : n1 > 400
  · exact same_long w A n c bs A1 n1 c1 cs m A3 n3 c3 ms h h1 h3 (.inr (.inl ⟨by omega, l1⟩))
  by_cases l3 : n3 > 400
  · exact same_long w A n c bs A1 n1 c1 cs m A3 n3 c3 ms h h1 h3 (.inr (.inr ⟨by omega, by omega, l3⟩))
  exact same_short w A n c bs A1 n1 c1 cs m A3 n3 c3 ms h h1 h3 hm (by omega) (by omega) (by omega)
#print axioms walkHashSame
end Go.Proofs.Ytdejlahgeckobaa
