/-
  HashPieces: the walk.
-/
import Derived.Test.YtbiflklmkppnkaaHKnown
import Derived.Test.YtbiflklmkppnkaaHPiec
namespace Go.Proofs.Ytbiflklmkppnkaa
open Go.RowKit

theorem Own.keptO {w w' : World} {E : TypeId} {B : Nat} {A : Option Addr} {n c : Nat} {bs : List UInt8} (h : Own w E B A n c bs) {r : Option Nat} (hk : w.grownBy w' r) (hne : ∀ g, (Value.slice A n c).ownBlock = some g → r ≠ some g) : Own w' E B A n c bs :=
  ⟨h.len, h.max, h.row.kept hk (by
    cases hv : (Value.slice A n c).ownBlock with
    | none => exact .inl rfl
    | some g => exact .inr (fun e => hne g hv (by first | exact e | exact e.symm)))⟩

set_option maxRecDepth 100000 in
set_option maxHeartbeats 4000000 in
theorem walkHashPieces (w : World) (A : Option Addr) (n c : Nat) (f : Nat → List UInt8) (h' : RdB w A n c f) (hs' : ∀ j, j < n → (f j).length ≤ 140737488351232) :
    Calls Try.prog 8 #[.slice A n c] w (Holds w) := by
  have h := Lib.hid h'
  have HS := Lib.hid hs'
  have hle := h'.le
  have hmax := h'.max
  clear h' hs'
  by_cases h60 : n > 60
  · have hI : (60 : Int) < (n : Int) := by omega
    clear h60
    go_enter Try.func8, Try.ntmps8
    go_wp2_with fail
    refine (known_c _).mono ?_
    rintro e w1 ⟨rfl, hb1⟩
    have B := Lib.hid hb1
    clear hb1
    go_wp2_with fail
    refine (known_c _).mono ?_
    rintro e w2 ⟨rfl, hb2⟩
    go_wp2_with fail
    go_ret
    exact ⟨rfl, ext_trans B.out hb2⟩
  have hI : ¬ (60 : Int) < (n : Int) := by omega
  clear h60
  go_enter Try.func8, Try.ntmps8
  go_wp2_with fail
  refine (known_c _).mono ?_
  rintro e w1 ⟨rfl, hb1⟩
  have B1 := Lib.hid hb1
  clear hb1
  go_wp2_with fail
  refine (newWriter_c _).mono ?_
  rintro e w2 ⟨b, hbw, rfl, hw, hb2⟩
  have hwb : w.heap.size ≤ b := Nat.le_trans B1.out.size hbw
  have W2 := Lib.hid hw
  have B2 := Lib.hid (ext_trans B1.out hb2)
  have zb : b < w2.heap.size := (Array.getElem?_eq_some_iff.1 hw.blk).1
  have zw : w.heap.size ≤ w2.heap.size := B2.out.size
  clear hw hb2 B1
  go_wp2_with fail
  go_loopw [4, 20] (fun av iv wr => ∃ (k m : Nat) (xs : List UInt8) (A1 : Option Addr) (c1 : Nat) (A2 : Option Addr) (c2 : Nat), k ≤ n ∧ iv = .int .i64 k ∧ av = .slice A1 m c1 ∧ m ≤ 1000 ∧ Hid (xs.length = m) ∧ Hid (Own wr 5 w2.heap.size A1 m c1 xs) ∧ Hid (Own wr 5 w2.heap.size A2 m c2 xs) ∧ Hid (WrAt wr 75 b (.slice A2 m c2) (eightsS (begin 1) xs)) ∧ Hid (∀ g, (Value.slice A1 m c1).ownBlock = some g → (Value.slice A2 m c2).ownBlock ≠ some g) ∧ Hid (Below w.heap.size w wr) ∧ Hid (w2.heap.size ≤ wr.heap.size)) (fun _ iv _ => n - (intOf iv).toNat)
  case atStart => exact ⟨0, 0, [], none, 0, none, 0, Nat.zero_le _, rfl, rfl, by omega, rfl, Own.void _ _ _, Own.void _ _ _, W2.out, fun g hg => by simp [Value.ownBlock] at hg, B2.out, Nat.le_refl _⟩
  case round =>
    clear W2 B2
    rename World => wo
    obtain ⟨k, m, xs, A1, c1, A2, c2, hk, rfl, rfl, hm, HX, O1, O2, W2, DJ, B2, ZZ⟩ := hrel
    have zz := ZZ.out
    by_cases hlt : k < n
    · obtain ⟨b0, o0, rfl, hb0, hj0⟩ := h.out.at_ (by omega)
      obtain ⟨A', n', c', hc0, hr0⟩ := hj0 k hlt
      obtain ⟨cs, hcs⟩ : ∃ cs, cs = f k := ⟨_, rfl⟩
      rw [← hcs] at hr0
      have hsm : cs.length ≤ 140737488351232 := by rw [hcs]; exact HS.out k hlt
      have RP := Lib.hid hr0
      have HN' : Hid (cs.length = n') := hr0.len
      have hle' := hr0.le
      have hmax' := hr0.max
      have hn' : n' ≤ 140737488351232 := by rw [← hr0.len]; exact hsm
      have c0 : wo.cell? ⟨b0, o0 + k, none⟩ = some (.slice A' n' c') := (B2.out.cell (p := ⟨b0, o0 + k, none⟩) hb0).trans hc0
      have hltI : (k : Int) < (n : Int) := by omega
      have hkI : (0 : Int) ≤ (k : Int) := by omega
      have RPo := Lib.hid (RP.out.ext B2.out)
      clear hc0 hr0 hj0 hcs hsm
      go_wp2_with (refine wpList_push_at (o := ⟨some 26, _, _, _, _, _⟩) rfl (.tmp 24) (.tmp 25) 22 22 rfl 5 Try.underlying22 infoU8 w2.heap.size A1 m c1 xs (by rfl) O1.out _ n' cs (by rfl) (RPo.out.src Try.underlying22) (by omega) zz ?_; intro A3 c3 w3 ho3 hb3 hg3 hat3; have O3 : Hid (Own w3 5 w2.heap.size A3 (m + n') c3 (xs ++ cs)) := ho3; have B3 : Hid (Below w2.heap.size wo w3) := hb3; have G3 : Hid (wo.grownBy w3 (Value.slice A1 m c1).ownBlock) := hg3; have AT3 : Hid (∀ g, (Value.slice A3 (m + n') c3).ownBlock = some g → (Value.slice A1 m c1).ownBlock = some g ∨ wo.heap.size ≤ g) := hat3; clear ho3 hb3 hg3 hat3; go_simp)
      · go_ret
        exact ⟨rfl, B2.out.trans (B3.out.mono zw)⟩
      · have hmn : m + n' ≤ 1000 := by omega
        have O4 : Hid (Own w3 5 w2.heap.size A2 m c2 xs) := O2.out.keptO G3.out (fun g hg e => DJ.out g e hg)
        have W3 : Hid (WrAt w3 75 b (.slice A2 m c2) (eightsS (begin 1) xs)) := ⟨(B3.out.block b zb).trans W2.out.blk, W2.out.ok⟩
        have B4 : Hid (Below w.heap.size w w3) := Lib.hid (B2.out.trans (B3.out.mono zw))
        have RP3 := Lib.hid (RP.out.ext B4.out)
        have NE : Hid (∀ g, (Value.slice A3 (m + n') c3).ownBlock = some g → (Value.slice A2 m c2).ownBlock ≠ some g) := fun g hg e => by
          rcases AT3.out g hg with h1 | h1
          · exact DJ.out g h1 e
          · have := (O2.out.row.lt g e).2; omega
        have HL : (xs ++ cs).length = m + n' := by rw [List.length_append, HX.out, HN'.out]
        refine (write_c w3 75 w2.heap.size b zb (Nat.le_trans zz B3.out.size) A2 m c2 xs W3 O4 A' n' c' cs RP3 (by omega)).mono ?_
        rintro e w4 ⟨A4, c4, rfl, hw4, ho4, hat4, v, hv1, hv2⟩
        rw [HL] at hw4 ho4 hat4
        have W5 := Lib.hid hw4
        have O5 := Lib.hid ho4
        have O6 : Hid (Own w4 5 w2.heap.size A3 (m + n') c3 (xs ++ cs)) := (O3.out.keptO hv1 (fun g hg e => NE.out g hg e)).keptNe hv2 (fun g hg => by have := (O3.out.row.lt g hg).1; omega)
        have DJ5 : Hid (∀ g, (Value.slice A3 (m + n') c3).ownBlock = some g → (Value.slice A4 (m + n') c4).ownBlock ≠ some g) := fun g hg e => by
          rcases hat4 g e with h1 | h1
          · exact NE.out g hg h1
          · have := (O3.out.row.lt g hg).2; omega
        have Bv := below_grown B4.out B4.out.size hv1 (fun k hk => Nat.le_trans zw (O4.out.row.lt k hk).1)
        have B5 := Lib.hid (below_grown Bv Bv.size hv2 (fun k hk => by injection hk with hk; omega))
        have Z5 : Hid (w2.heap.size ≤ w4.heap.size) := Lib.hid (Nat.le_trans (Nat.le_trans zz B3.out.size) (Nat.le_trans hv1.size hv2.size))
        clear hw4 ho4 hat4 hv1 hv2 Bv W3 O4 O1 O2 O3 W2 DJ AT3 G3 B3 NE RP3 c0 RPo
        obtain ⟨X, hX⟩ : ∃ X, X = ofN (xs ++ cs) := ⟨_, rfl⟩
        have LX : X < 18446744073709551616 := by rw [hX]; exact ofN_lt (by rw [HL]; omega)
        have HXX : Hid (ofN (xs ++ cs) = X) := hX.symm
        clear hX
        have E1 := neq_d LX LX
        rw [decide_eq_true rfl, Bool.not_true] at E1
        have G1 := guard_d .neq X X
        unfold digV at E1 G1
        have HXN : Hid ((xs ++ cs).length = m + n') := HL
        clear HL
        go_wp2_with fail
        refine (sum_c _ _ _ _ _ _ _ _ W5 O5 (by omega)).mono ?_
        rw [HXX.out]
        unfold digV
        rintro e w5 ⟨rfl, hb⟩
        have Qw5 : Hid (Below w4.heap.size w4 w5) := hb
        clear hb
        go_wp2_with fail
        have O65 := Lib.hid (O6.out.ext Qw5.out)
        refine (of_c _ _ _ _ _ O65.out.rd (by omega)).mono ?_
        rw [HXX.out]
        unfold digV
        rintro e w6 ⟨rfl, hb⟩
        have Qw6 : Hid (Below w5.heap.size w5 w6) := hb
        clear hb
        go_wp2_with fail
        have Q6 := Lib.hid (ext_trans Qw5.out Qw6.out)
        have W6 := Lib.hid (W5.out.keep Q6.out)
        have O7 := Lib.hid (O5.out.ext Q6.out)
        refine (sum_c _ _ _ _ _ _ _ _ W6 O7 (by omega)).mono ?_
        rw [HXX.out]
        unfold digV
        rintro e w7 ⟨rfl, hb⟩
        have Qw7 : Hid (Below w6.heap.size w6 w7) := hb
        clear hb
        go_wp2_with fail
        have W7 := Lib.hid (W6.out.keep Qw7.out)
        have O8 := Lib.hid (O7.out.ext Qw7.out)
        refine (sum_c _ _ _ _ _ _ _ _ W7 O8 (by omega)).mono ?_
        rw [HXX.out]
        unfold digV
        rintro e w8 ⟨rfl, hb⟩
        have Qw8 : Hid (Below w7.heap.size w7 w8) := hb
        clear hb
        go_wp2_with fail
        have Q8 := Lib.hid (ext_trans (ext_trans Q6.out Qw7.out) Qw8.out)
        exact ⟨⟨k + 1, m + n', xs ++ cs, A3, c3, A4, c4, by omega, by go_num, rfl, hmn, HXN, O6.out.ext Q8.out, O5.out.ext Q8.out, W5.out.keep Q8.out, DJ5, ext_trans B5.out Q8.out, Nat.le_trans Z5.out Q8.out.size⟩, by simp [intOf]; omega⟩
    · obtain rfl : k = n := by omega
      have hI2 : ¬ (k : Int) < (k : Int) := by omega
      obtain ⟨X, hX⟩ : ∃ X, X = ofN xs := ⟨_, rfl⟩
      have LX : X < 18446744073709551616 := by rw [hX]; exact ofN_lt (by rw [HX.out]; omega)
      have HXX : Hid (ofN xs = X) := hX.symm
      clear hX
      have E1 := eql_d LX LX
      rw [decide_eq_true rfl] at E1
      have G1 := guard_d .eql X X
      unfold digV at E1 G1
      go_wp2_with fail
      refine (sum_c _ _ _ _ _ _ _ _ W2 O2 (by omega)).mono ?_
      rw [HXX.out]
      unfold digV
      rintro e w5 ⟨rfl, hb⟩
      have Qw5 : Hid (Below wo.heap.size wo w5) := hb
      clear hb
      go_wp2_with fail
      have O65 := Lib.hid (O1.out.ext Qw5.out)
      refine (of_c _ _ _ _ _ O65.out.rd (by omega)).mono ?_
      rw [HXX.out]
      unfold digV
      rintro e w6 ⟨rfl, hb⟩
      have Qw6 : Hid (Below w5.heap.size w5 w6) := hb
      clear hb
      go_wp2_with fail
      go_ret
      exact ⟨rfl, ext_trans B2.out (ext_trans Qw5.out Qw6.out)⟩
#print axioms walkHashPieces
end Go.Proofs.Ytbiflklmkppnkaa
