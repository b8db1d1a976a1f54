/-
  hash: the document's Bytes: the contract.
-/
import Derived.Test.YtbejjmmopdcjoaaDoorHEnd
import Derived.Test.YtbejjmmopdcjoaaDoorHStrmR
namespace Go.Proofs.YtbejjmmopdcjoaaDoor
open Go.RowKit

def padB (bs : List UInt8) (z : Nat) : List UInt8 := bs ++ [1] ++ List.replicate z 0
theorem padB_len (bs : List UInt8) (z : Nat) : (padB bs z).length = bs.length + 1 + z := by simp [padB]; omega
theorem padB_on (bs : List UInt8) (z : Nat) : padB bs (z + 1) = padB bs z ++ [0] := by unfold padB; rw [List.replicate_succ', ← List.append_assoc]
theorem byt8 {P : List UInt8} {p k : Nat} (hk : k < 8) : (P.getD (p + k) 0).toNat = byt (num8 ((P.drop p).take 8)) k := by
  rw [byt_num8]
  simp [List.getD, hk, List.getElem?_drop]
def fillA (y k : Nat) : Array Value := ((digA' y).take k ++ List.replicate (8 - k) (Value.int .u8 0)).toArray
theorem fillA_on (y : Nat) : ∀ (k : Nat), k < 8 → (fillA y k).setIfInBounds k (.int .u8 (byt y k)) = fillA y (k + 1)
  | 0, _ => rfl
  | 1, _ => rfl
  | 2, _ => rfl
  | 3, _ => rfl
  | 4, _ => rfl
  | 5, _ => rfl
  | 6, _ => rfl
  | 7, _ => rfl
  | k + 8, h => absurd h (by omega)
theorem fillA_at (y : Nat) : ∀ (k : Nat), k < 8 → (fillA y k)[k]? = some (.int .u8 0)
  | 0, _ => rfl
  | 1, _ => rfl
  | 2, _ => rfl
  | 3, _ => rfl
  | 4, _ => rfl
  | 5, _ => rfl
  | 6, _ => rfl
  | 7, _ => rfl
  | k + 8, h => absurd h (by omega)
theorem pad_eights : ∀ (k : Nat) (bs : List UInt8) (s : St) (z : Nat), bs.length / 8 = k → bs.length + 1 + z = 8 * (k + 1) → eightsN (k + 1) s (padB bs z) = takeN (eightsN k s bs) (lastN bs)
  | 0, bs, s, z, h1, h2 => by
    have hl : bs.length < 8 := by omega
    show takeN s (num8 ((padB bs z).take 8)) = takeN s (lastN bs)
    rw [List.take_of_length_le (by rw [padB_len]; omega)]
    unfold lastN padB
    rw [num8_zeros, rest8_end hl]
  | k + 1, bs, s, z, h1, h2 => by
    have hl : 8 ≤ bs.length := by omega
    have e1 : (padB bs z).take 8 = bs.take 8 := by
      unfold padB
      rw [List.append_assoc, List.take_append_of_le_length hl]
    have e2 : (padB bs z).drop 8 = padB (bs.drop 8) z := by
      unfold padB
      rw [List.append_assoc, List.drop_append_of_le_length hl, ← List.append_assoc]
    show eightsN (k + 1) (takeN s (num8 ((padB bs z).take 8))) ((padB bs z).drop 8) = _
    rw [e1, e2, pad_eights k (bs.drop 8) _ z (by rw [List.length_drop]; omega) (by rw [List.length_drop]; omega)]
    show _ = takeN (eightsN k (takeN s (num8 (bs.take 8))) (bs.drop 8)) (lastN bs)
    unfold lastN
    rw [rest8_on hl]

set_option maxRecDepth 100000 in
set_option maxHeartbeats 2000000 in
theorem rbytes_c (w : World) (s : St) (ok : Hid s.Ok) (A : Option Addr) (n c : Nat) (bs : List UInt8) (h0 : Hid (Rd w A n c bs)) (hn : n ≤ 100000) : Calls Tryd.prog 51 #[stV s, .slice A n c] w (Hands (stV (fullS s bs)) w) := by
  have HL := Lib.hid h0.out.len
  have hle := h0.out.le
  have hmax := h0.out.max
  unfold stV
  go_enter Tryd.func51, Tryd.ntmps51
  go_upto_region 1 with fail
  generalize hW : World.alloc (World.alloc w (.cells #[.int .u64 s.a, .int .u64 s.b, .int .u64 s.c, .int .u64 s.d] 88)) (.cells #[.int .u64 0, .int .u64 0, .int .u64 0, .int .u64 0] 88) = W
  have S : Hid (W.heap[w.heap.size]? = some (.cells #[.int .u64 s.a, .int .u64 s.b, .int .u64 s.c, .int .u64 s.d] 88 (0, 0))) := by rw [← hW]; exact keepA (Go.heap_alloc_new w _)
  have R : Hid (W.heap[w.heap.size + 1]? = some (.cells #[.int .u64 0, .int .u64 0, .int .u64 0, .int .u64 0] 88 (0, 0))) := by rw [← hW]; exact heap_alloc_newest (w := World.alloc _ _) (by simp)
  have B0 : Hid (Below w.heap.size w W) := by rw [← hW]; exact ext_trans (ext_alloc _ _) (ext_alloc _ _)
  have zW : w.heap.size + 1 < W.heap.size := by rw [← hW]; simp
  clear hW
  have RD := Lib.hid (h0.out.ext B0.out)
  go_wp2_with (first
    | (refine wpList_push_all (o := ⟨some 11, _, _, _, _, _⟩) rfl (.tmp 9) (.tmp 10) 93 93 rfl 5 Tryd.underlying93 infoU8 W.heap.size _ _ _ [] (by rfl) (Own.empty W _) _ n bs (by rfl) ((RD.out.ext (ext_alloc _ _)).src Tryd.underlying93) (by omega) (ext_alloc _ _).size ?_; intro A1 c1 w1 ho1 hb1; have O1 : Hid (Own w1 5 W.heap.size A1 n c1 bs) := (by have := ho1; rw [Nat.zero_add] at this; exact this); have B1 : Hid (Below W.heap.size W w1) := Lib.hid ((ext_alloc W _).trans hb1); clear ho1 hb1; go_simp)
    | (refine wpList_push (o := ⟨some 13, _, _, _, _, _⟩) rfl (.tmp 11) (.tmp 12) 93 rfl 5 Tryd.underlying93 infoU8 W.heap.size _ n _ bs (by rfl) O1.out 1 1 (by rfl) (by rfl) (by omega) B1.out.size ?_; intro A2 c2 w2 ho2 hb2; have O2 := Lib.hid ho2; have B2 : Hid (Below W.heap.size W w2) := Lib.hid (B1.out.trans hb2); clear ho2 hb2 O1 B1; go_simp))
  go_loopw [5] (fun ov wr => ∃ (z : Nat) (A' : Option Addr) (c' : Nat), ov = .slice A' (n + 1 + z) c' ∧ z ≤ 7 - n % 8 ∧ Hid (Own wr 5 W.heap.size A' (n + 1 + z) c' (padB bs z)) ∧ Hid (Below W.heap.size W wr)) (fun ov _ => 8 + n - (match ov with | .slice _ n _ => n | _ => 0))
  case atStart => exact ⟨0, A2, c2, rfl, by omega, by simpa [Hid, padB] using O2.out, B2.out⟩
  case round =>
    obtain ⟨z, A', c', rfl, hz, O, B⟩ := hrel
    by_cases hm : (n + 1 + z) % 8 = 0
    · have hmI : (((n + 1 + z : Nat) : Int) % 8 == 0) = true := by rw [beq_iff_eq]; omega
      have hmI2 : (((n + 1 + z : Nat) : Int) % 8 != 0) = false := by rw [bne_eq_false_iff_eq]; omega
      have hmI3 : ((n : Int) + 1 + (z : Int)) % 8 = 0 := by omega
      have hmI4 : (((n : Int) + 1 + (z : Int)) % 8 != 0) = false := by rw [bne_eq_false_iff_eq]; omega
      have hP := pad_eights (n / 8) bs s z (by rw [HL.out]) (by rw [HL.out]; omega)
      have hPl := padB_len bs z
      obtain ⟨P, eP⟩ : ∃ P, P = padB bs z := ⟨_, rfl⟩
      rw [← eP] at hP hPl O
      have hFx : takeN (eightsN (n / 8 + 1) s P) n = fullS s bs := by rw [hP]; unfold fullS endS eightsS; rw [HL.out]; rfl
      obtain ⟨X, eX⟩ : ∃ X, X = fullS s bs := ⟨_, rfl⟩
      rw [← eX] at hFx
      have HXX := Lib.hid eX
      have HX := Lib.hid hFx
      obtain ⟨L, eL⟩ : ∃ L, L = n + 1 + z := ⟨_, rfl⟩
      have HPl : Hid (P.length = L) := by rw [eL]; show _ = _; rw [hPl, HL.out]
      have hq : L = 8 * (n / 8 + 1) := by omega
      obtain ⟨q, eq⟩ : ∃ q, q = n / 8 + 1 := ⟨_, rfl⟩
      rw [← eq] at hq HX
      have HQ := Lib.hid hq
      have hL8 : (L : Int) % 8 = 0 := by omega
      have RW : Hid (RdF wr w.heap.size A' L c' P) := fun v hv => by
        have := (O.out.keptNe hv (fun g hg => by have := (O.out.row.lt g hg).1; omega)).rd
        rw [eL]; exact this
      replace S := Lib.hid (keepB B.out S.out)
      replace R := Lib.hid (keepB B.out R.out)
      have BB := Lib.hid (ext_trans B0.out B.out)
      have hLmax : L ≤ 100008 := by omega
      rw [← eL] at *
      clear hmI hmI2 hmI3 hmI4 hP hPl hFx O B B0 O2 B2 eX eP eq hq hm hz
      go_wp2_with fail
      go_loopw [6] (fun iv wr2 => ∃ (j p : Nat) (y : St), Hid (p = 8 * j) ∧ j ≤ q ∧ iv = .int .i64 p ∧ Hid (eightsN (q - j) y (P.drop p) = eightsN q s P) ∧ Hid y.Ok ∧ Hid (wr2.heap[w.heap.size]? = some (.cells #[.int .u64 y.a, .int .u64 y.b, .int .u64 y.c, .int .u64 y.d] 88 (0, 0))) ∧ Hid (wr2.heap[w.heap.size + 1]? = some (.cells #[.int .u64 0, .int .u64 0, .int .u64 0, .int .u64 0] 88 (0, 0))) ∧ Hid (RdF wr2 w.heap.size A' L c' P) ∧ Hid (Below w.heap.size w wr2)) (fun iv _ => L - (intOf iv).toNat)
      case atStart => exact ⟨0, 0, s, rfl, Nat.zero_le _, rfl, rfl, ok, S.out, R.out, RW.out, BB.out⟩
      case round =>
        clear S R RW BB
        rename World => wo
        obtain ⟨j, p, y, HP, hj, rfl, HE, OK, S, R, RW, B⟩ := hrel
        by_cases hlt : p < L
        · have hltI : (p : Int) < (L : Int) := by omega
          have h8 : p + 8 ≤ L := by have h1 := HP.out; have h2 := HQ.out; omega
          have hjq : j + 1 ≤ q := by have h1 := HP.out; have h2 := HQ.out; omega
          obtain ⟨b0, o0, hA0, hb0, hc0⟩ := RW.out.now.cells (by omega)
          have HA0 := Lib.hid hA0
          obtain ⟨x, hx⟩ : ∃ x, x = num8 ((P.drop p).take 8) := ⟨_, rfl⟩
          have lx : x < 18446744073709551616 := by rw [hx]; exact take8_lt _
          have HC0 : Hid (∀ k, k < 8 → World.cell? _ ⟨b0, o0 + (p + k), none⟩ = some (.int .u8 (byt x k))) := fun k hk => by rw [hc0 (p + k) (by omega), byt8 hk, ← hx]
          have HE2 : Hid (eightsN (q - (j + 1)) (takeN y x) (P.drop (p + 8)) = eightsN q s P) := by
            show _ = _
            rw [← HE.out, show q - j = (q - (j + 1)) + 1 by omega, hx, ← List.drop_drop]
            rfl
          clear hx hA0 hc0
          go_wp2_with fail
          go_loopw [8] (fun kv wr3 => ∃ (k : Nat), k ≤ 8 ∧ kv = .int .i64 k ∧ Hid (wr3.heap[wo.heap.size]? = some (.cells (fillA x k) 25 (0, 0))) ∧ Hid (Below wo.heap.size wo wr3)) (fun kv _ => 8 - (intOf kv).toNat)
          case atStart => exact ⟨0, by omega, rfl, Go.heap_alloc_new wo _, ext_alloc _ _⟩
          case round =>
            obtain ⟨k, hk, rfl, D, B3⟩ := hrel
            by_cases hk8 : k < 8
            · have hkI : (k : Int) < 8 := by omega
              have hkI0 : (0 : Int) ≤ (k : Int) := by omega
              have hpkI : (p : Int) + (k : Int) < (L : Int) := by omega
              have hpkI0 : (0 : Int) ≤ (p : Int) + (k : Int) := by omega
              have c1 := (B3.out.cell (p := ⟨b0, o0 + (p + k), none⟩) hb0).trans (HC0.out k hk8)
              have c2 : wr.cell? ⟨wo.heap.size, k, none⟩ = some (.int .u8 0) := by rw [cell_of_row wr _ k _ _ _ D.out]; exact fillA_at x k hk8
              have f2 : wr.frozen? ⟨wo.heap.size, k, none⟩ = false := by simp [World.frozen?, D.out]
              obtain rfl := HA0.out
              go_wp2_with fail
              exact ⟨⟨k + 1, by omega, by go_num, by rw [← fillA_on x k hk8]; exact heap_set_same (j := k) _ D.out, below_set B3.out (Nat.le_refl _) (Nat.le_refl _)⟩, by simp [intOf]; omega⟩
            · obtain rfl : k = 8 := by omega
              rename World => wr
              have D8 : Hid (wr.heap[wo.heap.size]? = some (.cells #[.int .u8 (byt x 0), .int .u8 (byt x 1), .int .u8 (byt x 2), .int .u8 (byt x 3), .int .u8 (byt x 4), .int .u8 (byt x 5), .int .u8 (byt x 6), .int .u8 (byt x 7)] 25 (0, 0))) := D.out
              replace S := Lib.hid (keepB B3.out S.out)
              replace R := Lib.hid (keepB B3.out R.out)
              replace B := Lib.hid (ext_trans B.out B3.out)
              have RW3 := Lib.hid (fun v (hv : World.grownBy wr v (some w.heap.size)) => RW.out v (grownB B3.out hv))
              have zR : w.heap.size + 1 < wr.heap.size := (Array.getElem?_eq_some_iff.1 R.out).1
              clear RW B3 D HC0 hb0 HA0
              go_wp2_with fail
              refine wp_region_schedF (fin := 4) (fun v => Below wr.heap.size wr v) [(true, 0), (true, 1), (false, 2), (false, 3), (false, 4)] (by kernel_rfl) rfl (by kernel_rfl) (by kernel_rfl) (by kernel_rfl) (fun _ _ d _ _ h => by cases d <;> exact h) (ext_drew wr) ?_
              intro J0 hJ0
              refine schedF_pure (v := stV y) rfl (by rfl) (fun v hC => ?_) ?_
              · obtain ⟨d0, d1, d2, d3, _, _, _, _⟩ := full4 (keepB hC S.out)
                unfold stV
                go_simp
              try go_simp
              refine schedF_pure (v := digV x) rfl (by rfl) (fun v hC => ?_) ?_
              · obtain ⟨c0, c1, c2, c3, c4, c5, c6, c7, _, _, _, _, _, _, _, _⟩ := full8 (keepB hC D8.out)
                unfold digV
                go_simp
              try go_simp
              refine schedF_eff rfl ?_
              intro J hJ
              go_wp2_with fail
              refine (rnum_c _ x lx).mono ?_
              rintro e w2 ⟨rfl, hb⟩
              have B2 : Hid (Below wr.heap.size wr w2) := Lib.hid (ext_trans (ext_drew wr) hb)
              clear hb
              go_wp2_with fail
              refine ⟨fun _ => B2.out, ?_⟩
              refine schedF_eff rfl ?_
              intro J hJ
              go_wp2_with fail
              refine (rin_c _ y x lx OK).mono ?_
              have OK2 := Lib.hid (takeN_ok OK.out lx)
              obtain ⟨y2, hy2⟩ : ∃ s, s = takeN y x := ⟨_, rfl⟩
              rw [← hy2] at HE2 OK2 ⊢
              clear hy2
              unfold stV
              rintro e w3 ⟨rfl, hb⟩
              replace B2 : Hid (Below wr.heap.size wr w3) := Lib.hid (ext_trans B2.out hb)
              replace S := Lib.hid (keepB B2.out S.out)
              replace R := Lib.hid (keepB B2.out R.out)
              replace B := Lib.hid (ext_trans B.out B2.out)
              have RW4 : Hid (RdF w3 w.heap.size A' L c' P) := fun v hv => RW3.out v (grownB B2.out hv)
              obtain ⟨d0, d1, d2, d3, f0, f1, f2, f3⟩ := full4 S.out
              clear hb
              go_wp2_with fail
              refine ⟨fun _ => B2.out, ?_⟩
              refine schedF_eff rfl ?_
              intro J hJ
              go_wp2_with fail
              refine ⟨fun h => absurd rfl h, ?_⟩
              refine schedF_nil (hJ0 _ _ ?_)
              go_wp2_with fail
              exact ⟨⟨j + 1, p + 8, y2, by have := HP.out; show _ = _; omega, hjq, by go_num, HE2, OK2, set4 S.out _ _ _ _, oth4 (by omega) R.out _ _ _ _, RW4.out.then (grown_then (grown_then (grown_then (setCell_grown _) (setCell_grown _)) (setCell_grown _)) (setCell_grown _)), bel4 B.out (Nat.le_refl _) (Nat.le_refl _) _ _ _ _⟩, by simp [intOf]; omega⟩
        · obtain rfl : p = L := by have h1 := HP.out; have h2 := HQ.out; omega
          obtain rfl : j = q := by have h1 := HP.out; have h2 := HQ.out; omega
          have hI : ¬ (p : Int) < (p : Int) := by omega
          have hnl : n < 18446744073709551616 := by omega
          have OK2 := Lib.hid (takeN_ok OK.out hnl)
          have HY : Hid (takeN y n = X) := by
            rw [← HX.out, ← HE.out, Nat.sub_self]
            rfl
          obtain ⟨d0, d1, d2, d3, _, _, _, _⟩ := full4 S.out
          clear HX HE HQ HP
          go_wp2_with fail
          refine (rin_c _ y n hnl OK).mono ?_
          rw [HY.out]
          unfold stV
          rintro e w3 ⟨rfl, hb⟩
          replace R := Lib.hid (keepB hb R.out)
          replace B := Lib.hid (ext_trans B.out hb)
          obtain ⟨c0, c1, c2, c3, f0, f1, f2, f3⟩ := full4 R.out
          clear hb d0 d1 d2 d3
          go_wp2_with fail
          obtain ⟨g0, g1, g2, g3⟩ := put4 R.out (.int .u64 X.a) (.int .u64 X.b) (.int .u64 X.c) (.int .u64 X.d)
          refine bodyPost_ret (v := stV X) (by unfold stV; simp only [results, Tryd.results51]; simp [go_sem, g0, g1, g2, g3]) rfl ⟨by unfold stV; rw [← HXX.out], bel4 B.out (Nat.le_refl _) (by omega) _ _ _ _⟩
    · have hmI : (((n + 1 + z : Nat) : Int) % 8 == 0) = false := by rw [beq_eq_false_iff_ne]; omega
      have hmI2 : (((n + 1 + z : Nat) : Int) % 8 != 0) = true := by rw [bne_iff_ne]; omega
      have hmI3 : ((n : Int) + 1 + (z : Int)) % 8 ≠ 0 := by omega
      have hmI4 : (((n : Int) + 1 + (z : Int)) % 8 != 0) = true := by rw [bne_iff_ne]; omega
      go_wp2_with (refine wpList_push (o := ⟨some 20, _, _, _, _, _⟩) rfl (.tmp 18) (.tmp 19) 93 rfl 5 Tryd.underlying93 infoU8 W.heap.size A' (n + 1 + z) c' _ (by rfl) O.out 0 0 (by rfl) (by rfl) (by omega) B.out.size ?_; intro A3 c3 w3 ho3 hb3; go_simp)
      exact ⟨⟨z + 1, A3, c3, by rw [show n + 1 + (z + 1) = n + 1 + z + 1 by omega], by omega, (by have := ho3; rw [padB_on, show n + 1 + (z + 1) = n + 1 + z + 1 by omega]; exact this), B.out.trans hb3⟩, (by show 8 + n - (n + 1 + z + 1) < 8 + n - (n + 1 + z); omega)⟩
#print axioms rbytes_c
end Go.Proofs.YtbejjmmopdcjoaaDoor
