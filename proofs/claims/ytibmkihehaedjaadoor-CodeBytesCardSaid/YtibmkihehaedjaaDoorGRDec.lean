/-
  code: the instructions that bytes are: the document's contract.
-/
import Derived.Test.YtibmkihehaedjaaDoorGRDe0
import Derived.Test.YtibmkihehaedjaaDoorGDec
namespace Go.Proofs.YtibmkihehaedjaaDoor
open Go.RowKit

theorem DecSt.bad2 {bs : List UInt8} {k : Nat} {xs : List Ins} {bk : List UInt8} {ek : Int} (h : DecSt bs k xs bk ek) (he : ek ≠ 0) : decV bs = ([], ek) := by
  rcases h with ⟨h1, h2, h3⟩ | ⟨h1, _⟩
  · unfold decV
    by_cases hp : (rnum bs 0 2048).2.2 = 0
    · rw [if_neg (fun h => h hp), h3 hp, if_pos he]
    · rw [if_pos hp, h2 hp]
  · exact absurd h1 he
theorem OwnS.empty (w : World) (E : TypeId) : OwnS (w.alloc (.cells #[] E)) E w.heap.size (some ⟨w.heap.size, 0, none⟩) 0 0 [] :=
  ⟨rfl, World.ownsRow_made w #[] 0 (Nat.le_refl _) (by unfold maxLen; omega) rfl⟩
theorem OwnS.keptN {w w' : World} {E : TypeId} {B b : Nat} {A : Option Addr} {n c : Nat} {xs : List Ins} (h : OwnS w E B A n c xs) (k : w.grownBy w' (some b)) (hne : ∀ z, (Value.slice A n c).ownBlock = some z → z ≠ b) : OwnS w' E B A n c xs :=
  ⟨h.len, h.row.kept k (by
    cases hv : (Value.slice A n c).ownBlock with
    | none => exact .inl rfl
    | some g =>
      refine .inr fun e => ?_
      injection e with e
      exact hne g hv e)⟩
theorem St.over {bs : List UInt8} {j : Nat} {t : Nat → Int} {bk : List UInt8} {e : Int} (h : St bs 0 j t bk e) (he : e ≠ 0) (i : Ins) : ReadI bs 0 i bk e 0 := by
  rcases h with ⟨_, _, h3⟩ | ⟨h1, _⟩
  · exact ⟨fun h => absurd rfl h, fun _ => .inr (.inr ⟨rfl, he, h3 rfl⟩)⟩
  · exact absurd h1 he
theorem St.two {bs : List UInt8} {j : Nat} {t : Nat → Int} {bk : List UInt8} (h : (insR bs).2.2 = 2) : St bs 0 j t bk 2 := .inl ⟨by decide, fun h => absurd rfl h, fun _ => h⟩
theorem rread_at {bs : List UInt8} {a : Nat} {err : Int} {most : Nat} {p : Nat × Nat × Int} (h : p = rreadF bs a err most) : rnum (bs.drop a) err most = (p.2.1, bs.drop p.1, p.2.2) := by rw [h]; exact rreadF_num bs a err most

set_option maxRecDepth 100000 in
set_option maxHeartbeats 8000000 in
theorem rdecode_c (w : World) (A : Option Addr) (n c : Nat) (bs : List UInt8) (h : Hid (Rd w A n c bs)) : Calls Tryd.prog 27 #[.slice A n c] w (Dec w (decV bs)) := by
  have HL := Lib.hid h.out.len
  have hle := h.out.le
  have hmx := h.out.max
  have HST := Lib.hid (DecSt.start bs)
  obtain ⟨p0, hp0⟩ : ∃ p, p = rreadF bs 0 0 2048 := ⟨_, rfl⟩
  have HN0 : Hid (rnum bs 0 2048 = (p0.2.1, bs.drop p0.1, p0.2.2)) := rread_at (bs := bs) (a := 0) hp0
  have ha0 : p0.1 ≤ n := by rw [hp0, ← HL.out]; exact rreadF_le bs 0 0 2048 (Nat.zero_le _)
  have HP0 := Lib.hid hp0
  clear hp0
  obtain ⟨a0, m, e0⟩ := p0
  dsimp only at HN0 ha0
  have hm2 : m ≤ 2048 := by have h1 := rnum_most bs 0 2048; rw [HN0.out] at h1; exact h1
  rw [HN0.out] at HST
  dsimp only at HST
  have HMM : Hid ((rnum bs 0 2048).1 = m) := by show _ = _; rw [HN0.out]
  clear HN0
  go_enter Tryd.func27, Tryd.ntmps27
  go_wp2_with fail
  refine (rread_c _ A n c bs h 0 (Nat.zero_le _) 0 2048 (by omega)).mono ?_
  rw [← HP0.out]
  clear HP0
  rintro e w1 ⟨rfl, hb⟩
  dsimp only
  go_upto_region 2 with fail
  obtain ⟨g4, hg4⟩ : ∃ g, g = w1.heap.size := ⟨_, rfl⟩
  obtain ⟨U, hU⟩ : ∃ U, U = World.alloc w1 (.cells #[.slice A n c, .int .i64 a0, .int .i64 e0] 88) := ⟨_, rfl⟩
  have C4 : Hid (U.heap[g4]? = some (.cells #[.slice A n c, .int .i64 a0, .int .i64 e0] 88 (0, 0))) := by rw [hU, hg4]; exact Go.heap_alloc_new w1 _
  have BW : Hid (Below w.heap.size w U) := by rw [hU]; exact ext_trans hb (ext_alloc _ _)
  have g4w : w.heap.size ≤ g4 := by have := hb.size; omega
  rw [← hU, ← hg4]
  clear hU hg4 hb
  obtain ⟨B1, hB1⟩ : ∃ B1, B1 = U.heap.size := ⟨_, rfl⟩
  have g4B : g4 < B1 := by rw [hB1]; exact (Array.getElem?_eq_some_iff.1 C4.out).1
  have wB1 : w.heap.size ≤ B1 := by omega
  have OL : Hid (OwnS (World.alloc U (.cells #[] 23)) 23 B1 (some ⟨B1, 0, none⟩) 0 0 []) := by show OwnS _ _ _ _ _ _ _; rw [hB1]; exact OwnS.empty _ _
  have B1U : B1 ≤ (World.alloc U (.cells #[] 23)).heap.size := by rw [hB1]; simp
  have HB1 := Lib.hid hB1
  clear hB1
  go_wp2_with fail
  rw [← HB1.out]
  clear HB1
  go_loopw [6, 7] (fun lv iv wr => ∃ (k : Nat) (xs : List Ins) (a : Nat) (ek : Int) (L : Option Addr) (d : Nat), k ≤ m ∧ a ≤ n ∧ B1 ≤ wr.heap.size ∧ iv = .int .u64 k ∧ lv = .slice L k d ∧ Hid (DecSt bs k xs (bs.drop a) ek) ∧ Hid (wr.heap[g4]? = some (.cells #[.slice A n c, .int .i64 a, .int .i64 ek] 88 (0, 0))) ∧ Hid (OwnS wr 23 B1 L k d xs) ∧ Hid (Below w.heap.size w wr)) (fun _ iv _ => m - (intOf iv).toNat)
  case atStart => exact ⟨0, [], a0, e0, _, 0, Nat.zero_le _, ha0, B1U, rfl, rfl, HST.out, keepG (ext_alloc _ _) C4.out, OL.out, ext_trans BW.out (ext_alloc _ _)⟩
  case round =>
    clear HST C4 OL BW B1U
    obtain ⟨k, xs, a, ek, L, d, hk, han, B1w, rfl, rfl, HST, C4, OL, BW⟩ := hrel
    obtain ⟨c0, c1, c2, f0, f1, f2⟩ := full3f C4.out
    by_cases hlt : k < m
    · have hltI : (k : Int) < (m : Int) := by omega
      have wk : IntKind.u64.wrap ((k : Int) + 1) = (k : Int) + 1 := IntWalk.u64_in _ (by omega)
      by_cases hek : ek = 0
      · subst hek
        go_wp2_with fail
        obtain ⟨p, hp⟩ : ∃ p, p = rreadF bs a 0 21 := ⟨_, rfl⟩
        have HN1 : Hid (rnum (bs.drop a) 0 21 = (p.2.1, bs.drop p.1, p.2.2)) := rread_at hp
        have ha1 : p.1 ≤ n := by rw [hp, ← HL.out]; exact rreadF_le bs a 0 21 (by rw [HL.out]; exact han)
        refine (rread_c _ A n c bs (Lib.hid (h.out.ext BW.out)) a han 0 21 (by omega)).mono ?_
        rw [← hp]
        clear hp
        obtain ⟨a1, o, e1⟩ := p
        dsimp only at HN1 ha1 ⊢
        rintro e w2 ⟨rfl, hb⟩
        dsimp only
        replace C4 := Lib.hid (keepG hb C4.out)
        replace OL := Lib.hid (OL.out.ext hb)
        replace BW := Lib.hid (ext_trans BW.out hb)
        replace B1w : B1 ≤ w2.heap.size := by have := hb.size; omega
        clear hb c0 c1 c2 f0 f1 f2
        have ho21 : o ≤ 21 := by have h1 := rnum_most (bs.drop a) 0 21; rw [HN1.out] at h1; exact h1
        have HS0 : Hid (St (bs.drop a) 0 0 (fun _ => 0) (bs.drop a1) e1) := by
          have := St.start (bs.drop a) 0
          rw [HN1.out] at this
          exact this
        have HOE : Hid ((rnum (bs.drop a) 0 21).1 = o) := by show _ = _; rw [HN1.out]
        clear HN1
        obtain ⟨c0, c1, c2, f0, f1, f2⟩ := full3f C4.out
        go_upto_region 8 with fail
        clear c0 c1 c2 f0 f1 f2
        obtain ⟨V, hV⟩ : ∃ V, V = put3 w2 g4 (.slice A n c) (.int .i64 a1) (.int .i64 e1) := ⟨_, rfl⟩
        have D4 : Hid (V.heap[g4]? = some (.cells #[.slice A n c, .int .i64 a1, .int .i64 e1] 88 (0, 0))) := by rw [hV]; exact set3 C4.out _ _ _
        replace OL : Hid (OwnS V 23 B1 L k d xs) := by rw [hV]; exact OL.out.kept put3_grow g4B
        replace BW : Hid (Below w.heap.size w V) := by rw [hV]; exact below_put BW.out put3_grow BW.out.size g4w
        replace B1w : B1 ≤ V.heap.size := by rw [hV]; exact Nat.le_trans B1w (put3_grow (w := w2) (g := g4) (y0 := .slice A n c) (y1 := .int .i64 a1) (y2 := .int .i64 e1)).size
        unfold put3 at hV
        rw [← hV]
        clear hV C4
        have wo : IntKind.i64.wrap (o : Int) = (o : Int) := IntWalk.i64_in _ (by omega)
        go_upto_region 9 with fail
        obtain ⟨g9, hg9⟩ : ∃ g, g = V.heap.size := ⟨_, rfl⟩
        obtain ⟨X, hX⟩ : ∃ X, X = World.alloc V (.cells #[.int .i64 o, .int .i64 0, .int .i64 0, .int .i64 0] 23) := ⟨_, rfl⟩
        have C9 : Hid (X.heap[g9]? = some (.cells #[.int .i64 o, .int .i64 ((fun _ : Nat => (0 : Int)) 0), .int .i64 ((fun _ : Nat => (0 : Int)) 1), .int .i64 ((fun _ : Nat => (0 : Int)) 2)] 23 (0, 0))) := by rw [hX, hg9]; exact Go.heap_alloc_new V _
        have BX : Hid (Below V.heap.size V X) := by rw [hX]; exact ext_alloc V _
        have g49 : g4 < g9 := by omega
        have g9B : B1 ≤ g9 := by omega
        have C4 := Lib.hid (keepG BX.out D4.out)
        have HNE : Hid (∀ z, (Value.slice L k d).ownBlock = some z → z ≠ g9) := by
          intro z hz e
          have := (OL.out.row.lt z hz).2
          omega
        replace OL := Lib.hid (OL.out.ext BX.out)
        replace BW := Lib.hid (ext_trans BW.out BX.out)
        replace B1w : B1 ≤ X.heap.size := by have := BX.out.size; omega
        rw [← hX, ← hg9]
        clear hX hg9 BX D4
        obtain ⟨q, hq⟩ : ∃ q, q = (hasB o).length := ⟨_, rfl⟩
        have hq3 : q ≤ 3 := by rw [hq]; exact (hasB_len o (by omega)).2
        have HQ : Hid ((hasB (rnum (bs.drop a) 0 21).1).length = q) := by show _ = _; rw [HOE.out, hq]
        obtain ⟨S, hS⟩ : ∃ S : ByteArray, S = ⟨(rhasB o).toArray⟩ := ⟨_, rfl⟩
        have HSZ : S.size = q := by rw [hS, hq, ← (rhas_len o (by omega)).1]; rfl
        have HHAS : Hid (∀ w, Calls Tryd.prog 36 #[.int .i64 o] w (Gives (.string S) w)) := by
          intro w
          rw [hS]
          exact rhas_c w o (by omega)
        clear hq hS
        go_wp2_with fail
        go_loopw [10] (fun jv wq => ∃ (j : Nat) (t : Nat → Int) (a2 : Nat) (e2 : Int), j ≤ q ∧ a2 ≤ n ∧ B1 ≤ wq.heap.size ∧ jv = .int .i64 j ∧ Hid (St (bs.drop a) 0 j t (bs.drop a2) e2) ∧ Hid (wq.heap[g4]? = some (.cells #[.slice A n c, .int .i64 a2, .int .i64 e2] 88 (0, 0))) ∧ Hid (wq.heap[g9]? = some (.cells #[.int .i64 o, .int .i64 (t 0), .int .i64 (t 1), .int .i64 (t 2)] 23 (0, 0))) ∧ Hid (OwnS wq 23 B1 L k d xs) ∧ Hid (Below w.heap.size w wq)) (fun jv _ => q - (intOf jv).toNat)
        case atStart => exact ⟨0, _, a1, e1, Nat.zero_le _, ha1, B1w, rfl, HS0.out, C4.out, C9.out, OL.out, BW.out⟩
        case round =>
          clear HS0 C4 C9 OL BW B1w
          obtain ⟨j, t, a2, e2, hj, ha2, B1w, rfl, HS, C4, C9, OL, BW⟩ := hrel
          obtain ⟨x0, x1, x2, x3⟩ := full4i C9.out
          go_wp2_with fail
          refine (HHAS.out _).mono ?_
          rintro e v1 ⟨rfl, hb⟩
          clear x0 x1 x2 x3
          replace C4 := Lib.hid (keepG hb C4.out)
          replace C9 := Lib.hid (keepG hb C9.out)
          replace OL := Lib.hid (OL.out.ext hb)
          replace BW := Lib.hid (ext_trans BW.out hb)
          replace B1w : B1 ≤ v1.heap.size := by have := hb.size; omega
          clear hb
          obtain ⟨c0, c1, c2, f0, f1, f2⟩ := full3f C4.out
          by_cases hjq : j < q
          · have hjI : (j : Int) < (q : Int) := by omega
            by_cases he2 : e2 = 0
            · subst he2
              have j3 : j < 3 := by omega
              have hj0 : (0 : Int) ≤ (j : Int) := by omega
              go_wp2_with fail
              obtain ⟨p, hp⟩ : ∃ p, p = rreadF bs a2 0 18446744073709551615 := ⟨_, rfl⟩
              have HN2 : Hid (rnum (bs.drop a2) 0 18446744073709551615 = (p.2.1, bs.drop p.1, p.2.2)) := rread_at hp
              have ha3 : p.1 ≤ n := by rw [hp, ← HL.out]; exact rreadF_le bs a2 0 18446744073709551615 (by rw [HL.out]; exact ha2)
              refine (rread_c _ A n c bs (Lib.hid (h.out.ext BW.out)) a2 ha2 0 18446744073709551615 (by omega)).mono ?_
              rw [← hp]
              clear hp
              obtain ⟨a3, x, e3⟩ := p
              dsimp only at HN2 ha3 ⊢
              rintro e v2 ⟨rfl, hb⟩
              dsimp only
              replace C4 := Lib.hid (keepG hb C4.out)
              replace C9 := Lib.hid (keepG hb C9.out)
              replace OL := Lib.hid (OL.out.ext hb)
              replace BW := Lib.hid (ext_trans BW.out hb)
              replace B1w : B1 ≤ v2.heap.size := by have := hb.size; omega
              clear hb c0 c1 c2 f0 f1 f2
              have hx : x < 18446744073709551616 := by have h1 := rnum_lt (bs.drop a2) 0 18446744073709551615; rw [HN2.out] at h1; exact h1
              obtain ⟨c0, c1, c2, f0, f1, f2⟩ := full3f C4.out
              go_upto_region 14 with fail
              clear c0 c1 c2 f0 f1 f2
              obtain ⟨V2, hV⟩ : ∃ V, V = put3 v2 g4 (.slice A n c) (.int .i64 a3) (.int .i64 e3) := ⟨_, rfl⟩
              have D4 : Hid (V2.heap[g4]? = some (.cells #[.slice A n c, .int .i64 a3, .int .i64 e3] 88 (0, 0))) := by rw [hV]; exact set3 C4.out _ _ _
              replace C9 : Hid (V2.heap[g9]? = some (.cells #[.int .i64 o, .int .i64 (t 0), .int .i64 (t 1), .int .i64 (t 2)] 23 (0, 0))) := by rw [hV]; exact (put3_away (by omega)).trans C9.out
              replace OL : Hid (OwnS V2 23 B1 L k d xs) := by rw [hV]; exact OL.out.kept put3_grow g4B
              replace BW : Hid (Below w.heap.size w V2) := by rw [hV]; exact below_put BW.out put3_grow BW.out.size g4w
              replace B1w : B1 ≤ V2.heap.size := by rw [hV]; exact Nat.le_trans B1w (put3_grow (w := v2) (g := g4) (y0 := .slice A n c) (y1 := .int .i64 a3) (y2 := .int .i64 e3)).size
              unfold put3 at hV
              rw [← hV]
              clear hV C4
              go_wp2_with fail
              refine (runfold_c _ x hx).mono ?_
              obtain ⟨v, hv⟩ : ∃ v, v = unfold_ x := ⟨_, rfl⟩
              rw [← hv]
              have HV : Hid (v = unfold_ (rnum (bs.drop a2) 0 18446744073709551615).1) := by show _ = _; rw [HN2.out, hv]
              have HX0 : Hid (e3 ≠ 0 → v = 0) := by
                intro h3
                have h4 : (rnum (bs.drop a2) 0 18446744073709551615).2.2 ≠ 0 := by rw [HN2.out]; exact h3
                rw [HV.out, (rnum_bad h4).1]
                exact unfold_0
              clear hv
              rintro e w' ⟨rfl, rfl⟩
              obtain ⟨c0, c1, c2, f0, f1, f2⟩ := full3f D4.out
              by_cases hr : -2147483648 ≤ v ∧ v ≤ 2147483647
              · have HS2 : Hid (St (bs.drop a) 0 (j + 1) (upd t j v) (bs.drop a3) e3) := by
                  have h1 := HS.out.stay (by rw [HQ.out]; exact hjq) v HV.out hr
                  rw [HN2.out] at h1
                  exact h1
                clear HS HX0 HV HN2
                obtain ⟨hr1, hr2⟩ := hr
                by_cases he3 : e3 = 0
                · subst he3
                  go_wp2_with fail
                  refine (rnumber_t _ _ hr1 hr2).mono ?_
                  rintro e w' ⟨rfl, rfl⟩
                  clear hr1 hr2 c0 c1 c2 f0 f1 f2
                  obtain ⟨x0, x1, x2, x3, y0, y1, y2, y3⟩ := full4f C9.out
                  go_wp2_with fail
                  refine (with_c _ o t j j3 v).mono ?_
                  rintro e v4 ⟨rfl, hb⟩
                  replace D4 := Lib.hid (keepG hb D4.out)
                  replace C9 := Lib.hid (keepG hb C9.out)
                  replace OL := Lib.hid (OL.out.ext hb)
                  replace BW := Lib.hid (ext_trans BW.out hb)
                  replace B1w : B1 ≤ v4.heap.size := by have := hb.size; omega
                  clear hb x0 x1 x2 x3 y0 y1 y2 y3
                  obtain ⟨x0, x1, x2, x3, y0, y1, y2, y3⟩ := full4f C9.out
                  go_upto_region 11 with fail
                  clear x0 x1 x2 x3 y0 y1 y2 y3
                  obtain ⟨Y, hY⟩ : ∃ Y, Y = put4 v4 g9 o (upd t j v 0) (upd t j v 1) (upd t j v 2) := ⟨_, rfl⟩
                  replace C9 : Hid (Y.heap[g9]? = some (.cells #[.int .i64 o, .int .i64 (upd t j v 0), .int .i64 (upd t j v 1), .int .i64 (upd t j v 2)] 23 (0, 0))) := by rw [hY]; exact put4_blk C9.out _ _ _ _
                  replace D4 : Hid (Y.heap[g4]? = some (.cells #[.slice A n c, .int .i64 a3, .int .i64 0] 88 (0, 0))) := by rw [hY]; exact (put4_away (by omega)).trans D4.out
                  replace OL : Hid (OwnS Y 23 B1 L k d xs) := by rw [hY]; exact OL.out.keptN put4_grow2 HNE.out
                  replace BW : Hid (Below w.heap.size w Y) := by rw [hY]; exact below_put BW.out put4_grow2 BW.out.size (by omega)
                  replace B1w : B1 ≤ Y.heap.size := by rw [hY]; exact Nat.le_trans B1w (put4_grow2 (w := v4) (g := g9) (a := o) (b := upd t j v 0) (c := upd t j v 1) (d := upd t j v 2)).size
                  unfold put4 at hY
                  rw [← hY]
                  clear hY
                  go_wp2_with fail
                  exact ⟨⟨j + 1, upd t j v, a3, 0, by omega, ha3, B1w, by go_num, HS2.out, D4.out, C9.out, OL.out, BW.out⟩, by simp [intOf]; omega⟩
                · have he3b : (e3 == 0) = false := by rw [beq_eq_false_iff_ne]; exact he3
                  clear he3 hr1 hr2
                  obtain ⟨x0, x1, x2, x3, y0, y1, y2, y3⟩ := full4f C9.out
                  go_wp2_with fail
                  refine (with_c _ o t j j3 v).mono ?_
                  rintro e v4 ⟨rfl, hb⟩
                  replace D4 := Lib.hid (keepG hb D4.out)
                  replace C9 := Lib.hid (keepG hb C9.out)
                  replace OL := Lib.hid (OL.out.ext hb)
                  replace BW := Lib.hid (ext_trans BW.out hb)
                  replace B1w : B1 ≤ v4.heap.size := by have := hb.size; omega
                  clear hb x0 x1 x2 x3 y0 y1 y2 y3
                  obtain ⟨x0, x1, x2, x3, y0, y1, y2, y3⟩ := full4f C9.out
                  go_upto_region 11 with fail
                  clear x0 x1 x2 x3 y0 y1 y2 y3
                  obtain ⟨Y, hY⟩ : ∃ Y, Y = put4 v4 g9 o (upd t j v 0) (upd t j v 1) (upd t j v 2) := ⟨_, rfl⟩
                  replace C9 : Hid (Y.heap[g9]? = some (.cells #[.int .i64 o, .int .i64 (upd t j v 0), .int .i64 (upd t j v 1), .int .i64 (upd t j v 2)] 23 (0, 0))) := by rw [hY]; exact put4_blk C9.out _ _ _ _
                  replace D4 : Hid (Y.heap[g4]? = some (.cells #[.slice A n c, .int .i64 a3, .int .i64 e3] 88 (0, 0))) := by rw [hY]; exact (put4_away (by omega)).trans D4.out
                  replace OL : Hid (OwnS Y 23 B1 L k d xs) := by rw [hY]; exact OL.out.keptN put4_grow2 HNE.out
                  replace BW : Hid (Below w.heap.size w Y) := by rw [hY]; exact below_put BW.out put4_grow2 BW.out.size (by omega)
                  replace B1w : B1 ≤ Y.heap.size := by rw [hY]; exact Nat.le_trans B1w (put4_grow2 (w := v4) (g := g9) (a := o) (b := upd t j v 0) (c := upd t j v 1) (d := upd t j v 2)).size
                  unfold put4 at hY
                  rw [← hY]
                  clear hY
                  go_wp2_with fail
                  exact ⟨⟨j + 1, upd t j v, a3, e3, by omega, ha3, B1w, by go_num, HS2.out, D4.out, C9.out, OL.out, BW.out⟩, by simp [intOf]; omega⟩
              · have he3 : e3 = 0 := by
                  by_cases h3 : e3 = 0
                  · exact h3
                  · have h4 := HX0.out h3
                    rw [h4] at hr
                    exact absurd (by omega) hr
                have h2 := (HS.out.out (by rw [HQ.out]; exact hjq) v HV.out hr).2
                have HS2 : Hid (St (bs.drop a) 0 (j + 1) (upd t j v) (bs.drop a3) 2) := St.two h2
                subst he3
                have HR := Lib.hid hr
                clear HS HX0 HV HN2 h2 hr
                go_wp2_with fail
                refine (rnumber_f _ _ HR.out).mono ?_
                rintro e w' ⟨rfl, rfl⟩
                go_wp2_with fail
                refine (rfail_c _ (.slice A n c) a3 0 2 ⟨_, _, _, rfl⟩).mono ?_
                rintro e v3 ⟨rfl, hb⟩
                dsimp only
                replace D4 := Lib.hid (keepG hb D4.out)
                replace C9 := Lib.hid (keepG hb C9.out)
                replace OL := Lib.hid (OL.out.ext hb)
                replace BW := Lib.hid (ext_trans BW.out hb)
                replace B1w : B1 ≤ v3.heap.size := by have := hb.size; omega
                clear hb c0 c1 c2 f0 f1 f2
                obtain ⟨c0, c1, c2, f0, f1, f2⟩ := full3f D4.out
                go_upto_region 17 with fail
                clear c0 c1 c2 f0 f1 f2
                obtain ⟨V3, hV⟩ : ∃ V, V = put3 v3 g4 (.slice A n c) (.int .i64 a3) (.int .i64 2) := ⟨_, rfl⟩
                replace D4 : Hid (V3.heap[g4]? = some (.cells #[.slice A n c, .int .i64 a3, .int .i64 2] 88 (0, 0))) := by rw [hV]; exact set3 D4.out _ _ _
                replace C9 : Hid (V3.heap[g9]? = some (.cells #[.int .i64 o, .int .i64 (t 0), .int .i64 (t 1), .int .i64 (t 2)] 23 (0, 0))) := by rw [hV]; exact (put3_away (by omega)).trans C9.out
                replace OL : Hid (OwnS V3 23 B1 L k d xs) := by rw [hV]; exact OL.out.kept put3_grow g4B
                replace BW : Hid (Below w.heap.size w V3) := by rw [hV]; exact below_put BW.out put3_grow BW.out.size g4w
                replace B1w : B1 ≤ V3.heap.size := by rw [hV]; exact Nat.le_trans B1w (put3_grow (w := v3) (g := g4) (y0 := .slice A n c) (y1 := .int .i64 a3) (y2 := .int .i64 2)).size
                unfold put3 at hV
                rw [← hV]
                clear hV
                obtain ⟨x0, x1, x2, x3, y0, y1, y2, y3⟩ := full4f C9.out
                go_wp2_with fail
                refine (with_c _ o t j j3 v).mono ?_
                rintro e v4 ⟨rfl, hb⟩
                replace D4 := Lib.hid (keepG hb D4.out)
                replace C9 := Lib.hid (keepG hb C9.out)
                replace OL := Lib.hid (OL.out.ext hb)
                replace BW := Lib.hid (ext_trans BW.out hb)
                replace B1w : B1 ≤ v4.heap.size := by have := hb.size; omega
                clear hb x0 x1 x2 x3 y0 y1 y2 y3
                obtain ⟨x0, x1, x2, x3, y0, y1, y2, y3⟩ := full4f C9.out
                go_upto_region 11 with fail
                clear x0 x1 x2 x3 y0 y1 y2 y3
                obtain ⟨Y, hY⟩ : ∃ Y, Y = put4 v4 g9 o (upd t j v 0) (upd t j v 1) (upd t j v 2) := ⟨_, rfl⟩
                replace C9 : Hid (Y.heap[g9]? = some (.cells #[.int .i64 o, .int .i64 (upd t j v 0), .int .i64 (upd t j v 1), .int .i64 (upd t j v 2)] 23 (0, 0))) := by rw [hY]; exact put4_blk C9.out _ _ _ _
                replace D4 : Hid (Y.heap[g4]? = some (.cells #[.slice A n c, .int .i64 a3, .int .i64 2] 88 (0, 0))) := by rw [hY]; exact (put4_away (by omega)).trans D4.out
                replace OL : Hid (OwnS Y 23 B1 L k d xs) := by rw [hY]; exact OL.out.keptN put4_grow2 HNE.out
                replace BW : Hid (Below w.heap.size w Y) := by rw [hY]; exact below_put BW.out put4_grow2 BW.out.size (by omega)
                replace B1w : B1 ≤ Y.heap.size := by rw [hY]; exact Nat.le_trans B1w (put4_grow2 (w := v4) (g := g9) (a := o) (b := upd t j v 0) (c := upd t j v 1) (d := upd t j v 2)).size
                unfold put4 at hY
                rw [← hY]
                clear hY
                go_wp2_with fail
                exact ⟨⟨j + 1, upd t j v, a3, 2, by omega, ha3, B1w, by go_num, HS2.out, D4.out, C9.out, OL.out, BW.out⟩, by simp [intOf]; omega⟩
            · have he2b : (e2 == 0) = false := by rw [beq_eq_false_iff_ne]; exact he2
              have HRI : Hid (ReadI (bs.drop a) 0 ⟨o, t 0, t 1, t 2⟩ (bs.drop a2) e2 0) := HS.out.over he2 _
              clear he2
              have HST2 := Lib.hid (HST.out.step (by rw [HMM.out]; exact hlt) HRI.out)
              clear HST HS HRI
              obtain ⟨x0, x1, x2, x3⟩ := full4i C9.out
              go_wp2_with (refine wpList_pushS 24 23 Tryd.underlying24 infoRI (o := ⟨some 78, _, _, _, _, _⟩) rfl (.tmp 75) (.tmp 77) rfl B1 _ _ _ _ (by rfl) OL.out ⟨o, t 0, t 1, t 2⟩ (by rfl) (by omega) B1w ?_; intro L' d' w4 ho' hb'; have OL2 := Lib.hid ho'; have HB2 := Lib.hid hb'; clear ho' hb' x0 x1 x2 x3 c0 c1 c2 f0 f1 f2; go_simp)
              exact ⟨⟨k + 1, xs ++ [(⟨o, t 0, t 1, t 2⟩ : Ins)], a2, e2, L', d', by omega, ha2, Nat.le_trans B1w HB2.out.size, by go_num, rfl, HST2.out, below_keep HB2.out g4B C4.out, OL2.out, BW.out.trans (HB2.out.mono wB1)⟩, by simp [intOf]; omega⟩
          · obtain rfl : j = q := by omega
            have HRI : Hid (ReadI (bs.drop a) 0 ⟨o, t 0, t 1, t 2⟩ (bs.drop a2) e2 0) := by
              have h1 := HS.out
              rw [← HQ.out] at h1
              have h2 := h1.fin
              rw [HOE.out] at h2
              exact h2
            have HST2 := Lib.hid (HST.out.step (by rw [HMM.out]; exact hlt) HRI.out)
            clear HST HS HRI
            obtain ⟨x0, x1, x2, x3⟩ := full4i C9.out
            go_wp2_with (refine wpList_pushS 24 23 Tryd.underlying24 infoRI (o := ⟨some 78, _, _, _, _, _⟩) rfl (.tmp 75) (.tmp 77) rfl B1 _ _ _ _ (by rfl) OL.out ⟨o, t 0, t 1, t 2⟩ (by rfl) (by omega) B1w ?_; intro L' d' w4 ho' hb'; have OL2 := Lib.hid ho'; have HB2 := Lib.hid hb'; clear ho' hb' x0 x1 x2 x3 c0 c1 c2 f0 f1 f2; go_simp)
            exact ⟨⟨k + 1, xs ++ [(⟨o, t 0, t 1, t 2⟩ : Ins)], a2, e2, L', d', by omega, ha2, Nat.le_trans B1w HB2.out.size, by go_num, rfl, HST2.out, below_keep HB2.out g4B C4.out, OL2.out, BW.out.trans (HB2.out.mono wB1)⟩, by simp [intOf]; omega⟩
      · have hekb : (ek == 0) = false := by rw [beq_eq_false_iff_ne]; exact hek
        have hekn : (ek != 0) = true := by rw [bne_iff_ne]; exact hek
        have HE := Lib.hid (HST.out.bad2 hek)
        have HEV : Hid ((if ek ≠ 0 then ek else if 0 < n - a then 5 else 0) = ek) := if_pos hek
        clear hek
        go_wp2_with fail
        refine (rendR_c _ A n c a ek han).mono ?_
        rw [HEV.out]
        rintro e v ⟨rfl, hb⟩
        go_wp2_with fail
        go_ret2
        exact ⟨none, 0, 0, by rw [HE.out]; rfl, by rw [HE.out]; exact RdS.nil _, ext_trans BW.out hb⟩
    · obtain rfl : k = m := by omega
      have HSM : Hid (DecSt bs (rnum bs 0 2048).1 xs (bs.drop a) ek) := by rw [HMM.out]; exact HST.out
      go_wp2_with fail
      refine (rendR_c _ A n c a ek han).mono ?_
      obtain ⟨z, hz'⟩ : ∃ z : Int, z = (if ek ≠ 0 then ek else if 0 < n - a then 5 else 0) := ⟨_, rfl⟩
      rw [← hz']
      have HZ := Lib.hid hz'
      clear hz'
      rintro e v ⟨rfl, hb⟩
      replace OL := Lib.hid (OL.out.ext hb)
      replace BW := Lib.hid (ext_trans BW.out hb)
      clear hb c0 c1 c2 f0 f1 f2 C4
      have hdl : (bs.drop a).length = n - a := by rw [List.length_drop, HL.out]
      have HDL := Lib.hid hdl
      clear hdl
      by_cases hz0 : z = 0
      · have hek : ek = 0 := by
          have h1 := HZ.out
          rw [hz0] at h1
          by_cases he : ek = 0
          · exact he
          · rw [if_pos he] at h1; exact absurd h1.symm he
        subst hek
        have hbk : bs.drop a = [] := by
          have h1 := HZ.out
          rw [hz0, if_neg (fun h => h rfl)] at h1
          by_cases h2 : 0 < n - a
          · rw [if_pos h2] at h1; exact absurd h1 (by decide)
          · exact List.eq_nil_of_length_eq_zero (by rw [HDL.out]; omega)
        have HE : Hid (decV bs = if (checkV xs 256).2 ≠ 0 then ([], (checkV xs 256).2) else (xs, 0)) := by
          have h2 := HSM.out.good
          rw [if_neg (fun h => h hbk)] at h2
          exact h2
        subst hz0
        clear HST HSM HZ hbk HDL
        go_wp2_with fail
        refine (rcheck_c _ L k d xs (Lib.hid OL.out.rd) 256).mono ?_
        obtain ⟨p, hp⟩ : ∃ p, p = checkV xs 256 := ⟨_, rfl⟩
        rw [← hp] at HE ⊢
        clear hp
        rintro e v2 ⟨rfl, hb⟩
        replace OL := Lib.hid (OL.out.ext hb)
        replace BW := Lib.hid (ext_trans BW.out hb)
        clear hb
        obtain ⟨p1, p2⟩ := p
        dsimp only at HE ⊢
        by_cases hp0 : p2 = 0
        · have HE2 : Hid (decV bs = (xs, 0)) := by show _ = _; rw [HE.out, if_neg (fun h => h hp0)]
          subst hp0
          clear HE
          go_wp2_with fail
          go_ret2
          exact ⟨L, k, d, by rw [HE2.out]; rfl, by rw [HE2.out]; exact OL.out.rd, BW.out⟩
        · have HE2 : Hid (decV bs = ([], p2)) := by show _ = _; rw [HE.out, if_pos hp0]
          have hne : (p2 != 0) = true := by rw [bne_iff_ne]; exact hp0
          clear HE hp0
          go_wp2_with fail
          go_ret2
          exact ⟨none, 0, 0, by rw [HE2.out]; rfl, by rw [HE2.out]; exact RdS.nil _, BW.out⟩
      · have HE : Hid (decV bs = ([], z)) := by
          show _ = _
          by_cases he : ek = 0
          · subst he
            have h2 := HSM.out.good
            have h3 := HZ.out
            rw [if_neg (fun h => h rfl)] at h3
            by_cases h4 : 0 < n - a
            · rw [if_pos h4] at h3
              rw [h2, if_pos (fun h => by have h5 := HDL.out; rw [h] at h5; simp at h5; omega), h3]
            · rw [if_neg h4] at h3; exact absurd h3 hz0
          · have h3 := HZ.out
            rw [if_pos he] at h3
            rw [HSM.out.bad he, h3]
        have hne : (z != 0) = true := by rw [bne_iff_ne]; exact hz0
        clear HST HSM HZ hz0
        go_wp2_with fail
        go_ret2
        exact ⟨none, 0, 0, by rw [HE.out]; rfl, by rw [HE.out]; exact RdS.nil _, BW.out⟩
#print axioms rdecode_c
end Go.Proofs.YtibmkihehaedjaaDoor
