/-
  code: the instructions that bytes are: the program's contract.
-/
import Derived.Test.YtibmkihehaedjaaDoorGRdJ
namespace Go.Proofs.YtibmkihehaedjaaDoor
open Go.RowKit

/-- where the instructions' reading stands: behind k of them -/
def DecSt (bs : List UInt8) (k : Nat) (xs : List Ins) (bk : List UInt8) (ek : Int) : Prop :=
  (ek ≠ 0 ∧ ((rnum bs 0 2048).2.2 ≠ 0 → ek = (rnum bs 0 2048).2.2) ∧ ((rnum bs 0 2048).2.2 = 0 → (manyR (rnum bs 0 2048).1 (rnum bs 0 2048).2.1).2.2 = ek)) ∨
  (ek = 0 ∧ (rnum bs 0 2048).2.2 = 0 ∧ manyR (rnum bs 0 2048).1 (rnum bs 0 2048).2.1 = (xs ++ (manyR ((rnum bs 0 2048).1 - k) bk).1, (manyR ((rnum bs 0 2048).1 - k) bk).2))
theorem DecSt.start (bs : List UInt8) : DecSt bs 0 [] (rnum bs 0 2048).2.1 (rnum bs 0 2048).2.2 := by
  by_cases h : (rnum bs 0 2048).2.2 = 0
  · exact .inr ⟨h, h, by simp⟩
  · exact .inl ⟨h, fun _ => rfl, fun h2 => absurd h2 h⟩
theorem DecSt.err {bs : List UInt8} {k : Nat} {xs : List Ins} {bk : List UInt8} (h : DecSt bs k xs bk 0) (hk : k < (rnum bs 0 2048).1) (hi : (insR bk).2.2 ≠ 0) : (rnum bs 0 2048).2.2 = 0 ∧ (manyR (rnum bs 0 2048).1 (rnum bs 0 2048).2.1).2.2 = (insR bk).2.2 := by
  rcases h with ⟨h1, _⟩ | ⟨_, h2, h3⟩
  · exact absurd rfl h1
  · refine ⟨h2, ?_⟩
    obtain ⟨m, hm⟩ : ∃ m, (rnum bs 0 2048).1 - k = m + 1 := ⟨(rnum bs 0 2048).1 - k - 1, by omega⟩
    rw [h3, hm]
    conv => lhs; rw [manyR]
    rw [if_pos hi]
theorem DecSt.step {bs : List UInt8} {k : Nat} {xs : List Ins} {bk : List UInt8} {ek : Int} (h : DecSt bs k xs bk ek) (hk : k < (rnum bs 0 2048).1) {i : Ins} {rest : List UInt8} {err' : Int} (hr : ReadI bk ek i rest err' 0) : DecSt bs (k + 1) (xs ++ [i]) rest err' := by
  by_cases he : ek = 0
  · subst he
    rcases hr.2 rfl with ⟨_, h2, h3⟩ | ⟨h1, _⟩ | ⟨_, h2, h3⟩
    · rcases h with ⟨h1, _⟩ | ⟨_, q2, q3⟩
      · exact absurd rfl h1
      · refine .inr ⟨h2, q2, ?_⟩
        obtain ⟨m, hm⟩ : ∃ m, (rnum bs 0 2048).1 - k = m + 1 := ⟨(rnum bs 0 2048).1 - k - 1, by omega⟩
        rw [q3, hm, show (rnum bs 0 2048).1 - (k + 1) = m by omega]
        conv => lhs; rw [manyR]
        rw [h3, if_neg (fun h => h rfl)]
        simp
    · exact absurd h1 (by decide)
    · obtain ⟨q1, q2⟩ := h.err hk (by rw [h3]; exact h2)
      exact .inl ⟨h2, fun h => absurd q1 h, fun _ => by rw [q2, h3]⟩
  · obtain ⟨_, h2⟩ := hr.1 he
    rcases h with ⟨h1, q2, q3⟩ | ⟨h1, _⟩
    · rw [h2]
      exact .inl ⟨h1, q2, q3⟩
    · exact absurd h1 he
theorem DecSt.two {bs : List UInt8} {k : Nat} {xs : List Ins} {bk : List UInt8} {ek : Int} (h : DecSt bs k xs bk ek) (hk : k < (rnum bs 0 2048).1) {i : Ins} {rest : List UInt8} {err' r : Int} (hr : ReadI bk ek i rest err' r) (h0 : r ≠ 0) : r = 2 ∧ decV bs = ([], 2) := by
  by_cases he : ek = 0
  · subst he
    rcases hr.2 rfl with ⟨h1, _⟩ | ⟨h1, h2⟩ | ⟨h1, _⟩
    · exact absurd h1 h0
    · obtain ⟨q1, q2⟩ := h.err hk (by rw [h2]; decide)
      refine ⟨h1, ?_⟩
      unfold decV
      rw [if_neg (fun h => h q1), q2, h2, if_pos (by decide)]
    · exact absurd h1 h0
  · exact absurd (hr.1 he).1 h0
theorem DecSt.bad {bs : List UInt8} {xs : List Ins} {bk : List UInt8} {ek : Int} (h : DecSt bs (rnum bs 0 2048).1 xs bk ek) (he : ek ≠ 0) : decV bs = ([], ek) := by
  rcases h with ⟨h1, h2, h3⟩ | ⟨h1, _⟩
  · unfold decV
    by_cases hp : (rnum bs 0 2048).2.2 = 0
    · rw [if_neg (fun h => h hp), h3 hp, if_pos he]
    · rw [if_pos hp, h2 hp]
  · exact absurd h1 he
theorem DecSt.good {bs : List UInt8} {xs : List Ins} {bk : List UInt8} (h : DecSt bs (rnum bs 0 2048).1 xs bk 0) : decV bs = if bk ≠ [] then ([], 5) else if (checkV xs 256).2 ≠ 0 then ([], (checkV xs 256).2) else (xs, 0) := by
  rcases h with ⟨h1, _⟩ | ⟨_, h2, h3⟩
  · exact absurd rfl h1
  · rw [Nat.sub_self, show manyR 0 bk = ([], bk, 0) from rfl] at h3
    simp only [List.append_nil] at h3
    unfold decV
    rw [if_neg (fun h => h h2), h3, if_neg (fun h => h rfl)]

theorem Rdr.low {w w' : World} {b B : Nat} {A : Option Addr} {n c : Nat} {bs : List UInt8} {err : Int} (h : Rdr w b A n c bs err) (hb : b < B) (hA : 0 < n → ∀ x, A = some x → x.block < B) (k : Below B w w') : Rdr w' b A n c bs err :=
  ⟨(k.block b hb).trans h.blk, ⟨h.rd.len, h.rd.le, h.rd.max, fun hn => by
    obtain ⟨b3, o3, hA3, hb3, hc⟩ := h.rd.cells hn
    have h3 := hA hn _ hA3
    exact ⟨b3, o3, hA3, Nat.lt_of_lt_of_le hb3 k.size, fun j hj => (k.cell (p := ⟨b3, o3 + j, none⟩) h3).trans (hc j hj)⟩, h.rd.none_⟩⟩
theorem low_same {B : Nat} {A A' : Option Addr} {n n' : Nat} (h : SameBlk A n A' n') (hA : 0 < n → ∀ x, A = some x → x.block < B) : 0 < n' → ∀ x, A' = some x → x.block < B := by
  intro hn x hx
  obtain ⟨y, hy, e⟩ := h.2 x hx
  rw [e]
  exact hA (Nat.lt_of_lt_of_le hn h.1) y hy
theorem rdr_low {w : World} {b : Nat} {A : Option Addr} {n c : Nat} {bs : List UInt8} {err : Int} (h : Rdr w b A n c bs err) : 0 < n → ∀ x, A = some x → x.block < w.heap.size := by
  intro hn x hx
  obtain ⟨b3, o3, hA3, hb3, _⟩ := h.rd.cells hn
  rw [hA3] at hx
  injection hx with hx
  rw [← hx]
  exact hb3
theorem OwnS.kept {w w' : World} {E : TypeId} {B b : Nat} {A : Option Addr} {n c : Nat} {xs : List Ins} (h : OwnS w E B A n c xs) (k : w.grownBy w' (some b)) (hb : b < B) : OwnS w' E B A n c xs :=
  ⟨h.len, h.row.kept k (by
    cases hv : (Value.slice A n c).ownBlock with
    | none => exact .inl rfl
    | some g =>
      refine .inr fun e => ?_
      have h1 := (h.row.lt g hv).1
      injection e with e
      omega)⟩
def Dec (w : World) (p : List Ins × Int) (e : Ending) (w' : World) : Prop := ∃ A n c, e = .returned (.tuple #[.slice A n c, .int .i64 p.2]) ∧ RdS w' A n c p.1 ∧ Below w.heap.size w w'

set_option maxRecDepth 100000 in
set_option maxHeartbeats 4000000 in
theorem decode_c (w : World) (hf : Hid (Forms w)) (A : Option Addr) (n c : Nat) (bs : List UInt8) (h : Hid (Rd w A n c bs)) (hn : n ≤ 100000000000000) : Calls Tryd.prog 26 #[.slice A n c] w (Dec w (decV bs)) := by
  have HST := Lib.hid (DecSt.start bs)
  obtain ⟨m, hm⟩ : ∃ m, m = (rnum bs 0 2048).1 := ⟨_, rfl⟩
  have hm2 : m ≤ 2048 := by rw [hm]; exact rnum_most bs 0 2048
  have HM := Lib.hid hm
  clear hm
  have H0 := hf.out.lt
  go_enter Tryd.func26, Tryd.ntmps26
  go_wp2_with fail
  refine (newReader_c _ A n c bs h.out hn).mono ?_
  rintro e w1 ⟨b, A1, n1, c1, rfl, hR, hbw, hb⟩
  have B := Lib.hid hb
  have HF := Lib.hid (hf.out.ext hb)
  have RR := Lib.hid hR
  have hb1 := hR.lt
  have bnz : b ≠ 0 := by omega
  clear hR hb hf
  go_wp2_with fail
  refine (num_r2 _ b A1 n1 c1 bs 0 RR.out 2048).mono ?_
  rw [← HM.out]
  rintro e w2 ⟨rfl, A2, n2, c2, hR, hg, hsb⟩
  obtain ⟨B1, hB1⟩ : ∃ B1, B1 = w1.heap.size := ⟨_, rfl⟩
  have LOW : Hid (0 < n2 → ∀ x, A2 = some x → x.block < B1) := by rw [hB1]; exact low_same hsb (rdr_low RR.out)
  have bB1 : b < B1 := by omega
  have B1z : 0 < B1 := by omega
  have wB1 : w.heap.size ≤ B1 := by have := B.out.size; omega
  have B1w : B1 ≤ w2.heap.size := by have := hg.size; omega
  have BW : Hid (Below w.heap.size w w2) := below_grown B.out B.out.size hg (fun k hk => by injection hk with hk; omega)
  replace HF := Lib.hid (HF.out.grown hg bnz)
  replace RR := Lib.hid hR
  clear B hR hg hsb hB1 hb1
  go_wp2_with fail
  go_loopw [5, 15] (fun lv iv wr => ∃ (k : Nat) (xs : List Ins) (bk : List UInt8) (ek : Int) (A' : Option Addr) (n' c' : Nat) (L : Option Addr) (d : Nat), k ≤ m ∧ B1 ≤ wr.heap.size ∧ iv = .int .u64 k ∧ lv = .slice L k d ∧ Hid (DecSt bs k xs bk ek) ∧ Hid (Rdr wr b A' n' c' bk ek) ∧ Hid (0 < n' → ∀ x, A' = some x → x.block < B1) ∧ Hid (OwnS wr 33 B1 L k d xs) ∧ Hid (Forms wr) ∧ Hid (Below w.heap.size w wr)) (fun _ iv _ => m - (intOf iv).toNat)
  case atStart => exact ⟨0, [], _, _, A2, n2, c2, none, 0, Nat.zero_le _, B1w, rfl, rfl, HST.out, RR.out, LOW.out, OwnS.void _ _ _, HF.out, BW.out⟩
  case round =>
    clear HST RR LOW HF BW B1w
    obtain ⟨k, xs, bk, ek, A', n', c', L, d, hk, B1w, rfl, rfl, HST, RR, LOW, OL, HF, BW⟩ := hrel
    by_cases hlt : k < m
    · have hltI : (k : Int) < (m : Int) := by omega
      have wk : IntKind.u64.wrap ((k : Int) + 1) = (k : Int) + 1 := IntWalk.u64_in _ (by omega)
      go_wp2_with fail
      refine (readInstr_c _ HF b bnz A' n' c' bk ek RR).mono ?_
      rintro e w3 ⟨i, rest, err', r, rfl, ⟨A3, n3, c3, hR, hsb⟩, hg, hri⟩
      have HRI := Lib.hid hri
      replace LOW := Lib.hid (low_same hsb LOW.out)
      replace OL := Lib.hid (OL.out.kept hg bB1)
      replace HF := Lib.hid (HF.out.grown hg bnz)
      replace BW : Hid (Below w.heap.size w w3) := below_grown BW.out BW.out.size hg (fun k hk => by injection hk with hk; omega)
      replace RR := Lib.hid hR
      have B1w3 : B1 ≤ w3.heap.size := by have := hg.size; omega
      clear hri hR hsb hg B1w
      by_cases hr : r = 0
      · subst hr
        have HST2 := Lib.hid (HST.out.step (by rw [← HM.out]; exact hlt) HRI.out)
        clear HST HRI
        go_upto_region 8 with fail
        obtain ⟨g, hg⟩ : ∃ g, g = w3.heap.size := ⟨_, rfl⟩
        obtain ⟨U, hU⟩ : ∃ U, U = World.alloc w3 (.cells #[.int .i64 i.o, .int .i64 i.a, .int .i64 i.b, .int .i64 i.c] 33) := ⟨_, rfl⟩
        have C : Hid (U.heap[g]? = some (.cells #[.int .i64 i.o, .int .i64 i.a, .int .i64 i.b, .int .i64 i.c] 33 (0, 0))) := by rw [hU, hg]; exact Go.heap_alloc_new w3 _
        have BU : Hid (Below w3.heap.size w3 U) := by rw [hU]; exact ext_alloc w3 _
        replace OL := Lib.hid (OL.out.ext BU.out)
        replace HF := Lib.hid (HF.out.ext BU.out)
        replace RR := Lib.hid (RR.out.ext BU.out)
        replace BW := Lib.hid (ext_trans BW.out BU.out)
        have B1U : B1 ≤ U.heap.size := by have := BU.out.size; omega
        rw [← hU, ← hg]
        clear hU hg BU B1w3
        obtain ⟨x0, x1, x2, x3⟩ := full4i C.out
        go_wp2_with (refine wpList_pushS 29 33 Tryd.underlying29 infoCI (o := ⟨some 28, _, _, _, _, _⟩) rfl (.tmp 25) (.tmp 27) rfl B1 _ _ _ _ (by rfl) OL.out i (by rfl) (by omega) B1U ?_; intro L' d' w4 ho' hb'; have OL2 := Lib.hid ho'; have HB2 := Lib.hid hb'; clear ho' hb' x0 x1 x2 x3; go_simp)
        exact ⟨⟨k + 1, xs ++ [i], rest, err', A3, n3, c3, L', d', by omega, Nat.le_trans B1U HB2.out.size, by go_num, rfl, HST2.out, RR.out.low bB1 LOW.out HB2.out, LOW.out, OL2.out, ⟨Nat.lt_of_lt_of_le HF.out.lt HB2.out.size, fun o ho => (HB2.out.cell (p := ⟨0, o * 2, none⟩) B1z).trans (HF.out.name o ho), fun o ho => (HB2.out.cell (p := ⟨0, o * 2 + 1, none⟩) B1z).trans (HF.out.has o ho)⟩, BW.out.trans (HB2.out.mono wB1)⟩, by simp [intOf]; omega⟩
      · obtain ⟨h2, h3⟩ := HST.out.two (by rw [← HM.out]; exact hlt) HRI.out hr
        subst h2
        have HE := Lib.hid h3
        clear h3 hr HST HRI
        go_wp2_with fail
        go_ret2
        exact ⟨none, 0, 0, by rw [HE.out]; rfl, by rw [HE.out]; exact RdS.nil _, ext_trans BW.out (ext_alloc _ _)⟩
    · obtain rfl : k = m := by omega
      have hnl := RR.out.rd.len
      have HNL := Lib.hid hnl
      clear hnl
      go_wp2_with fail
      refine (end_r _ b A' n' c' bk ek RR.out).mono ?_
      obtain ⟨z, hz⟩ : ∃ z, z = rend n' ek := ⟨_, rfl⟩
      have HZ := Lib.hid hz
      rw [← hz]
      clear hz
      rintro e w' ⟨rfl, rfl⟩
      by_cases hz0 : z = 0
      · have hek : ek = 0 := by
          have h1 := HZ.out
          rw [hz0] at h1
          unfold rend at h1
          by_cases he : ek = 0
          · exact he
          · rw [if_pos he] at h1; exact absurd h1.symm he
        subst hek
        have hbk : bk = [] := by
          have h1 := HZ.out
          rw [hz0] at h1
          unfold rend at h1
          rw [if_neg (fun h => h rfl)] at h1
          by_cases h2 : 0 < n'
          · rw [if_pos h2] at h1; exact absurd h1 (by decide)
          · exact List.eq_nil_of_length_eq_zero (by rw [HNL.out]; omega)
        have HE : Hid (decV bs = if (checkV xs 256).2 ≠ 0 then ([], (checkV xs 256).2) else (xs, 0)) := by
          have h1 := HST.out
          rw [HM.out] at h1
          have h2 := h1.good
          rw [if_neg (fun h => h hbk)] at h2
          exact h2
        subst hz0
        clear HST HZ hbk
        go_wp2_with fail
        refine (check_c _ HF L k d xs (Lib.hid OL.out.rd) 256).mono ?_
        obtain ⟨p, hp⟩ : ∃ p, p = checkV xs 256 := ⟨_, rfl⟩
        rw [← hp] at HE ⊢
        clear hp
        rintro e v ⟨rfl, hb⟩
        replace OL := Lib.hid (OL.out.ext hb)
        replace BW := Lib.hid (ext_trans BW.out hb)
        clear hb
        obtain ⟨p1, p2⟩ := p
        dsimp only at HE ⊢
        by_cases hp0 : p2 = 0
        · have HE2 : Hid (decV bs = (xs, 0)) := by show _ = _; rw [HE.out, if_neg (fun h => h hp0)]
          subst hp0
          clear HE
          go_wp2_with fail
          go_ret2
          exact ⟨L, k, d, by rw [HE2.out]; rfl, by rw [HE2.out]; exact OL.out.rd, BW.out⟩
        · have HE2 : Hid (decV bs = ([], p2)) := by show _ = _; rw [HE.out, if_pos hp0]
          have hne : (p2 != 0) = true := by rw [bne_iff_ne]; exact hp0
          clear HE hp0
          go_wp2_with fail
          go_ret2
          exact ⟨none, 0, 0, by rw [HE2.out]; rfl, by rw [HE2.out]; exact RdS.nil _, BW.out⟩
      · have HE : Hid (decV bs = ([], z)) := by
          have h1 := HST.out
          rw [HM.out] at h1
          show _ = _
          by_cases he : ek = 0
          · subst he
            have h2 := h1.good
            have h3 := HZ.out
            unfold rend at h3
            rw [if_neg (fun h => h rfl)] at h3
            by_cases h4 : 0 < n'
            · rw [if_pos h4] at h3
              rw [h2, if_pos (fun h => by rw [h] at HNL; have := HNL.out; simp at this; omega), h3]
            · rw [if_neg h4] at h3; exact absurd h3 hz0
          · have h3 := HZ.out
            unfold rend at h3
            rw [if_pos he] at h3
            rw [h1.bad he, h3]
        have hne : (z != 0) = true := by rw [bne_iff_ne]; exact hz0
        clear HST HZ hz0
        go_wp2_with fail
        go_ret2
        exact ⟨none, 0, 0, by rw [HE.out]; rfl, by rw [HE.out]; exact RdS.nil _, BW.out⟩
#print axioms decode_c
end Go.Proofs.YtibmkihehaedjaaDoor
