/-
  code: instructions' bytes: the document's contract.
-/
import Derived.Test.YtibmkihehaedjaaDoorGEnc
import Derived.Test.YtibmkihehaedjaaDoorMem2
namespace Go.Proofs.YtibmkihehaedjaaDoor
open Go.RowKit

theorem grow_keep {w w' : World} {g : Nat} {o : Obj} {S : Value} (h : w.grownBy w' S.ownBlock) (hg : w.heap[g]? = some o) (hne : ∀ z, S.ownBlock = some z → z ≠ g) : w'.heap[g]? = some o :=
  (h.block g (Array.getElem?_eq_some_iff.1 hg).1 (fun e => hne g e.symm rfl)).trans hg
theorem grow_ne {w : World} {g : Nat} {o : Obj} {S S' : Value} (h : ∀ z, S'.ownBlock = some z → S.ownBlock = some z ∨ w.heap.size ≤ z) (hg : w.heap[g]? = some o) (hne : ∀ z, S.ownBlock = some z → z ≠ g) : ∀ z, S'.ownBlock = some z → z ≠ g := by
  intro z hz e
  rcases h z hz with h1 | h1
  · exact hne z h1 e
  · have := (Array.getElem?_eq_some_iff.1 hg).1
    omega

set_option maxRecDepth 100000 in
set_option maxHeartbeats 4000000 in
theorem rencode_c (w : World) (A : Option Addr) (n c : Nat) (l : List Ins) (h : Hid (RdS w A n c l)) (hl : Hid (∀ x ∈ l, x.ok)) : Calls Tryd.prog 25 #[.slice A n c] w (Enc w (encV l)) := by
  have HL := Lib.hid h.out.len
  have hle := h.out.le
  have hmx := h.out.max
  obtain ⟨p, hp⟩ : ∃ p, p = checkV l 256 := ⟨_, rfl⟩
  have HP := Lib.hid hp
  by_cases he : p.2 = 0
  · have HE : Hid (encV l = (encF l n, 0)) := by show _ = _; unfold encV; rw [← hp, if_pos he, HL.out]
    have hck := check_ok (hp ▸ he)
    have HR := Lib.hid hck.2
    have n1 : 1 ≤ n := by have := hck.1; rw [HL.out] at this; exact this.1
    have n2 : n ≤ 2048 := by have := hck.1; rw [HL.out] at this; exact this.2
    have HS40 : Hid (∀ x ∈ l, (insB x).length ≤ 40) := fun x hx => insB_len (hl.out x hx) (right_parts (hck.2 x hx)).1
    rw [HE.out]
    obtain ⟨p1, p2⟩ := p
    dsimp only at he
    subst he
    have wn : IntKind.u64.wrap (n : Int) = (n : Int) := IntWalk.u64_in _ (by omega)
    clear hp hck
    go_enter Tryd.func25, Tryd.ntmps25
    go_wp2_with fail
    refine (rcheck_c _ A n c l h 256).mono ?_
    rw [← HP.out]
    rintro e w1 ⟨rfl, hb⟩
    have HB := Lib.hid hb
    clear hb
    go_wp2_with fail
    refine (refNum_i _ n (by omega) _ rfl).mono ?_
    rintro e w2 ⟨A1, n1', c1, rfl, hO, hb⟩
    have O1 : Hid (Own w2 5 w.heap.size A1 n1' c1 (encF l 0)) := by
      have := Own.down hO HB.out.size
      show Own _ _ _ _ _ _ _
      unfold encF
      rw [HL.out, List.take_zero, List.flatMap_nil, List.append_nil]
      exact this
    replace HB := Lib.hid (ext_trans HB.out hb)
    clear hO hb
    go_wp2_with fail
    go_loopw [6, 7] (fun bv iv wr => ∃ (k : Nat) (B : Option Addr) (nn cc : Nat), k ≤ n ∧ iv = .int .i64 k ∧ bv = .slice B nn cc ∧ Hid (Own wr 5 w.heap.size B nn cc (encF l k)) ∧ Hid (Below w.heap.size w wr)) (fun _ iv _ => n - (intOf iv).toNat)
    case atStart => exact ⟨0, A1, n1', c1, Nat.zero_le _, rfl, rfl, O1.out, HB.out⟩
    case round =>
      clear O1 HB
      obtain ⟨k, B, nn, cc, hk, rfl, rfl, HO, HB⟩ := hrel
      by_cases hlt : k < n
      · have hlen : k < l.length := by rw [HL.out]; exact hlt
        obtain ⟨bb, oo, rfl, hbo, c0, c1, c2, c3⟩ := h.out.at hlt
        have CC : Hid (∀ v, Below w.heap.size w v → v.cell? ⟨bb, oo + k * 4, none⟩ = some (.int .i64 (l.getD k noIns).o) ∧ v.cell? ⟨bb, oo + k * 4 + 1, none⟩ = some (.int .i64 (l.getD k noIns).a) ∧ v.cell? ⟨bb, oo + k * 4 + 2, none⟩ = some (.int .i64 (l.getD k noIns).b) ∧ v.cell? ⟨bb, oo + k * 4 + 3, none⟩ = some (.int .i64 (l.getD k noIns).c)) :=
          fun v hv => ⟨(hv.cell (p := ⟨bb, oo + k * 4, none⟩) hbo).trans c0, (hv.cell (p := ⟨bb, oo + k * 4 + 1, none⟩) hbo).trans c1, (hv.cell (p := ⟨bb, oo + k * 4 + 2, none⟩) hbo).trans c2, (hv.cell (p := ⟨bb, oo + k * 4 + 3, none⟩) hbo).trans c3⟩
        obtain ⟨y, hy⟩ : ∃ y, y = l.getD k noIns := ⟨_, rfl⟩
        rw [← hy] at CC
        have hym : y ∈ l := by rw [hy, getD_at hlen]; exact List.getElem_mem _
        have HS : Hid (encF l (k + 1) = encF l k ++ insB y) := by show _ = _; rw [encF_step hlen, ← hy]
        have hyo := (right_parts (HR.out y hym)).1
        have HYK : Hid y.ok := hl.out y hym
        have hnn : nn ≤ 50000000 := by rw [← HO.out.len]; exact encF_len HS40.out (by rw [HL.out]; omega) k
        have hltI : (k : Int) < (n : Int) := by omega
        have hkI : (0 : Int) ≤ (k : Int) := by omega
        clear hy hym hlen c0 c1 c2 c3
        obtain ⟨o, a, b, c'⟩ := y
        dsimp only at hyo CC
        obtain ⟨m, rfl⟩ : ∃ m : Nat, o = (m : Int) := ⟨o.toNat, by omega⟩
        have hm : m < 22 := by omega
        have wm : IntKind.u64.wrap (m : Int) = (m : Int) := IntWalk.u64_in _ (by omega)
        obtain ⟨t, ht⟩ : ∃ t, t = three a b c' := ⟨_, rfl⟩
        have HIN : Hid (∀ k, In64 (t k)) := by
          intro k
          rw [ht]
          exact three_in (i := ⟨m, a, b, c'⟩) HYK.out k
        have HT := Lib.hid ht
        obtain ⟨q, hq⟩ : ∃ q, q = (hasB m).length := ⟨_, rfl⟩
        have hq3 : q ≤ 3 := by rw [hq]; exact (hasB_len m hm).2
        have HIB : Hid (insB ⟨m, a, b, c'⟩ = num m ++ putsF t q) := by
          show num (m : Int).toNat ++ putsF (three a b c') (hasB (m : Int).toNat).length = _
          rw [Int.toNat_natCast, ← ht, ← hq]
        rw [HIB.out] at HS
        obtain ⟨S, hS⟩ : ∃ S : ByteArray, S = ⟨(rhasB m).toArray⟩ := ⟨_, rfl⟩
        have HSZ : S.size = q := by rw [hS, hq, ← (rhas_len m hm).1]; rfl
        have HHAS : Hid (∀ w, Calls Tryd.prog 36 #[.int .i64 m] w (Gives (.string S) w)) := by
          intro w
          rw [hS]
          exact rhas_c w m hm
        clear ht hq hS HIB hyo HYK
        obtain ⟨c0, c1, c2, c3⟩ := CC.out wr HB.out
        go_wp2_with fail
        clear c0 c1 c2 c3
        refine (refNum_i _ m (by omega) _ rfl).mono ?_
        rintro e v ⟨A2, m2, d2, rfl, hO2, hb⟩
        replace HO := Lib.hid (HO.out.ext hb)
        replace HB := Lib.hid (ext_trans HB.out hb)
        have RY := Lib.hid hO2.rd
        have hm2 : m2 ≤ 10 := by rw [← hO2.len]; exact num_ten (by omega)
        clear hO2 hb
        go_wp2_with (refine wpList_push_all (o := ⟨some 36, _, _, _, _, _⟩) rfl (.tmp 28) (.tmp 35) 48 48 rfl 5 Tryd.underlying48 infoU8 w.heap.size _ _ _ _ (by rfl) HO.out _ m2 (num m) (by rfl) (RY.out.src Tryd.underlying48) (by omega) HB.out.size ?_; intro A3 c3 w3 ho3 hb3; have HO3 := Lib.hid ho3; have HB3 := Lib.hid (HB.out.trans hb3); clear ho3 hb3; obtain ⟨c0, c1, c2, c4⟩ := CC.out w3 HB3.out; go_simp)
        clear c0 c1 c2 c4
        refine (three_c _ _ _ _ _).mono ?_
        rintro e v3 ⟨rfl, hb⟩
        replace HO3 := Lib.hid (HO3.out.ext hb)
        replace HB3 := Lib.hid (ext_trans HB3.out hb)
        clear hb HO HB RY
        go_upto_region 10 with fail
        obtain ⟨g, hg⟩ : ∃ g, g = v3.heap.size := ⟨_, rfl⟩
        obtain ⟨U, hU⟩ : ∃ U, U = World.alloc v3 (.cells #[.int .i64 a, .int .i64 b, .int .i64 c'] 70) := ⟨_, rfl⟩
        have B3 : Hid (U.heap[g]? = some (.cells #[.int .i64 a, .int .i64 b, .int .i64 c'] 70 (0, 0))) := by rw [hU, hg]; exact Go.heap_alloc_new v3 _
        have BU : Hid (Below v3.heap.size v3 U) := by rw [hU]; exact ext_alloc v3 _
        have HNE : Hid (∀ z, (Value.slice A3 (nn + m2) c3).ownBlock = some z → z ≠ g) := by
          intro z hz e
          have := (HO3.out.row.lt z hz).2
          omega
        replace HO3 := Lib.hid (HO3.out.ext BU.out)
        replace HB3 := Lib.hid (ext_trans HB3.out BU.out)
        rw [← hU, ← hg]
        clear hU hg BU
        go_wp2_with fail
        go_loopw [6, 9] (fun bv iv wq => ∃ (j : Nat) (B2 : Option Addr) (n3 c3 : Nat), j ≤ q ∧ iv = .int .i64 j ∧ bv = .slice B2 n3 c3 ∧ Hid (Own wq 5 w.heap.size B2 n3 c3 (encF l k ++ num m ++ putsF t j)) ∧ Hid (Below w.heap.size w wq) ∧ Hid (wq.heap[g]? = some (.cells #[.int .i64 a, .int .i64 b, .int .i64 c'] 70 (0, 0))) ∧ Hid (∀ z, (Value.slice B2 n3 c3).ownBlock = some z → z ≠ g)) (fun _ iv _ => q - (intOf iv).toNat)
        case atStart => exact ⟨0, A3, _, _, Nat.zero_le _, rfl, rfl, by show Own _ _ _ _ _ _ _; rw [show putsF t 0 = [] from rfl, List.append_nil]; exact HO3.out, HB3.out, B3.out, HNE.out⟩
        case round =>
          clear HO3 HB3 HNE B3
          obtain ⟨j, B2, n3, c3, hj, rfl, rfl, HO, HB, B3, HNE⟩ := hrel
          obtain ⟨c0, c1, c2, c4⟩ := CC.out _ HB.out
          by_cases hjq : j < q
          · have j3 : j < 3 := by omega
            have hjI : (j : Int) < (q : Int) := by omega
            have hj0 : (0 : Int) ≤ (j : Int) := by omega
            go_wp2_with fail
            clear c0 c1 c2 c4
            refine (HHAS.out _).mono ?_
            rintro e v4 ⟨rfl, hb⟩
            replace HO := Lib.hid (HO.out.ext hb)
            replace HB := Lib.hid (ext_trans HB.out hb)
            replace B3 := Lib.hid (keepG hb B3.out)
            clear hb
            have ct := three_at a b c' j3 B3.out
            rw [← HT.out] at ct
            have hin := HIN.out j
            obtain ⟨x, hx⟩ : ∃ x, x = t j := ⟨_, rfl⟩
            rw [← hx] at ct hin
            have HSJ : Hid (putsF t (j + 1) = putsF t j ++ num (fold x)) := by show _ = _; rw [hx]; rfl
            have hn3 : n3 ≤ 60000000 := by
              have h1 := HO.out.len
              rw [List.length_append, List.length_append] at h1
              have h2 := puts_len HIN.out j
              have h3 := num_ten (m := m) (by omega)
              have h4 := encF_len HS40.out (by rw [HL.out]; omega) k
              omega
            have hfl := fold_lt hin.1 hin.2
            clear hx
            go_wp2_with fail
            refine (refFold_c _ x hin.1 hin.2).mono ?_
            rintro e v5 ⟨rfl, rfl⟩
            clear ct
            go_wp2_with fail
            refine (refNum_i _ (fold x) hfl _ rfl).mono ?_
            rintro e v6 ⟨A2', m2', d2', rfl, hO2, hb⟩
            replace HO := Lib.hid (HO.out.ext hb)
            replace HB := Lib.hid (ext_trans HB.out hb)
            replace B3 := Lib.hid (keepG hb B3.out)
            have RY := Lib.hid hO2.rd
            have hm2' : m2' ≤ 10 := by rw [← hO2.len]; exact num_ten hfl
            clear hO2 hb hin
            go_wp2_with (refine wpList_push_at (o := ⟨some 59, _, _, _, _, _⟩) rfl (.tmp 53) (.tmp 58) 48 48 rfl 5 Tryd.underlying48 infoU8 w.heap.size _ _ _ _ (by rfl) HO.out _ m2' (num (fold x)) (by rfl) (RY.out.src Tryd.underlying48) (by omega) HB.out.size ?_; intro A4 c4 w4 ho4 hb4 hg4 hn4; have HO4 := Lib.hid ho4; have HB4 := Lib.hid (HB.out.trans hb4); have B4 : Hid (w4.heap[g]? = some (.cells #[.int .i64 a, .int .i64 b, .int .i64 c'] 70 (0, 0))) := grow_keep hg4 B3.out HNE.out; have HNE4 : Hid (∀ z, (Value.slice A4 (n3 + m2') c4).ownBlock = some z → z ≠ g) := grow_ne hn4 B3.out HNE.out; clear ho4 hb4 hg4 hn4; go_simp)
            exact ⟨⟨j + 1, A4, n3 + m2', c4, by omega, by go_num, rfl, by show Own _ _ _ _ _ _ _; rw [HSJ.out, ← List.append_assoc]; exact HO4.out, HB4.out, B4.out, HNE4.out⟩, by simp [intOf]; omega⟩
          · obtain rfl : j = q := by omega
            go_wp2_with fail
            clear c0 c1 c2 c4
            refine (HHAS.out _).mono ?_
            rintro e v4 ⟨rfl, hb⟩
            replace HO := Lib.hid (HO.out.ext hb)
            replace HB := Lib.hid (ext_trans HB.out hb)
            clear hb
            go_wp2_with fail
            exact ⟨⟨k + 1, B2, n3, c3, by omega, by go_num, rfl, by show Own _ _ _ _ _ _ _; rw [HS.out, ← List.append_assoc]; exact HO.out, HB.out⟩, by simp [intOf]; omega⟩
      · obtain rfl : k = n := by omega
        go_wp2_with fail
        go_ret2
        exact ⟨_, _, _, rfl, HO.out.rd, HB.out⟩
  · have HE : Hid (encV l = ([], p.2)) := by show _ = _; unfold encV; rw [← hp, if_neg he]
    rw [HE.out]
    obtain ⟨p1, p2⟩ := p
    dsimp only at he ⊢
    have hne : (p2 != 0) = true := by rw [bne_iff_ne]; exact he
    clear hp he
    go_enter Tryd.func25, Tryd.ntmps25
    go_wp2_with fail
    refine (rcheck_c _ A n c l h 256).mono ?_
    rw [← HP.out]
    rintro e w1 ⟨rfl, hb⟩
    have HB := Lib.hid hb
    clear hb
    go_wp2_with fail
    go_ret2
    exact ⟨_, _, _, rfl, Rd.nil _, HB.out⟩
#print axioms rencode_c
end Go.Proofs.YtibmkihehaedjaaDoor
