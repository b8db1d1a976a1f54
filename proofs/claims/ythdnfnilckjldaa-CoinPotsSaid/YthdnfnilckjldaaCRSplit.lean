/-
  coin: the document's Split: contracts.
-/
import Derived.Test.YthdnfnilckjldaaCSplit2
namespace Go.Proofs.Ythdnfnilckjldaa
open Go.RowKit

theorem OwnI.none (w : World) (E : TypeId) (B : Nat) : OwnI w E B none 0 0 [] := ⟨rfl, by omega, World.ownsRow_nil w B E 1⟩

/-- append(own, x): one number, that the translation has laid into a block of its own -/
theorem wpList_pushI {P : Program} {w : World} {ops : Array Oper} {rest : List Oper} {o : Oper} {a : Act} {Q : Exit → Act → World → Prop} (hgd : o.guard = Option.none) (s x : Operand) (t : TypeId)
    (ho : o.op = .call { callee := .builtin .append, args := #[s, x], argTypes := #[t, t] }) (E : TypeId) (ht : P.underlying t = some (.slice E)) (hinfo : (P.info? E).map (fun i => (i.zero, i.size, i.bytes)) = some (some (.int .i64 0), 1, 8))
    (B : Nat) (A : Option Addr) (n c : Nat) (bs : List Int) (hs : a.eval s = .slice A n c) (hown : OwnI w E B A n c bs) (X : Int)
    (hx : a.eval x = .slice (some ⟨w.heap.size, 0, Option.none⟩) 1 1) (hn : n < 100000000000) (hB : B ≤ w.heap.size)
    (h : ∀ A' c' w', OwnI w' E B A' (n + 1) c' (bs ++ [X]) → Below B w w' → wpList P ops Q rest (a.put o.dst (.slice A' (n + 1) c')) w') : wpList P ops Q (o :: rest) a (w.alloc (.cells #[.int .i64 X] E)) := by
  refine wpList_pushI_all hgd s x t t ho E ht hinfo B A n c bs hs (hown.ext (ext_alloc _ _)) _ 1 [X] hx
    (Src.ofSlice _ ht ⟨w.heap.size, 0, Option.none⟩ 1 1 (I64 [X]) rfl (fun j u hu => ?_) (I64_one _)) (by omega) (by simp; omega) ?_
  · have hj : j = 0 := by
      have := (List.getElem?_eq_some_iff.1 hu).1
      simp [I64] at this
      exact this
    subst hj
    rw [Addr.add_lit]
    simp [I64] at hu
    subst hu
    simp
  · intro A' c' w' ho' hb'
    exact h A' c' w' ho' (((Below.refl B w).alloc hB _).trans hb')

theorem infoI : (Try.prog.info? 3).map (fun i => (i.zero, i.size, i.bytes)) = some (some (.int .i64 0), 1, 8) := by kernel_rfl

set_option maxRecDepth 100000 in
theorem rsplit_range (w : World) (T : Int) (A : Option Addr) (n c : Nat) (hT : Hid (¬ Amt T)) :
    Calls Try.prog 21 #[.int .i64 T, .slice A n c] w (Fails 2 w) := by
  go_enter Try.func21, Try.ntmps21
  go_wp2_with fail
  refine (rright_f _ _ hT.out).mono ?_
  rintro e v ⟨rfl, rfl⟩
  go_wp2_with fail
  go_ret2
  exact ⟨rfl, rfl⟩

set_option maxRecDepth 100000 in
set_option maxHeartbeats 1000000 in
theorem rsplit_bad (w : World) (T : Int) (A : Option Addr) (n c : Nat) (ws : List Int) (h : Hid (RdI w A n c ws)) (hT : Hid (Amt T)) (x0 q0 : Int) (hw : Hid (weigh ws = (x0, q0))) (hq : Hid (q0 ≠ 0)) :
    Calls Try.prog 21 #[.int .i64 T, .slice A n c] w (Fails q0 w) := by
  have HL := Lib.hid h.out.len
  have hle := h.out.le
  have hmax := h.out.max
  by_cases h1 : n < 1
  · obtain rfl : n = 0 := by omega
    have E : weigh ws = (0, 1) := if_pos (.inl (by rw [HL.out]; omega))
    have EQ := Lib.hid (hw.out.symm.trans E)
    clear E h1
    go_enter Try.func21, Try.ntmps21
    go_wp2_with fail
    refine (rright_t _ _ hT.out).mono ?_
    rintro e v ⟨rfl, rfl⟩
    go_wp2_with fail
    go_ret2
    have := EQ.out
    injection this with _ e2
    exact ⟨by rw [e2]; rfl, rfl⟩
  have z1 : ((n : Int) == 0) = false := by rw [beq_eq_false_iff_ne]; omega
  by_cases h8 : 8 < n
  · have E : weigh ws = (0, 1) := if_pos (.inr (by rw [HL.out]; omega))
    have EQ := Lib.hid (hw.out.symm.trans E)
    have h8I : (8 : Int) < (n : Int) := by omega
    clear E h1 h8
    go_enter Try.func21, Try.ntmps21
    go_wp2_with fail
    refine (rright_t _ _ hT.out).mono ?_
    rintro e v ⟨rfl, rfl⟩
    go_wp2_with fail
    go_ret2
    have := EQ.out
    injection this with _ e2
    exact ⟨by rw [e2]; rfl, rfl⟩
  have h8I : ¬ (8 : Int) < (n : Int) := by omega
  have E : Hid (weighF 0 ws = (x0, q0)) := by
    have := hw.out
    unfold weigh at this
    rw [if_neg (by rw [HL.out]; omega)] at this
    exact this
  clear h1 h8
  go_enter Try.func21, Try.ntmps21
  go_wp2_with fail
  refine (rright_t _ _ hT.out).mono ?_
  rintro e v ⟨rfl, rfl⟩
  go_wp2_with fail
  go_loopw [6, 7] (fun tv iv wr => ∃ (acc k : Nat), tv = .int .i64 acc ∧ iv = .int .i64 k ∧ k ≤ n ∧ Hid (weighF acc (ws.drop k) = weighF 0 ws) ∧ acc ≤ 1024 * k ∧ wr = w) (fun _ iv _ => n - (intOf iv).toNat)
  case atStart => exact ⟨0, 0, rfl, rfl, Nat.zero_le _, rfl, by omega, rfl⟩
  case round =>
    obtain ⟨acc, k, rfl, rfl, hk, HD, hacc, rfl⟩ := hrel
    by_cases hlt : k < n
    · obtain ⟨b, o, rfl, _, hc⟩ := h.out.cells (by omega)
      have c1 := hc k hlt
      clear hc
      obtain ⟨x, hx⟩ : ∃ x : Int, x = ws.getD k 0 := ⟨_, rfl⟩
      rw [← hx] at c1
      have hltI : (k : Int) < (n : Int) := by omega
      have hkI : (0 : Int) ≤ (k : Int) := by omega
      have hlen : k < ws.length := by rw [HL.out]; exact hlt
      by_cases x0' : x < 0
      · have D := weighF_off HD.out hlen (by rw [← hx]; exact .inl x0')
        have EQ := Lib.hid (E.out.symm.trans D)
        clear hx D
        go_wp2_with fail
        go_ret2
        have := EQ.out
        injection this with _ e2
        exact ⟨by rw [e2]; rfl, rfl⟩
      by_cases x1 : 1024 < x
      · have D := weighF_off HD.out hlen (by rw [← hx]; exact .inr x1)
        have EQ := Lib.hid (E.out.symm.trans D)
        clear hx D
        go_wp2_with fail
        go_ret2
        have := EQ.out
        injection this with _ e2
        exact ⟨by rw [e2]; rfl, rfl⟩
      obtain ⟨X, rfl⟩ : ∃ X : Nat, x = X := ⟨x.toNat, by omega⟩
      have D : Hid (weighF ((acc + X : Nat) : Int) (ws.drop (k + 1)) = weighF 0 ws) := by
        have := weighF_on HD.out hlen (by rw [← hx]; omega) (by rw [← hx]; omega)
        rw [← hx] at this
        exact this
      have hw : IntKind.i64.wrap ((acc : Int) + (X : Int)) = (acc : Int) + (X : Int) := IntWalk.i64_in _ (by omega)
      clear hx
      go_wp2_with fail
      go_roundw
      case rel => exact ⟨acc + X, k + 1, by simp, by go_num, by omega, D, by omega, by first | trivial | rfl⟩
      case measure => simp [intOf]; omega
    · obtain rfl : k = n := by omega
      have D : weighF 0 ws = if (acc : Int) = 0 then (0, 1) else ((acc : Int), 0) := weighF_end (t := acc) (xs := ws) (by rw [HL.out]; exact HD.out)
      by_cases ha : acc = 0
      · obtain rfl := ha
        have EQ := Lib.hid (E.out.symm.trans (D.trans (if_pos rfl)))
        clear D
        go_wp2_with fail
        go_ret2
        have := EQ.out
        injection this with _ e2
        exact ⟨by rw [e2]; rfl, rfl⟩
      · exfalso
        have := E.out.symm.trans (D.trans (if_neg (by omega)))
        injection this with _ e2
        exact hq.out e2

set_option maxRecDepth 100000 in
set_option maxHeartbeats 1000000 in
theorem rsplit_ok (w : World) (T : Int) (A : Option Addr) (n c : Nat) (ws : List Int) (h : Hid (RdI w A n c ws)) (hT : Hid (Amt T)) (W : Int) (hw : Hid (weigh ws = (W, 0))) :
    Calls Try.prog 21 #[.int .i64 T, .slice A n c] w (Gives 3 w n (parts T W ws)) := by
  have HK := Lib.hid (weigh_ok hw.out)
  have HL := Lib.hid h.out.len
  have hle := h.out.le
  have hmax := h.out.max
  have hn8 : n ≤ 8 := by have := HK.out.2.1; have := HL.out; omega
  have hn1 : 1 ≤ n := by have := HK.out.1; have := HL.out; omega
  have hT0 : 0 ≤ T := hT.out.1
  have hT1 : T ≤ 1125899906842624 := hT.out.2
  have hW1 : 1 ≤ W := HK.out.2.2.1
  have hWz : (W == 0) = false := by rw [beq_eq_false_iff_ne]; omega
  have z1 : ((n : Int) == 0) = false := by rw [beq_eq_false_iff_ne]; omega
  have h8I : ¬ (8 : Int) < (n : Int) := by omega
  have HSM := Lib.hid (take_sum_range hT.out hW1 HK.out.2.2.2 HK.out.2.1)
  have HLR := Lib.hid (left_range (T := T) hW1 (fun x hx => (HK.out.2.2.2 x hx).1) (weigh_sum hw.out))
  have E : Hid (weighF 0 ws = (W, 0)) := by
    have := hw.out
    unfold weigh at this
    rw [if_neg (by rw [HL.out]; omega)] at this
    exact this
  go_enter Try.func21, Try.ntmps21
  go_wp2_with fail
  refine (rright_t _ _ hT.out).mono ?_
  rintro e v ⟨rfl, rfl⟩
  go_wp2_with fail
  go_loopw [6, 7] (fun tv iv wr => ∃ (acc k : Nat), tv = .int .i64 acc ∧ iv = .int .i64 k ∧ k ≤ n ∧ Hid (weighF acc (ws.drop k) = weighF 0 ws) ∧ acc ≤ 1024 * k ∧ w = wr) (fun _ iv _ => n - (intOf iv).toNat)
  case atStart => exact ⟨0, 0, rfl, rfl, Nat.zero_le _, rfl, by omega, rfl⟩
  case round =>
    obtain ⟨acc, k, rfl, rfl, hk, HD, hacc, rfl⟩ := hrel
    by_cases hlt : k < n
    · obtain ⟨b, o, rfl, _, hc⟩ := h.out.cells (by omega)
      have c1 := hc k hlt
      clear hc
      obtain ⟨x, hx⟩ : ∃ x : Int, x = ws.getD k 0 := ⟨_, rfl⟩
      rw [← hx] at c1
      have hltI : (k : Int) < (n : Int) := by omega
      have hkI : (0 : Int) ≤ (k : Int) := by omega
      have hlen : k < ws.length := by rw [HL.out]; exact hlt
      have hxr := HK.out.2.2.2 x (by rw [hx, show ws.getD k 0 = ws[k] by simp [hlen]]; exact List.getElem_mem _)
      obtain ⟨X, rfl⟩ : ∃ X : Nat, x = X := ⟨x.toNat, by omega⟩
      have x0' : ¬ (X : Int) < 0 := by omega
      have x1' : ¬ (1024 : Int) < (X : Int) := by omega
      have D : Hid (weighF ((acc + X : Nat) : Int) (ws.drop (k + 1)) = weighF 0 ws) := by
        have := weighF_on HD.out hlen (by rw [← hx]; omega) (by rw [← hx]; omega)
        rw [← hx] at this
        exact this
      have hw : IntKind.i64.wrap ((acc : Int) + (X : Int)) = (acc : Int) + (X : Int) := IntWalk.i64_in _ (by omega)
      clear hx hxr
      go_wp2_with fail
      go_roundw
      case rel => exact ⟨acc + X, k + 1, by simp, by go_num, by omega, D, by omega, by first | trivial | rfl⟩
      case measure => simp [intOf]; omega
    · obtain rfl : k = n := by omega
      have D : weighF 0 ws = if (acc : Int) = 0 then (0, 1) else ((acc : Int), 0) := weighF_end (t := acc) (xs := ws) (by rw [HL.out]; exact HD.out)
      have hacW : (acc : Int) = W := by
        have := E.out.symm.trans D
        by_cases ha : (acc : Int) = 0
        · rw [if_pos ha] at this; injection this with _ e2; omega
        · rw [if_neg ha] at this; injection this with e1 _; exact e1.symm
      obtain rfl := hacW
      clear D HD hlt hacc
      go_wp2_with fail
      have hO := Lib.hid (OwnI.none w 3 w.heap.size)
      go_loopw [8, 9, 10] (fun ov lv iv wr => ∃ (i : Nat) (l : Int) (B : Option Addr) (d : Nat), i ≤ k ∧ iv = .int .i64 i ∧ lv = .int .i64 l ∧ ov = .slice B i d ∧ Hid (l = T - ((shares T acc ws).take i).sum) ∧ OwnI wr 3 w.heap.size B i d ((shares T acc ws).take i) ∧ Below w.heap.size w wr) (fun _ _ iv _ => k - (intOf iv).toNat)
      case atStart => exact ⟨0, T, Option.none, 0, Nat.zero_le _, rfl, rfl, rfl, by show T = _; simp, by simpa using hO.out, Below.refl _ _⟩
      case round =>
        obtain ⟨i, l, B, d, hi, rfl, rfl, rfl, HLv, ho, hb⟩ := hrel
        by_cases hlt : i < k
        · have hlen : i < ws.length := by rw [HL.out]; exact hlt
          obtain ⟨b, o, rfl, hbo, hc⟩ := (h.out.ext hb).cells (by omega)
          have c1 := hc i hlt
          clear hc
          obtain ⟨x, hx⟩ : ∃ x : Int, x = ws.getD i 0 := ⟨_, rfl⟩
          rw [← hx] at c1
          have hxr := HK.out.2.2.2 x (by rw [hx, show ws.getD i 0 = ws[i] by simp [hlen]]; exact List.getElem_mem _)
          have hp := share_prod hT.out hxr.1 hxr.2.1
          have hsr := share_le hT0 hW1 hxr.1 hxr.2.2
          have hp0 := hp.1
          have hp1 := hp.2
          have hs0 := hsr.1
          have hs1 := hsr.2
          have hsm := HSM.out i
          have hl0 : -9007199254740992 ≤ l := by have := HLv.out; omega
          have hl1 : l ≤ 1125899906842624 := by have := HLv.out; omega
          obtain ⟨sh, hsh⟩ : ∃ s, s = share T acc x := ⟨_, rfl⟩
          rw [← hsh] at hs0 hs1
          have hdv : T * x / (acc : Int) = sh := by rw [hsh]; rfl
          have hw1 : IntKind.i64.wrap (T * x) = T * x := IntWalk.i64_in _ (by omega)
          have hw2 : IntKind.i64.wrap (l - sh) = l - sh := IntWalk.i64_in _ (by omega)
          have HX := Lib.hid hx
          have HSH := Lib.hid hsh
          have hltI : (i : Int) < (k : Int) := by omega
          have hiI : (0 : Int) ≤ (i : Int) := by omega
          have HO := Lib.hid ho
          have HB := Lib.hid hb
          clear ho hb hx hsh hp hsr hxr hsm hbo
          go_wp2_with (refine wpList_pushI (o := ⟨some 66, _, _, _, _, _⟩) rfl (.tmp 56) (.tmp 65) 22 rfl 3 Try.underlying22 infoI w.heap.size _ _ _ _ (by rfl) HO.out sh (by rfl) (by omega) HB.out.size ?_; intro B' d' w' ho' hb'; obtain ⟨g, rfl, hg⟩ := ho'.blockless (by omega); have cg := ho'.get (j := i) (by omega); rw [getD_snoc (by rw [List.length_take, shares_length, HL.out]; omega)] at cg; have HO2 := Lib.hid ho'; have HB2 := Lib.hid hb'; clear ho' hb' hg; go_simp)
          refine ⟨⟨i + 1, l - sh, some ⟨g, 0, Option.none⟩, d', by omega, by go_num, rfl, by go_num, ?_, ?_, HB.out.trans HB2.out⟩, by simp [intOf]; omega⟩
          · show l - sh = _
            rw [sum_take_succ (by rw [shares_length]; exact hlen), shares_getD hlen, ← HX.out, ← HSH.out, HLv.out]
            omega
          · have := HO2.out
            rw [take_succ_getD (by rw [shares_length]; exact hlen), shares_getD hlen, ← HX.out, ← HSH.out]
            exact this
        · obtain rfl : i = k := by omega
          have HOn : Hid (OwnI wr 3 w.heap.size B i d (shares T acc ws)) := by
            have := ho
            rw [List.take_of_length_le (by rw [shares_length, HL.out]; exact Nat.le_refl _)] at this
            exact this
          have HON : Hid (Onto T acc ws (shares T acc ws) 0 l) := by
            have e := HLv.out
            rw [List.take_of_length_le (by rw [shares_length, HL.out]; exact Nat.le_refl _)] at e
            rw [e]
            exact Onto.start HLR.out.1 (by have := shares_sum_range hT.out hW1 ws HK.out.2.2.2; omega)
          have HB := Lib.hid hb
          clear ho hb HLv
          obtain ⟨g, rfl, _, _⟩ := HOn.out.blockless (by omega)
          go_wp2_with fail
          go_loopw [9, 11] (fun lv iv wz => ∃ (j : Nat) (r : Int) (cur : List Int), j ≤ i ∧ iv = .int .i64 j ∧ lv = .int .i64 r ∧ Onto T acc ws cur j r ∧ OwnI wz 3 w.heap.size (some ⟨g, 0, Option.none⟩) i d cur ∧ Below w.heap.size w wz) (fun _ iv _ => i - (intOf iv).toNat)
          case atStart => exact ⟨0, l, _, Nat.zero_le _, rfl, rfl, HON.out, HOn.out, HB.out⟩
          case round =>
            obtain ⟨j, r, cur, hj, rfl, rfl, hn, ho, hb⟩ := hrel
            by_cases hlt2 : j < i
            · have hlen : j < ws.length := by rw [HL.out]; exact hlt2
              obtain ⟨b, o, rfl, hbo, hc⟩ := (h.out.ext hb).cells (by omega)
              have c1 := hc j hlt2
              clear hc
              obtain ⟨x, hx⟩ : ∃ x : Int, x = ws.getD j 0 := ⟨_, rfl⟩
              rw [← hx] at c1
              have HX := Lib.hid hx
              have hltI : (j : Int) < (i : Int) := by omega
              have hjI : (0 : Int) ≤ (j : Int) := by omega
              have HO := Lib.hid ho
              have HB := Lib.hid hb
              have HN := Lib.hid hn
              have hr0 := HN.out.room
              have hr1 := HN.out.most
              clear ho hb hx hbo hn hlt
              by_cases hr : r = 0
              · obtain rfl := hr
                go_wp2
                go_ret2
                exact ⟨_, _, rfl, by rw [← HN.out.stop]; exact HO.out, HB.out⟩
              have hrz : 0 < r := by omega
              by_cases hx0 : 0 < x
              · have cg := HO.out.get hlt2
                have fr := HO.out.row.frozenAt j
                rw [HN.out.at hlen, ← HX.out] at cg
                have hxr := HK.out.2.2.2 x (by rw [HX.out, show ws.getD j 0 = ws[j] by simp [hlen]]; exact List.getElem_mem _)
                have hsr := share_le hT0 hW1 hxr.1 hxr.2.2
                obtain ⟨sh, hsh⟩ : ∃ s, s = share T acc x := ⟨_, rfl⟩
                rw [← hsh] at cg hsr
                have hs0 := hsr.1
                have hs1 := hsr.2
                have hw1 : IntKind.i64.wrap (sh + 1) = sh + 1 := IntWalk.i64_in _ (by omega)
                have hw2 : IntKind.i64.wrap (r - 1) = r - 1 := IntWalk.i64_in _ (by omega)
                have HSH := Lib.hid hsh
                have HR := Lib.hid hr
                clear hr hsh hsr hxr
                go_wp2
                refine ⟨⟨j + 1, r - 1, _, by omega, by go_num, rfl, HN.out.one hlen HR.out (by rw [← HX.out]; exact hx0), ?_⟩, by simp [intOf]; omega⟩
                have e : sh + 1 = cur.getD j 0 + 1 := by rw [HN.out.at hlen, ← HX.out, ← HSH.out]
                rw [e]
                exact HO.out.stored' HB.out (Nat.le_refl _) j _
              · have HR := Lib.hid hr
                clear hr
                go_wp2
                exact ⟨⟨j + 1, r, cur, by omega, by go_num, rfl, HN.out.skip hlen HR.out (by rw [← HX.out]; exact hx0), HO.out, HB.out⟩, by simp [intOf]; omega⟩
            · obtain rfl : j = i := by omega
              go_wp2
              go_ret2
              exact ⟨_, _, rfl, by rw [← hn.done (by rw [HL.out]; exact Nat.le_refl _)]; exact ho, hb⟩
#print axioms rsplit_ok
#print axioms rsplit_bad
end Go.Proofs.Ythdnfnilckjldaa
