/-
  coin: Split, where it is none: the contract.
-/
import Derived.Test.YthdnfnilckjldaaCPure
namespace Go.Proofs.Ythdnfnilckjldaa
open Go.RowKit

/-- the call hands back a row of its own of these numbers -/
def Gives (E : TypeId) (w : World) (n : Nat) (xs : List Int) (e : Ending) (w' : World) : Prop :=
  ∃ A c, e = .returned (.tuple #[.slice A n c, .int .i64 0]) ∧ OwnI w' E w.heap.size A n c xs ∧ Below w.heap.size w w'

theorem OwnI.stored' {w : World} {E : TypeId} {B g n c : Nat} {bs : List Int} (h : OwnI w E B (some ⟨g, 0, none⟩) n c bs) {base : Nat} {w0 : World} (k : Below base w0 w) (hB : base ≤ B) (j : Nat) (x : Int) :
    OwnI (w.setCell ⟨g, j, none⟩ (.int .i64 x)) E B (some ⟨g, 0, none⟩) n c (bs.set j x) ∧ Below base w0 (w.setCell ⟨g, j, none⟩ (.int .i64 x)) := by
  obtain ⟨h1, h2⟩ := h.set j x
  exact ⟨h1, k.grown h2 (Nat.le_trans (Nat.le_trans hB (h.row_ge g rfl).1) (Nat.le_of_lt (h.row_ge g rfl).2)) (fun i hi => by
    injection hi with hi
    rw [← hi]
    exact Nat.le_trans hB (h.row_ge g rfl).1)⟩

theorem shares_sum_range {T W : Int} (hT : Amt T) (hW : 1 ≤ W) : ∀ (xs : List Int), (∀ x ∈ xs, 0 ≤ x ∧ x ≤ 1024 ∧ x ≤ W) → 0 ≤ (shares T W xs).sum ∧ (shares T W xs).sum ≤ T * xs.length
  | [], _ => by simp [shares]
  | x :: xs, h => by
    have h1 := shares_sum_range hT hW xs (fun y hy => h y (List.mem_cons_of_mem _ hy))
    have h2 := h x (List.mem_cons_self ..)
    have h3 := share_le hT.1 hW h2.1 h2.2.2
    simp only [shares, List.map_cons, List.sum_cons, List.length_cons, Int.natCast_add, Int.mul_add] at *
    omega
theorem take_sum_range {T W : Int} (hT : Amt T) (hW : 1 ≤ W) {xs : List Int} (h : ∀ x ∈ xs, 0 ≤ x ∧ x ≤ 1024 ∧ x ≤ W) (hl : xs.length ≤ 8) (k : Nat) :
    0 ≤ ((shares T W xs).take k).sum ∧ ((shares T W xs).take k).sum ≤ 9007199254740992 := by
  have h1 := shares_sum_range hT hW (xs.take k) (fun x hx => h x (List.mem_of_mem_take hx))
  have e : (shares T W xs).take k = shares T W (xs.take k) := by simp [shares, List.map_take]
  rw [e]
  obtain ⟨t0, t1⟩ := hT
  have hle : ((xs.take k).length : Int) ≤ 8 := by simp; omega
  have : T * ((xs.take k).length : Int) ≤ 1125899906842624 * 8 := Int.mul_le_mul t1 hle (by omega) (by omega)
  omega

theorem fill2 {T W : Int} {ws : List Int} {n k : Nat} (hl : ws.length = n) (hk : k < n) : ((shares T W ws).take k ++ List.replicate (n - k) 0).set k (share T W (ws.getD k 0)) = (shares T W ws).take (k + 1) ++ List.replicate (n - (k + 1)) 0 := by
  have h1 : (shares T W ws).length = n := by rw [shares_length, hl]
  have := fill_step (l := shares T W ws) (k := k) (by rw [h1]; exact hk)
  rw [h1, shares_getD (by rw [hl]; exact hk)] at this
  exact this

set_option maxRecDepth 100000 in
set_option maxHeartbeats 1000000 in
theorem split_ok (w : World) (T : Int) (A : Option Addr) (n c : Nat) (ws : List Int) (h : Hid (RdI w A n c ws)) (hT : Hid (Amt T)) (W : Int) (hw : Hid (weigh ws = (W, 0))) :
    Calls Try.prog 20 #[.int .i64 T, .slice A n c] w (Gives 3 w n (parts T W ws)) := by
  have HK := Lib.hid (weigh_ok hw.out)
  have HL := Lib.hid h.out.len
  have hle := h.out.le
  have hmax := h.out.max
  have hn8 : n ≤ 8 := by have := HK.out.2.1; have := HL.out; omega
  have hn1 : 1 ≤ n := by have := HK.out.1; have := HL.out; omega
  have hT0 : 0 ≤ T := hT.out.1
  have hT1 : T ≤ 1125899906842624 := hT.out.2
  have hW1 : 1 ≤ W := HK.out.2.2.1
  have hWz : (W == 0) = false := by rw [beq_eq_false_iff_ne]; omega
  have HSM := Lib.hid (take_sum_range hT.out hW1 HK.out.2.2.2 HK.out.2.1)
  have HLR := Lib.hid (left_range (T := T) hW1 (fun x hx => (HK.out.2.2.2 x hx).1) (weigh_sum hw.out))
  obtain ⟨i0, hi, hz0, hz1, hz2⟩ := info_parts (show (Try.prog.info? 3).map (fun i => (i.zero, i.size, i.bytes)) = some (some (.int .i64 0), 1, 8) by kernel_rfl)
  have HI := Lib.hid hi
  have HZ0 := Lib.hid hz0
  have HZ1 := Lib.hid hz1
  have HZ2 := Lib.hid hz2
  clear hi hz0 hz1 hz2
  go_enter Try.func20, Try.ntmps20
  go_wp2_with fail
  go_step3
  go_wp2_with fail
  refine (right_t _ _ hT.out).mono ?_
  rintro e v ⟨rfl, rfl⟩
  go_wp2_with fail
  refine (weigh_c _ _ _ _ _ h.out).mono ?_
  rw [hw.out]
  rintro e v ⟨rfl, rfl⟩
  go_wp2_with (refine wpList_make_any (o := ⟨some 27, _, _, _, _, _⟩) _ rfl (.tmp 26) (.tmp 26) 22 rfl w.heap.size 3 i0 (.int .i64 0) Try.underlying22 HI.out HZ0.out HZ1.out rfl 8 HZ2.out .i64 .i64 n n n n (by rfl) (by rfl) rfl rfl (Nat.le_refl _) (by omega) (by omega) (Nat.le_refl _) ?_; intro w1 hrow hgr; go_simp)
  have hO : Hid (OwnI w1 3 w.heap.size (some ⟨w.heap.size, 0, none⟩) n n ((shares T W ws).take 0 ++ List.replicate (n - 0) 0)) := ⟨by simp, by omega, by simpa [I64] using hrow⟩
  have hB := Lib.hid (below_grown (Below.refl w.heap.size w) (Nat.le_refl _) hgr (fun k hk => by cases hk))
  clear hrow hgr
  go_loopw [9, 31] (fun lv iv wr => ∃ (k : Nat) (l : Int), k ≤ n ∧ iv = .int .i64 k ∧ lv = .int .i64 l ∧ Hid (l = T - ((shares T W ws).take k).sum) ∧ OwnI wr 3 w.heap.size (some ⟨w.heap.size, 0, none⟩) n n ((shares T W ws).take k ++ List.replicate (n - k) 0) ∧ Below w.heap.size w wr) (fun _ iv _ => n - (intOf iv).toNat)
  case atStart => exact ⟨0, T, Nat.zero_le _, rfl, rfl, by show T = _; simp, hO.out, hB.out⟩
  case round =>
    obtain ⟨k, l, hk, rfl, rfl, HLv, ho, hb⟩ := hrel
    by_cases hlt : k < n
    · have hlen : k < ws.length := by rw [HL.out]; exact hlt
      obtain ⟨b, o, rfl, hbo, hc⟩ := (h.out.ext hb).cells (by omega)
      have c1 := hc k hlt
      clear hc
      obtain ⟨x, hx⟩ : ∃ x : Int, x = ws.getD k 0 := ⟨_, rfl⟩
      rw [← hx] at c1
      have hxr := HK.out.2.2.2 x (by rw [hx, show ws.getD k 0 = ws[k] by simp [hlen]]; exact List.getElem_mem _)
      have hp := share_prod hT.out hxr.1 hxr.2.1
      have hsr := share_le hT0 hW1 hxr.1 hxr.2.2
      have hp0 := hp.1
      have hp1 := hp.2
      have hs0 := hsr.1
      have hs1 := hsr.2
      have hsm := HSM.out k
      have hl0 : -9007199254740992 ≤ l := by have := HLv.out; omega
      have hl1 : l ≤ 1125899906842624 := by have := HLv.out; omega
      obtain ⟨sh, hsh⟩ : ∃ s, s = share T W x := ⟨_, rfl⟩
      rw [← hsh] at hs0 hs1
      have hdv : T * x / W = sh := by rw [hsh]; rfl
      have hw1 : IntKind.i64.wrap (T * x) = T * x := IntWalk.i64_in _ (by omega)
      have hw2 : IntKind.i64.wrap (l - sh) = l - sh := IntWalk.i64_in _ (by omega)
      have HX := Lib.hid hx
      have HSH := Lib.hid hsh
      have cg := ho.get hlt
      have fr := ho.row.frozenAt k
      obtain ⟨y, hy⟩ : ∃ y, y = ((shares T W ws).take k ++ List.replicate (n - k) 0).getD k 0 := ⟨_, rfl⟩
      rw [← hy] at cg
      have hltI : (k : Int) < (n : Int) := by omega
      have hkI : (0 : Int) ≤ (k : Int) := by omega
      have HO := Lib.hid ho
      have HB := Lib.hid hb
      clear ho hb hx hsh hy hp hsr hxr hsm hbo
      go_wp2
      refine ⟨⟨k + 1, l - sh, by omega, by go_num, rfl, ?_, ?_⟩, by simp [intOf]; omega⟩
      · show l - sh = _
        rw [sum_take_succ (by rw [shares_length]; exact hlen), shares_getD hlen, ← HX.out, ← HSH.out, HLv.out]
        omega
      · have := HO.out.stored' HB.out (Nat.le_refl _) k sh
        rw [HSH.out, HX.out, fill2 HL.out hlt, ← HX.out, ← HSH.out] at this
        exact this
    · obtain rfl : k = n := by omega
      have HOn : Hid (OwnI wr 3 w.heap.size (some ⟨w.heap.size, 0, none⟩) k k (shares T W ws)) := by
        have := ho
        rw [List.take_of_length_le (by rw [shares_length, HL.out]; exact Nat.le_refl _), Nat.sub_self, List.replicate_zero, List.append_nil] at this
        exact this
      have HON : Hid (Onto T W ws (shares T W ws) 0 l) := by
        have e := HLv.out
        rw [List.take_of_length_le (by rw [shares_length, HL.out]; exact Nat.le_refl _)] at e
        rw [e]
        exact Onto.start HLR.out.1 (by have := shares_sum_range hT.out hW1 ws HK.out.2.2.2; omega)
      have HB := Lib.hid hb
      clear ho hb HLv
      go_wp2_with fail
      go_step3
      go_wp2_with fail
      go_loopw [9, 53] (fun lv iv wz => ∃ (j : Nat) (r : Int) (cur : List Int), j ≤ k ∧ iv = .int .i64 j ∧ lv = .int .i64 r ∧ Onto T W ws cur j r ∧ OwnI wz 3 w.heap.size (some ⟨w.heap.size, 0, none⟩) k k cur ∧ Below w.heap.size w wz) (fun _ iv _ => k - (intOf iv).toNat)
      case atStart => exact ⟨0, l, _, Nat.zero_le _, rfl, rfl, HON.out, HOn.out, HB.out⟩
      case round =>
        obtain ⟨j, r, cur, hj, rfl, rfl, hn, ho, hb⟩ := hrel
        by_cases hlt2 : j < k
        · have hlen : j < ws.length := by rw [HL.out]; exact hlt2
          obtain ⟨b, o, rfl, hbo, hc⟩ := (h.out.ext hb).cells (by omega)
          have c1 := hc j hlt2
          clear hc
          obtain ⟨x, hx⟩ : ∃ x : Int, x = ws.getD j 0 := ⟨_, rfl⟩
          rw [← hx] at c1
          have HX := Lib.hid hx
          have hltI : (j : Int) < (k : Int) := by omega
          have hjI : (0 : Int) ≤ (j : Int) := by omega
          have HO := Lib.hid ho
          have HB := Lib.hid hb
          have HN := Lib.hid hn
          clear ho hb hx hbo hn hlt
          by_cases hr : r = 0
          · obtain rfl := hr
            go_wp2
            go_ret2
            exact ⟨_, _, rfl, by rw [← HN.out.stop]; exact HO.out, HB.out⟩
          have hrz : (r == 0) = false := by rw [beq_eq_false_iff_ne]; exact hr
          by_cases hx0 : 0 < x
          · have cg := HO.out.get hlt2
            have fr := HO.out.row.frozenAt j
            rw [HN.out.at hlen, ← HX.out] at cg
            have hxr := HK.out.2.2.2 x (by rw [HX.out, show ws.getD j 0 = ws[j] by simp [hlen]]; exact List.getElem_mem _)
            have hsr := share_le hT0 hW1 hxr.1 hxr.2.2
            obtain ⟨sh, hsh⟩ : ∃ s, s = share T W x := ⟨_, rfl⟩
            rw [← hsh] at cg hsr
            have hs0 := hsr.1
            have hs1 := hsr.2
            have hr0 := HN.out.room
            have hr1 := HN.out.most
            have hw1 : IntKind.i64.wrap (sh + 1) = sh + 1 := IntWalk.i64_in _ (by omega)
            have hw2 : IntKind.i64.wrap (r - 1) = r - 1 := IntWalk.i64_in _ (by omega)
            have HSH := Lib.hid hsh
            have HR := Lib.hid hr
            clear hr hsh hsr hxr
            go_wp2
            refine ⟨⟨j + 1, r - 1, _, by omega, by go_num, rfl, HN.out.one hlen HR.out (by rw [← HX.out]; exact hx0), ?_⟩, by simp [intOf]; omega⟩
            have e : sh + 1 = cur.getD j 0 + 1 := by rw [HN.out.at hlen, ← HX.out, ← HSH.out]
            rw [e]
            exact HO.out.stored' HB.out (Nat.le_refl _) j _
          · have HR := Lib.hid hr
            clear hr
            go_wp2
            exact ⟨⟨j + 1, r, cur, by omega, by go_num, rfl, HN.out.skip hlen HR.out (by rw [← HX.out]; exact hx0), HO.out, HB.out⟩, by simp [intOf]; omega⟩
        · obtain rfl : j = k := by omega
          go_wp2
          go_ret2
          exact ⟨_, _, rfl, by rw [← hn.done (by rw [HL.out]; exact Nat.le_refl _)]; exact ho, hb⟩
#print axioms split_ok
end Go.Proofs.Ythdnfnilckjldaa
