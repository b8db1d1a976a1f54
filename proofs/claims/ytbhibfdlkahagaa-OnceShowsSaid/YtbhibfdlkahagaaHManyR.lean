/-
  hash: the document's Many: the contract.
-/
import Derived.Test.YtbhibfdlkahagaaHMany
import Derived.Test.YtbhibfdlkahagaaSchedF
namespace Go.Proofs.Ytbhibfdlkahagaa
open Go.RowKit

theorem set4 {w : World} {b : Nat} {T : TypeId} {x0 x1 x2 x3 : Value} (h : w.heap[b]? = some (.cells #[x0, x1, x2, x3] T (0, 0))) (y0 y1 y2 y3 : Value) :
    ((World.setCell (World.setCell (World.setCell (World.setCell w ⟨b, 0, none⟩ y0) ⟨b, 1, none⟩ y1) ⟨b, 2, none⟩ y2) ⟨b, 3, none⟩ y3)).heap[b]? = some (.cells #[y0, y1, y2, y3] T (0, 0)) := by
  have h0 : ((World.setCell w ⟨b, 0, none⟩ y0)).heap[b]? = some (.cells #[y0, x1, x2, x3] T (0, 0)) := heap_set_same (j := 0) y0 h
  have h1 : ((World.setCell (World.setCell w ⟨b, 0, none⟩ y0) ⟨b, 1, none⟩ y1)).heap[b]? = some (.cells #[y0, y1, x2, x3] T (0, 0)) := heap_set_same (j := 1) y1 h0
  have h2 : ((World.setCell (World.setCell (World.setCell w ⟨b, 0, none⟩ y0) ⟨b, 1, none⟩ y1) ⟨b, 2, none⟩ y2)).heap[b]? = some (.cells #[y0, y1, y2, x3] T (0, 0)) := heap_set_same (j := 2) y2 h1
  have h3 : ((World.setCell (World.setCell (World.setCell (World.setCell w ⟨b, 0, none⟩ y0) ⟨b, 1, none⟩ y1) ⟨b, 2, none⟩ y2) ⟨b, 3, none⟩ y3)).heap[b]? = some (.cells #[y0, y1, y2, y3] T (0, 0)) := heap_set_same (j := 3) y3 h2
  exact h3
theorem oth4 {w : World} {b c : Nat} {o : Option Obj} (hne : c ≠ b) (hc : w.heap[c]? = o) (y0 y1 y2 y3 : Value) : ((World.setCell (World.setCell (World.setCell (World.setCell w ⟨b, 0, none⟩ y0) ⟨b, 1, none⟩ y1) ⟨b, 2, none⟩ y2) ⟨b, 3, none⟩ y3)).heap[c]? = o := (heap_set_other _ hne (heap_set_other _ hne (heap_set_other _ hne (heap_set_other _ hne hc))))

set_option maxRecDepth 100000 in
set_option maxHeartbeats 1000000 in
theorem rmany_c (w : World) (A : Option Addr) (n c : Nat) (xs : List Nat) (h : Hid (RdD w A n c xs)) : Calls Try.prog 63 #[.slice A n c] w (Hands (digV (manyN xs)) w) := by
  have hle := h.out.le
  have hmax := h.out.max
  have HL := Lib.hid h.out.len
  have HSm := Lib.hid h.out.small
  have OKB := Lib.hid (begin_ok (k := 5) (by omega))
  obtain ⟨x, hx⟩ : ∃ x, x = manyN xs := ⟨_, rfl⟩
  rw [← hx]
  have HX := Lib.hid hx
  clear hx
  go_enter Try.func63, Try.ntmps63
  go_wp2_with fail
  refine (begin_c _ 5 5 rfl).mono ?_
  unfold stV
  rintro e w1 ⟨rfl, hb⟩
  have R := Lib.hid (keepB (b := w.heap.size) hb (heap_alloc_newest (w := w) rfl))
  have B := Lib.hid (ext_trans (ext_alloc _ _) hb)
  have z1 : w.heap.size < w1.heap.size := by have := hb.size; simp at this; omega
  clear hb
  go_wp2_with fail
  replace R := Lib.hid (keepA (x := .cells #[.int .u64 (begin 5).a, .int .u64 (begin 5).b, .int .u64 (begin 5).c, .int .u64 (begin 5).d] 74) R.out)
  replace B := Lib.hid (ext_trans B.out (ext_alloc w1 (.cells #[.int .u64 (begin 5).a, .int .u64 (begin 5).b, .int .u64 (begin 5).c, .int .u64 (begin 5).d] 74)))
  go_loopw [4] (fun iv wr => ∃ (k : Nat) (z : St), k ≤ n ∧ iv = .int .i64 k ∧ Hid (manyS z (xs.drop k) = manyS (begin 5) xs) ∧ Hid (z.Ok) ∧ Hid (wr.heap[w1.heap.size]? = some (.cells #[.int .u64 z.a, .int .u64 z.b, .int .u64 z.c, .int .u64 z.d] 74 (0, 0))) ∧ Hid (wr.heap[w.heap.size]? = some (.cells #[.int .u8 0, .int .u8 0, .int .u8 0, .int .u8 0, .int .u8 0, .int .u8 0, .int .u8 0, .int .u8 0] 30 (0, 0))) ∧ Hid (Below w.heap.size w wr)) (fun iv _ => n - (intOf iv).toNat)
  case atStart => exact ⟨0, begin 5, Nat.zero_le _, rfl, rfl, OKB.out, Go.heap_alloc_new w1 _, R.out, B.out⟩
  case round =>
    clear R B
    obtain ⟨k, z, hk, rfl, HM, OK, S, R, B⟩ := hrel
    have y1 : w1.heap.size < wr.heap.size := (Array.getElem?_eq_some_iff.1 S.out).1
    by_cases hlt : k < n
    · have hlen : k < xs.length := by rw [HL.out]; exact hlt
      have RD := Lib.hid (h.out.ext B.out)
      obtain ⟨b, o, rfl, _, _⟩ := RD.out.at hlt
      obtain ⟨y, hy⟩ : ∃ y, y = xs.getD k 0 := ⟨_, rfl⟩
      have HY := Lib.hid hy
      have ly : y < 18446744073709551616 := by rw [hy]; exact getD_lt HSm.out hlen
      have HM2 : Hid (manyS (takeN z y) (xs.drop (k + 1)) = manyS (begin 5) xs) := by rw [hy]; exact manyS_on HM.out hlen
      have hltI : (k : Int) < (n : Int) := by omega
      have hkI : (0 : Int) ≤ (k : Int) := by omega
      clear hy
      go_wp2_with fail
      refine wp_region_schedF (fin := 7) (fun v => Below wr.heap.size wr v) [(true, 0), (true, 1), (true, 2), (true, 3), (true, 4), (false, 5), (false, 6), (false, 7)] (by kernel_rfl) rfl (by kernel_rfl) (by kernel_rfl) (by kernel_rfl) (fun _ _ d _ _ h => by cases d <;> exact h) (ext_drew wr) ?_
      intro J0 hJ0
      refine schedF_pure (v := stV z) rfl (by rfl) (fun v hC => ?_) ?_
      · obtain ⟨d0, d1, d2, d3, _, _, _, _⟩ := full4 (keepB hC S.out)
        unfold stV
        go_simp
      try go_simp
      iterate 3 (refine schedF_pure (v := ?_) rfl (by rfl) ?_ ?_; rotate_left; (focus (intro v hC; go_simp; try with_reducible rfl)); try go_simp)
      refine schedF_pure (v := digV y) rfl (by rfl) (fun v hC => ?_) ?_
      · obtain ⟨b', o', hbo, _, c0, c1, c2, c3, c4, c5, c6, c7⟩ := (RD.out.ext hC).at hlt
        injection hbo with hbo
        injection hbo with e1 e2
        subst e1 e2
        rw [← HY.out] at c0 c1 c2 c3 c4 c5 c6 c7
        unfold digV
        go_simp
      try go_simp
      refine schedF_eff rfl ?_
      intro J hJ
      go_wp2_with fail
      refine (rnum_c _ y ly).mono ?_
      rintro e w2 ⟨rfl, hb⟩
      have B2 : Hid (Below wr.heap.size wr w2) := Lib.hid (ext_trans (ext_drew wr) hb)
      clear hb
      go_wp2_with fail
      refine ⟨fun _ => B2.out, ?_⟩
      refine schedF_eff rfl ?_
      intro J hJ
      go_wp2_with fail
      refine (rin_c _ z y ly OK).mono ?_
      obtain ⟨z2, hz2⟩ : ∃ s, s = takeN z y := ⟨_, rfl⟩
      have OK2 : Hid z2.Ok := by rw [hz2]; exact takeN_ok OK.out ly
      rw [← hz2] at HM2 ⊢
      clear hz2
      unfold stV
      rintro e w3 ⟨rfl, hb⟩
      replace B2 : Hid (Below wr.heap.size wr w3) := Lib.hid (ext_trans B2.out hb)
      replace S := Lib.hid (keepB B2.out S.out)
      replace R := Lib.hid (keepB B2.out R.out)
      replace B := Lib.hid (ext_trans B.out B2.out)
      obtain ⟨d0, d1, d2, d3, f0, f1, f2, f3⟩ := full4 S.out
      clear hb
      go_wp2_with fail
      refine ⟨fun _ => B2.out, ?_⟩
      refine schedF_eff rfl ?_
      intro J hJ
      go_wp2_with fail
      refine ⟨fun h => absurd rfl h, ?_⟩
      refine schedF_nil (hJ0 _ _ ?_)
      go_wp2_with fail
      exact ⟨⟨k + 1, z2, by omega, by go_num, HM2, OK2, set4 S.out _ _ _ _, oth4 (by omega) R.out _ _ _ _, bel4 B.out (Nat.le_refl _) (by omega) _ _ _ _⟩, by simp [intOf]; omega⟩
    · obtain rfl : k = n := by omega
      have HZ : Hid (z = manyS (begin 5) xs) := manyS_end (by rw [HL.out]; exact HM.out)
      have hI : ¬ (k : Int) < (k : Int) := by omega
      have hl : k < 18446744073709551616 := by omega
      have OK2 := Lib.hid (takeN_ok OK.out hl)
      have HX2 : Hid (outN (takeN z k) = x) := by rw [HX.out, HZ.out]; show _ = manyN xs; unfold manyN; rw [HL.out]
      obtain ⟨d0, d1, d2, d3, _, _, _, _⟩ := full4 S.out
      go_wp2_with fail
      refine (rin_c _ z k hl OK).mono ?_
      rintro e w3 ⟨rfl, hb⟩
      replace R := Lib.hid (keepB hb R.out)
      replace B := Lib.hid (ext_trans B.out hb)
      clear hb
      go_wp2_with fail
      refine (out_c _ _ OK2).mono ?_
      rw [HX2.out]
      unfold digV
      rintro e w4 ⟨rfl, hb⟩
      replace R := Lib.hid (keepB hb R.out)
      replace B := Lib.hid (ext_trans B.out hb)
      obtain ⟨c0, c1, c2, c3, c4, c5, c6, c7, f0, f1, f2, f3, f4, f5, f6, f7⟩ := full8 R.out
      clear hb
      go_wp2_with fail
      obtain ⟨g0, g1, g2, g3, g4, g5, g6, g7⟩ := put8 R.out (.int .u8 (byt x 0)) (.int .u8 (byt x 1)) (.int .u8 (byt x 2)) (.int .u8 (byt x 3)) (.int .u8 (byt x 4)) (.int .u8 (byt x 5)) (.int .u8 (byt x 6)) (.int .u8 (byt x 7))
      refine bodyPost_ret (v := digV x) (by unfold digV; simp only [results, Try.results63]; simp [go_sem, g0, g1, g2, g3, g4, g5, g6, g7]) rfl ⟨by unfold digV; rfl, bel8 B.out (Nat.le_refl _) (by omega) _ _ _ _ _ _ _ _⟩
#print axioms rmany_c
end Go.Proofs.Ytbhibfdlkahagaa
