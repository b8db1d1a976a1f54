/-
  octet: the document's Some: contract.
-/
import Derived.Test.YtgplamfjemmfnaaARRead
import Derived.Test.YtgplamfjemmfnaaApart0
namespace Go.Proofs.Ytgplamfjemmfnaa
open Go.RowKit

/-- where Some stands behind: the place, the bytes, the error -/
def rsomeF (bs : List UInt8) (a : Nat) (err : Int) (most : Int) : Nat × List UInt8 × Int :=
  if err ≠ 0 then (a, [], err) else if (dec (bs.drop a)).2.2 ≠ 0 then (a, [], (dec (bs.drop a)).2.2) else if (max most 0).toNat < (dec (bs.drop a)).1 then (a, [], 2)
  else if (bs.drop a).length - (dec (bs.drop a)).2.1 < (dec (bs.drop a)).1 then (a, [], 4) else (a + (dec (bs.drop a)).2.1 + (dec (bs.drop a)).1, ((bs.drop (a + (dec (bs.drop a)).2.1)).take (dec (bs.drop a)).1), 0)
theorem rsomeF_bytes (bs : List UInt8) (a : Nat) (err : Int) (most : Int) : rbytes (bs.drop a) err most = ((rsomeF bs a err most).2.1, bs.drop (rsomeF bs a err most).1, (rsomeF bs a err most).2.2) := by
  unfold rbytes rsomeF
  split
  · rfl
  · split
    · rfl
    · split
      · rfl
      · split
        · rfl
        · simp [List.drop_drop, Nat.add_assoc]
theorem rsomeF_le (bs : List UInt8) (a : Nat) (err : Int) (most : Int) (h : a ≤ bs.length) : (rsomeF bs a err most).1 ≤ bs.length := by
  have := dec_le (bs.drop a)
  unfold rsomeF
  split
  · exact h
  · split
    · exact h
    · split
      · exact h
      · split
        · exact h
        · rename_i h4
          rw [List.length_drop] at this h4
          show a + _ + _ ≤ _
          omega
theorem put3_g {w : World} {g : Nat} {y0 y1 y2 : Value} : w.grownBy (((w.setCell ⟨g, 0, none⟩ y0).setCell ⟨g, 1, none⟩ y1).setCell ⟨g, 2, none⟩ y2) (some g) := grownBy_trans (grownBy_trans (grownBy_set _) (grownBy_set _)) (grownBy_set _)
def RSomes (A : Option Addr) (n c : Nat) (p : Nat × List UInt8 × Int) (w : World) (e : Ending) (w' : World) : Prop := ∃ A2 n2 c2, e = .returned (.tuple #[.agg #[.slice A n c, .int .i64 p.1, .int .i64 p.2.2], .slice A2 n2 c2]) ∧ Rd w' A2 n2 c2 p.2.1 ∧ Below w.heap.size w w'

set_option maxRecDepth 100000 in
set_option maxHeartbeats 16000000 in
theorem rsome_c (w : World) (A : Option Addr) (n c : Nat) (bs : List UInt8) (h : Hid (Rd w A n c bs)) (a : Nat) (ha : a ≤ n) (err : Int) (most : Int) (m0 : -9223372036854775808 ≤ most) (m1 : most < 9223372036854775808) (hn : n ≤ 1000000000000) :
    Calls Try.prog 26 #[.agg #[.slice A n c, .int .i64 a, .int .i64 err], .int .i64 most] w (RSomes A n c (rsomeF bs a err most) w) := by
  have hle := h.out.le
  have hmax := h.out.max
  have HL := Lib.hid h.out.len
  obtain ⟨p, hp⟩ : ∃ p, p = rsomeF bs a err most := ⟨_, rfl⟩
  rw [← hp]
  have HP := Lib.hid hp
  clear hp
  have a0 : (0 : Int) ≤ (a : Int) := by omega
  by_cases he : err = 0
  · subst he
    obtain ⟨v, k, e, hd⟩ : ∃ v k e, dec (bs.drop a) = (v, k, e) := ⟨_, _, _, rfl⟩
    have HD := Lib.hid hd
    have hk : k ≤ n - a := by have h1 := dec_le (bs.drop a); rw [hd, List.length_drop] at h1; have h2 := HL.out; have h3 : k ≤ bs.length - a := h1; omega
    have hv : v < 18446744073709551616 := by have := dec_lt (bs.drop a); rw [hd] at this; exact this
    clear hd
    by_cases h1 : e = 0
    · subst h1
      obtain ⟨s, hs⟩ : ∃ s, s = a + k := ⟨_, rfl⟩
      have RF : Hid (rreadF bs a 0 18446744073709551615 = (s, v, 0)) := by show _ = _; unfold rreadF; rw [HD.out, if_neg (by simp), if_neg (by simp), if_neg (by omega), hs]
      have HS := Lib.hid hs
      have hsn : s ≤ n := by omega
      clear hs
      obtain ⟨M, hM⟩ : ∃ M, M = (max most 0).toNat := ⟨_, rfl⟩
      have HM := Lib.hid hM
      by_cases hneg : most < 0
      · have M0 : Hid (M = 0) := by show _ = _; omega
        clear hM
        by_cases h2 : M < v
        · have PP : Hid (p = (a, [], 2)) := by show _ = _; rw [HP.out]; unfold rsomeF; rw [HD.out, if_neg (by simp), if_neg (by simp), if_pos (by rw [← HM.out]; exact h2)]
          have q : (0 : Int) < (v : Int) := by have := M0.out; omega
          clear h2 HD
          go_enter Try.func26, Try.ntmps26
          go_upto_region 1 with fail
          generalize hW : World.alloc (World.alloc w (.cells #[.slice A n c, .int .i64 a, .int .i64 0] 39)) (.cells #[.slice none 0 0, .int .i64 0, .int .i64 0] 39) = W
          have D : Hid (W.heap[w.heap.size]? = some (.cells #[.slice A n c, .int .i64 a, .int .i64 0] 39 (0, 0))) := by rw [← hW]; exact keepB3 (ext_alloc _ _) (Go.heap_alloc_new w _)
          have Rr : Hid (W.heap[w.heap.size + 1]? = some (.cells #[.slice none 0 0, .int .i64 0, .int .i64 0] 39 (0, 0))) := by rw [← hW]; exact heap_alloc_newest (w := World.alloc _ _) (by simp)
          have B : Hid (Below w.heap.size w W) := by rw [← hW]; exact ext_trans (ext_alloc _ _) (ext_alloc _ _)
          clear hW
          obtain ⟨c0, c1, c2, f0, f1, f2⟩ := full3f D.out
          obtain ⟨d0, d1, d2, g0, g1, g2⟩ := full3f Rr.out
          go_wp2_with fail
          refine (rread_c W A n c bs (Lib.hid (h.out.ext B.out)) a ha 0 18446744073709551615 (by omega)).mono ?_
          rw [RF.out]
          rintro x w1 ⟨rfl, hb⟩
          dsimp only
          replace D := Lib.hid (keepB3 hb D.out)
          replace Rr := Lib.hid (keepB3 hb Rr.out)
          replace B := Lib.hid (ext_trans B.out hb)
          have sz : w.heap.size + 1 < w1.heap.size := (Array.getElem?_eq_some_iff.1 Rr.out).1
          clear hb c0 c1 c2 f0 f1 f2 d0 d1 d2 g0 g1 g2
          go_upto_region 4 with fail
          obtain ⟨g6, hg6⟩ : ∃ g, g = w1.heap.size := ⟨_, rfl⟩
          obtain ⟨U, hU⟩ : ∃ U, U = World.alloc w1 (.cells #[.slice A n c, .int .i64 s, .int .i64 0] 39) := ⟨_, rfl⟩
          have C6 : Hid (U.heap[g6]? = some (.cells #[.slice A n c, .int .i64 s, .int .i64 0] 39 (0, 0))) := by rw [hU, hg6]; exact Go.heap_alloc_new w1 _
          have BU : Hid (Below w1.heap.size w1 U) := by rw [hU]; exact ext_alloc _ _
          have g6w : w.heap.size + 1 < g6 := by omega
          rw [← hU, ← hg6]
          clear hU hg6 sz
          replace D := Lib.hid (keepB3 BU.out D.out)
          replace Rr := Lib.hid (keepB3 BU.out Rr.out)
          replace B := Lib.hid (ext_trans B.out BU.out)
          clear BU
          obtain ⟨c0, c1, c2, f0, f1, f2⟩ := full3f D.out
          obtain ⟨d0, d1, d2, g0, g1, g2⟩ := full3f Rr.out
          obtain ⟨k0, k1, k2, l0, l1, l2⟩ := full3f C6.out
          go_wp2_with fail
          refine (rfail_c U (.slice A n c) a 0 2 ⟨_, _, _, rfl⟩).mono ?_
          rintro x w2 ⟨rfl, hb⟩
          replace Rr := Lib.hid (keepB3 hb Rr.out)
          replace B := Lib.hid (ext_trans B.out hb)
          clear hb c0 c1 c2 f0 f1 f2 d0 d1 d2 g0 g1 g2 k0 k1 k2 l0 l1 l2
          obtain ⟨d0, d1, d2, g0, g1, g2⟩ := full3f Rr.out
          have BF := Lib.hid (bel3 B.out (show w.heap.size ≤ w.heap.size + 1 by omega) (.slice A n c) (.int .i64 a) (.int .i64 2))
          obtain ⟨h0, h1, h2, _, _, _⟩ := full3f (set3 Rr.out (.slice A n c) (.int .i64 a) (.int .i64 2))
          go_wp2_with fail
          refine bodyPost_ret (v := .tuple #[.agg #[.slice A n c, .int .i64 a, .int .i64 2], .slice none 0 0]) (by simp only [results, Try.results26]; simp [go_sem, h0, h1, h2]) rfl ⟨_, _, _, by rw [PP.out]; try rfl, by rw [PP.out]; exact Rd.nil _, BF.out⟩
        · have q : ¬ (0 : Int) < (v : Int) := by have := M0.out; omega
          obtain ⟨l, hl⟩ : ∃ l, l = n - s := ⟨_, rfl⟩
          have wl : (n : Int) - (s : Int) = (l : Int) := by omega
          have wl1 : IntKind.i64.wrap (l : Int) = (l : Int) := IntWalk.i64_in _ (by omega)
          have wl2 : IntKind.u64.wrap (l : Int) = (l : Int) := IntWalk.u64_in _ (by omega)
          have LL : Hid ((bs.drop a).length - k = l) := by show _ = _; rw [List.length_drop, HL.out, hl, HS.out]; omega
          have hls : l = n - s := hl
          clear hl
          by_cases h3 : l < v
          · have PP : Hid (p = (a, [], 4)) := by show _ = _; rw [HP.out]; unfold rsomeF; rw [HD.out, if_neg (by simp), if_neg (by simp), if_neg (by rw [← HM.out]; exact h2), if_pos (by rw [LL.out]; exact h3)]
            have q3 : (l : Int) < (v : Int) := by omega
            clear h2 h3 HD hls
            exfalso; have := M0.out; omega
          · have PP : Hid (p = (s + v, (bs.drop s).take v, 0)) := by show _ = _; rw [HP.out]; unfold rsomeF; rw [HD.out, if_neg (by simp), if_neg (by simp), if_neg (by rw [← HM.out]; exact h2), if_neg (by rw [LL.out]; exact h3)]; dsimp only; rw [← HS.out]
            have q3 : ¬ (l : Int) < (v : Int) := by omega
            have hvl : v ≤ n - s := by omega
            have wv : IntKind.i64.wrap (v : Int) = (v : Int) := IntWalk.i64_in _ (by omega)
            have wsv : IntKind.i64.wrap ((s : Int) + (v : Int)) = (s : Int) + (v : Int) := IntWalk.i64_in _ (by omega)
            have sI0 : (0 : Int) ≤ (s : Int) := by omega
            have svc : (s : Int) + (v : Int) ≤ (c : Int) := by omega
            have ssv : (s : Int) ≤ (s : Int) + (v : Int) := by omega
            have HLS := Lib.hid hls
            clear h2 h3 HD hls
            go_enter Try.func26, Try.ntmps26
            go_upto_region 1 with fail
            generalize hW : World.alloc (World.alloc w (.cells #[.slice A n c, .int .i64 a, .int .i64 0] 39)) (.cells #[.slice none 0 0, .int .i64 0, .int .i64 0] 39) = W
            have D : Hid (W.heap[w.heap.size]? = some (.cells #[.slice A n c, .int .i64 a, .int .i64 0] 39 (0, 0))) := by rw [← hW]; exact keepB3 (ext_alloc _ _) (Go.heap_alloc_new w _)
            have Rr : Hid (W.heap[w.heap.size + 1]? = some (.cells #[.slice none 0 0, .int .i64 0, .int .i64 0] 39 (0, 0))) := by rw [← hW]; exact heap_alloc_newest (w := World.alloc _ _) (by simp)
            have B : Hid (Below w.heap.size w W) := by rw [← hW]; exact ext_trans (ext_alloc _ _) (ext_alloc _ _)
            clear hW
            obtain ⟨c0, c1, c2, f0, f1, f2⟩ := full3f D.out
            obtain ⟨d0, d1, d2, g0, g1, g2⟩ := full3f Rr.out
            go_wp2_with fail
            refine (rread_c W A n c bs (Lib.hid (h.out.ext B.out)) a ha 0 18446744073709551615 (by omega)).mono ?_
            rw [RF.out]
            rintro x w1 ⟨rfl, hb⟩
            dsimp only
            replace D := Lib.hid (keepB3 hb D.out)
            replace Rr := Lib.hid (keepB3 hb Rr.out)
            replace B := Lib.hid (ext_trans B.out hb)
            have sz : w.heap.size + 1 < w1.heap.size := (Array.getElem?_eq_some_iff.1 Rr.out).1
            clear hb c0 c1 c2 f0 f1 f2 d0 d1 d2 g0 g1 g2
            go_upto_region 4 with fail
            obtain ⟨g6, hg6⟩ : ∃ g, g = w1.heap.size := ⟨_, rfl⟩
            obtain ⟨U, hU⟩ : ∃ U, U = World.alloc w1 (.cells #[.slice A n c, .int .i64 s, .int .i64 0] 39) := ⟨_, rfl⟩
            have C6 : Hid (U.heap[g6]? = some (.cells #[.slice A n c, .int .i64 s, .int .i64 0] 39 (0, 0))) := by rw [hU, hg6]; exact Go.heap_alloc_new w1 _
            have BU : Hid (Below w1.heap.size w1 U) := by rw [hU]; exact ext_alloc _ _
            have g6w : w.heap.size + 1 < g6 := by omega
            rw [← hU, ← hg6]
            clear hU hg6 sz
            replace D := Lib.hid (keepB3 BU.out D.out)
            replace Rr := Lib.hid (keepB3 BU.out Rr.out)
            replace B := Lib.hid (ext_trans B.out BU.out)
            clear BU
            obtain ⟨c0, c1, c2, f0, f1, f2⟩ := full3f D.out
            obtain ⟨d0, d1, d2, g0, g1, g2⟩ := full3f Rr.out
            obtain ⟨k0, k1, k2, l0, l1, l2⟩ := full3f C6.out
            clear c0 c1 c2 f0 f1 f2 D
            have hvn : v ≤ 1000000000000 := by omega
            by_cases hcs : c = s
            · have RS : Hid (Rd U A (s + v - s) 0 ((bs.drop s).take v)) := by
                rw [show s + v - s = v by omega]
                have r1 := (h.out.ext B.out).fromQ hsn
                rw [if_pos hcs] at r1
                have r2 := r1.front hvl
                rw [show c - s = 0 by omega] at r2
                exact r2
              have g6U : g6 < U.heap.size := (Array.getElem?_eq_some_iff.1 C6.out).1
              go_upto_region 12 with fail
              clear wl wl1 wl2
              go_upto_region 13 with (refine wpList_push_all (o := ⟨some 55, _, _, _, _, _⟩) rfl (.tmp 44) (.tmp 54) 22 22 rfl 5 Try.underlying22 infoU8 U.heap.size _ _ _ [] (by rfl) (Own.empty U _) _ (s + v - s) _ (by rfl) ((RS.out.ext (ext_alloc _ _)).src Try.underlying22) (by omega) (ext_alloc _ _).size ?_; intro A3 c3 w3 hown3 hb3; go_simp)
              have O : Hid (Own w3 5 U.heap.size A3 v c3 ((bs.drop s).take v)) := by have := hown3; rw [Nat.zero_add, List.nil_append, show s + v - s = v by omega] at this; exact this
              have BB : Hid (Below U.heap.size U w3) := Lib.hid ((ext_alloc _ _).trans hb3)
              clear hown3 hb3 k0 k1 k2 l0 l1 l2 d0 d1 d2 g0 g1 g2
              replace C6 := Lib.hid (keepB3 BB.out C6.out)
              replace Rr := Lib.hid (keepB3 BB.out Rr.out)
              replace B := Lib.hid (ext_trans B.out BB.out)
              clear BB
              obtain ⟨k0, k1, k2, l0, l1, l2⟩ := full3f C6.out
              go_upto_region 14 with fail
              clear k0 k1 k2 l0 l1 l2
              have D2 := Lib.hid (setC_same w3 g6 1 _ _ (.int .i64 ((s : Int) + (v : Int))) C6.out)
              replace Rr : Hid ((w3.setCell ⟨g6, 1, none⟩ (.int .i64 ((s : Int) + (v : Int)))).heap[w.heap.size + 1]? = some (.cells #[.slice none 0 0, .int .i64 0, .int .i64 0] 39 (0, 0))) := (Below.heap_setCell _ _ _ _ (show w.heap.size + 1 ≠ g6 by omega)).trans Rr.out
              replace B := Lib.hid (bel1 B.out (show w.heap.size ≤ g6 by omega) (.int .i64 ((s : Int) + (v : Int))) (j := 1))
              replace O : Hid (Own (w3.setCell ⟨g6, 1, none⟩ (.int .i64 ((s : Int) + (v : Int)))) 5 U.heap.size A3 v c3 ((bs.drop s).take v)) := O.out.kept (grownBy_set _) (fun g hg => by injection hg with hg; omega)
              clear C6
              generalize w3.setCell ⟨g6, 1, none⟩ (.int .i64 ((s : Int) + (v : Int))) = X at *
              obtain ⟨k0, k1, k2, l0, l1, l2⟩ := full3f (x0 := .slice A n c) (x1 := .int .i64 ((s : Int) + (v : Int))) (x2 := .int .i64 0) D2.out
              obtain ⟨d0, d1, d2, g0, g1, g2⟩ := full3f Rr.out
              have e9 := hcs.symm
              subst e9
              have BF := Lib.hid (bel3 B.out (show w.heap.size ≤ w.heap.size + 1 by omega) (.slice A n s) (.int .i64 ((s : Int) + (v : Int))) (.int .i64 0))
              obtain ⟨h0, h1, h2, _, _, _⟩ := full3f (set3 Rr.out (.slice A n s) (.int .i64 ((s : Int) + (v : Int))) (.int .i64 0))
              go_wp2_with fail
              refine bodyPost_ret (v := .tuple #[.agg #[.slice A n s, .int .i64 ((s : Int) + (v : Int)), .int .i64 0], .slice A3 v c3]) (by simp only [results, Try.results26]; simp [go_sem, h0, h1, h2]) rfl ⟨_, _, _, by rw [PP.out]; try rfl, by rw [PP.out]; exact (O.out.kept put3_g (fun g hg => by injection hg with hg; omega)).rd, BF.out⟩
            · have RS : Hid (Rd U (Option.map (fun x => x.add s) A) (s + v - s) (c - s) ((bs.drop s).take v)) := by
                rw [show s + v - s = v by omega]
                have r1 := (h.out.ext B.out).fromQ hsn
                rw [if_neg hcs] at r1
                exact r1.front hvl
              have g6U : g6 < U.heap.size := (Array.getElem?_eq_some_iff.1 C6.out).1
              go_upto_region 12 with fail
              clear wl wl1 wl2
              go_upto_region 13 with (refine wpList_push_all (o := ⟨some 55, _, _, _, _, _⟩) rfl (.tmp 44) (.tmp 54) 22 22 rfl 5 Try.underlying22 infoU8 U.heap.size _ _ _ [] (by rfl) (Own.empty U _) _ (s + v - s) _ (by rfl) ((RS.out.ext (ext_alloc _ _)).src Try.underlying22) (by omega) (ext_alloc _ _).size ?_; intro A3 c3 w3 hown3 hb3; go_simp)
              have O : Hid (Own w3 5 U.heap.size A3 v c3 ((bs.drop s).take v)) := by have := hown3; rw [Nat.zero_add, List.nil_append, show s + v - s = v by omega] at this; exact this
              have BB : Hid (Below U.heap.size U w3) := Lib.hid ((ext_alloc _ _).trans hb3)
              clear hown3 hb3 k0 k1 k2 l0 l1 l2 d0 d1 d2 g0 g1 g2
              replace C6 := Lib.hid (keepB3 BB.out C6.out)
              replace Rr := Lib.hid (keepB3 BB.out Rr.out)
              replace B := Lib.hid (ext_trans B.out BB.out)
              clear BB
              obtain ⟨k0, k1, k2, l0, l1, l2⟩ := full3f C6.out
              go_upto_region 14 with fail
              clear k0 k1 k2 l0 l1 l2
              have D2 := Lib.hid (setC_same w3 g6 1 _ _ (.int .i64 ((s : Int) + (v : Int))) C6.out)
              replace Rr : Hid ((w3.setCell ⟨g6, 1, none⟩ (.int .i64 ((s : Int) + (v : Int)))).heap[w.heap.size + 1]? = some (.cells #[.slice none 0 0, .int .i64 0, .int .i64 0] 39 (0, 0))) := (Below.heap_setCell _ _ _ _ (show w.heap.size + 1 ≠ g6 by omega)).trans Rr.out
              replace B := Lib.hid (bel1 B.out (show w.heap.size ≤ g6 by omega) (.int .i64 ((s : Int) + (v : Int))) (j := 1))
              replace O : Hid (Own (w3.setCell ⟨g6, 1, none⟩ (.int .i64 ((s : Int) + (v : Int)))) 5 U.heap.size A3 v c3 ((bs.drop s).take v)) := O.out.kept (grownBy_set _) (fun g hg => by injection hg with hg; omega)
              clear C6
              generalize w3.setCell ⟨g6, 1, none⟩ (.int .i64 ((s : Int) + (v : Int))) = X at *
              obtain ⟨k0, k1, k2, l0, l1, l2⟩ := full3f (x0 := .slice A n c) (x1 := .int .i64 ((s : Int) + (v : Int))) (x2 := .int .i64 0) D2.out
              obtain ⟨d0, d1, d2, g0, g1, g2⟩ := full3f Rr.out
              have BF := Lib.hid (bel3 B.out (show w.heap.size ≤ w.heap.size + 1 by omega) (.slice A n c) (.int .i64 ((s : Int) + (v : Int))) (.int .i64 0))
              obtain ⟨h0, h1, h2, _, _, _⟩ := full3f (set3 Rr.out (.slice A n c) (.int .i64 ((s : Int) + (v : Int))) (.int .i64 0))
              go_wp2_with fail
              refine bodyPost_ret (v := .tuple #[.agg #[.slice A n c, .int .i64 ((s : Int) + (v : Int)), .int .i64 0], .slice A3 v c3]) (by simp only [results, Try.results26]; simp [go_sem, h0, h1, h2]) rfl ⟨_, _, _, by rw [PP.out]; try rfl, by rw [PP.out]; exact (O.out.kept put3_g (fun g hg => by injection hg with hg; omega)).rd, BF.out⟩
      · have MI : Hid ((M : Int) = most) := by show _ = _; omega
        have wm : IntKind.u64.wrap most = most := IntWalk.u64_in _ (by omega)
        clear hM
        by_cases h2 : M < v
        · have PP : Hid (p = (a, [], 2)) := by show _ = _; rw [HP.out]; unfold rsomeF; rw [HD.out, if_neg (by simp), if_neg (by simp), if_pos (by rw [← HM.out]; exact h2)]
          have q : most < (v : Int) := by have := MI.out; omega
          clear h2 HD
          go_enter Try.func26, Try.ntmps26
          go_upto_region 1 with fail
          generalize hW : World.alloc (World.alloc w (.cells #[.slice A n c, .int .i64 a, .int .i64 0] 39)) (.cells #[.slice none 0 0, .int .i64 0, .int .i64 0] 39) = W
          have D : Hid (W.heap[w.heap.size]? = some (.cells #[.slice A n c, .int .i64 a, .int .i64 0] 39 (0, 0))) := by rw [← hW]; exact keepB3 (ext_alloc _ _) (Go.heap_alloc_new w _)
          have Rr : Hid (W.heap[w.heap.size + 1]? = some (.cells #[.slice none 0 0, .int .i64 0, .int .i64 0] 39 (0, 0))) := by rw [← hW]; exact heap_alloc_newest (w := World.alloc _ _) (by simp)
          have B : Hid (Below w.heap.size w W) := by rw [← hW]; exact ext_trans (ext_alloc _ _) (ext_alloc _ _)
          clear hW
          obtain ⟨c0, c1, c2, f0, f1, f2⟩ := full3f D.out
          obtain ⟨d0, d1, d2, g0, g1, g2⟩ := full3f Rr.out
          go_wp2_with fail
          refine (rread_c W A n c bs (Lib.hid (h.out.ext B.out)) a ha 0 18446744073709551615 (by omega)).mono ?_
          rw [RF.out]
          rintro x w1 ⟨rfl, hb⟩
          dsimp only
          replace D := Lib.hid (keepB3 hb D.out)
          replace Rr := Lib.hid (keepB3 hb Rr.out)
          replace B := Lib.hid (ext_trans B.out hb)
          have sz : w.heap.size + 1 < w1.heap.size := (Array.getElem?_eq_some_iff.1 Rr.out).1
          clear hb c0 c1 c2 f0 f1 f2 d0 d1 d2 g0 g1 g2
          go_upto_region 4 with fail
          obtain ⟨g6, hg6⟩ : ∃ g, g = w1.heap.size := ⟨_, rfl⟩
          obtain ⟨U, hU⟩ : ∃ U, U = World.alloc w1 (.cells #[.slice A n c, .int .i64 s, .int .i64 0] 39) := ⟨_, rfl⟩
          have C6 : Hid (U.heap[g6]? = some (.cells #[.slice A n c, .int .i64 s, .int .i64 0] 39 (0, 0))) := by rw [hU, hg6]; exact Go.heap_alloc_new w1 _
          have BU : Hid (Below w1.heap.size w1 U) := by rw [hU]; exact ext_alloc _ _
          have g6w : w.heap.size + 1 < g6 := by omega
          rw [← hU, ← hg6]
          clear hU hg6 sz
          replace D := Lib.hid (keepB3 BU.out D.out)
          replace Rr := Lib.hid (keepB3 BU.out Rr.out)
          replace B := Lib.hid (ext_trans B.out BU.out)
          clear BU
          obtain ⟨c0, c1, c2, f0, f1, f2⟩ := full3f D.out
          obtain ⟨d0, d1, d2, g0, g1, g2⟩ := full3f Rr.out
          obtain ⟨k0, k1, k2, l0, l1, l2⟩ := full3f C6.out
          go_wp2_with fail
          refine (rfail_c U (.slice A n c) a 0 2 ⟨_, _, _, rfl⟩).mono ?_
          rintro x w2 ⟨rfl, hb⟩
          replace Rr := Lib.hid (keepB3 hb Rr.out)
          replace B := Lib.hid (ext_trans B.out hb)
          clear hb c0 c1 c2 f0 f1 f2 d0 d1 d2 g0 g1 g2 k0 k1 k2 l0 l1 l2
          obtain ⟨d0, d1, d2, g0, g1, g2⟩ := full3f Rr.out
          have BF := Lib.hid (bel3 B.out (show w.heap.size ≤ w.heap.size + 1 by omega) (.slice A n c) (.int .i64 a) (.int .i64 2))
          obtain ⟨h0, h1, h2, _, _, _⟩ := full3f (set3 Rr.out (.slice A n c) (.int .i64 a) (.int .i64 2))
          go_wp2_with fail
          refine bodyPost_ret (v := .tuple #[.agg #[.slice A n c, .int .i64 a, .int .i64 2], .slice none 0 0]) (by simp only [results, Try.results26]; simp [go_sem, h0, h1, h2]) rfl ⟨_, _, _, by rw [PP.out]; try rfl, by rw [PP.out]; exact Rd.nil _, BF.out⟩
        · have q : ¬ most < (v : Int) := by have := MI.out; omega
          obtain ⟨l, hl⟩ : ∃ l, l = n - s := ⟨_, rfl⟩
          have wl : (n : Int) - (s : Int) = (l : Int) := by omega
          have wl1 : IntKind.i64.wrap (l : Int) = (l : Int) := IntWalk.i64_in _ (by omega)
          have wl2 : IntKind.u64.wrap (l : Int) = (l : Int) := IntWalk.u64_in _ (by omega)
          have LL : Hid ((bs.drop a).length - k = l) := by show _ = _; rw [List.length_drop, HL.out, hl, HS.out]; omega
          have hls : l = n - s := hl
          clear hl
          by_cases h3 : l < v
          · have PP : Hid (p = (a, [], 4)) := by show _ = _; rw [HP.out]; unfold rsomeF; rw [HD.out, if_neg (by simp), if_neg (by simp), if_neg (by rw [← HM.out]; exact h2), if_pos (by rw [LL.out]; exact h3)]
            have q3 : (l : Int) < (v : Int) := by omega
            clear h2 h3 HD hls
            go_enter Try.func26, Try.ntmps26
            go_upto_region 1 with fail
            generalize hW : World.alloc (World.alloc w (.cells #[.slice A n c, .int .i64 a, .int .i64 0] 39)) (.cells #[.slice none 0 0, .int .i64 0, .int .i64 0] 39) = W
            have D : Hid (W.heap[w.heap.size]? = some (.cells #[.slice A n c, .int .i64 a, .int .i64 0] 39 (0, 0))) := by rw [← hW]; exact keepB3 (ext_alloc _ _) (Go.heap_alloc_new w _)
            have Rr : Hid (W.heap[w.heap.size + 1]? = some (.cells #[.slice none 0 0, .int .i64 0, .int .i64 0] 39 (0, 0))) := by rw [← hW]; exact heap_alloc_newest (w := World.alloc _ _) (by simp)
            have B : Hid (Below w.heap.size w W) := by rw [← hW]; exact ext_trans (ext_alloc _ _) (ext_alloc _ _)
            clear hW
            obtain ⟨c0, c1, c2, f0, f1, f2⟩ := full3f D.out
            obtain ⟨d0, d1, d2, g0, g1, g2⟩ := full3f Rr.out
            go_wp2_with fail
            refine (rread_c W A n c bs (Lib.hid (h.out.ext B.out)) a ha 0 18446744073709551615 (by omega)).mono ?_
            rw [RF.out]
            rintro x w1 ⟨rfl, hb⟩
            dsimp only
            replace D := Lib.hid (keepB3 hb D.out)
            replace Rr := Lib.hid (keepB3 hb Rr.out)
            replace B := Lib.hid (ext_trans B.out hb)
            have sz : w.heap.size + 1 < w1.heap.size := (Array.getElem?_eq_some_iff.1 Rr.out).1
            clear hb c0 c1 c2 f0 f1 f2 d0 d1 d2 g0 g1 g2
            go_upto_region 4 with fail
            obtain ⟨g6, hg6⟩ : ∃ g, g = w1.heap.size := ⟨_, rfl⟩
            obtain ⟨U, hU⟩ : ∃ U, U = World.alloc w1 (.cells #[.slice A n c, .int .i64 s, .int .i64 0] 39) := ⟨_, rfl⟩
            have C6 : Hid (U.heap[g6]? = some (.cells #[.slice A n c, .int .i64 s, .int .i64 0] 39 (0, 0))) := by rw [hU, hg6]; exact Go.heap_alloc_new w1 _
            have BU : Hid (Below w1.heap.size w1 U) := by rw [hU]; exact ext_alloc _ _
            have g6w : w.heap.size + 1 < g6 := by omega
            rw [← hU, ← hg6]
            clear hU hg6 sz
            replace D := Lib.hid (keepB3 BU.out D.out)
            replace Rr := Lib.hid (keepB3 BU.out Rr.out)
            replace B := Lib.hid (ext_trans B.out BU.out)
            clear BU
            obtain ⟨c0, c1, c2, f0, f1, f2⟩ := full3f D.out
            obtain ⟨d0, d1, d2, g0, g1, g2⟩ := full3f Rr.out
            obtain ⟨k0, k1, k2, l0, l1, l2⟩ := full3f C6.out
            go_wp2_with fail
            refine (rfail_c U (.slice A n c) a 0 4 ⟨_, _, _, rfl⟩).mono ?_
            rintro x w2 ⟨rfl, hb⟩
            replace Rr := Lib.hid (keepB3 hb Rr.out)
            replace B := Lib.hid (ext_trans B.out hb)
            clear hb c0 c1 c2 f0 f1 f2 d0 d1 d2 g0 g1 g2 k0 k1 k2 l0 l1 l2
            obtain ⟨d0, d1, d2, g0, g1, g2⟩ := full3f Rr.out
            have BF := Lib.hid (bel3 B.out (show w.heap.size ≤ w.heap.size + 1 by omega) (.slice A n c) (.int .i64 a) (.int .i64 4))
            obtain ⟨h0, h1, h2, _, _, _⟩ := full3f (set3 Rr.out (.slice A n c) (.int .i64 a) (.int .i64 4))
            go_wp2_with fail
            refine bodyPost_ret (v := .tuple #[.agg #[.slice A n c, .int .i64 a, .int .i64 4], .slice none 0 0]) (by simp only [results, Try.results26]; simp [go_sem, h0, h1, h2]) rfl ⟨_, _, _, by rw [PP.out]; try rfl, by rw [PP.out]; exact Rd.nil _, BF.out⟩
          · have PP : Hid (p = (s + v, (bs.drop s).take v, 0)) := by show _ = _; rw [HP.out]; unfold rsomeF; rw [HD.out, if_neg (by simp), if_neg (by simp), if_neg (by rw [← HM.out]; exact h2), if_neg (by rw [LL.out]; exact h3)]; dsimp only; rw [← HS.out]
            have q3 : ¬ (l : Int) < (v : Int) := by omega
            have hvl : v ≤ n - s := by omega
            have wv : IntKind.i64.wrap (v : Int) = (v : Int) := IntWalk.i64_in _ (by omega)
            have wsv : IntKind.i64.wrap ((s : Int) + (v : Int)) = (s : Int) + (v : Int) := IntWalk.i64_in _ (by omega)
            have sI0 : (0 : Int) ≤ (s : Int) := by omega
            have svc : (s : Int) + (v : Int) ≤ (c : Int) := by omega
            have ssv : (s : Int) ≤ (s : Int) + (v : Int) := by omega
            have HLS := Lib.hid hls
            clear h2 h3 HD hls
            go_enter Try.func26, Try.ntmps26
            go_upto_region 1 with fail
            generalize hW : World.alloc (World.alloc w (.cells #[.slice A n c, .int .i64 a, .int .i64 0] 39)) (.cells #[.slice none 0 0, .int .i64 0, .int .i64 0] 39) = W
            have D : Hid (W.heap[w.heap.size]? = some (.cells #[.slice A n c, .int .i64 a, .int .i64 0] 39 (0, 0))) := by rw [← hW]; exact keepB3 (ext_alloc _ _) (Go.heap_alloc_new w _)
            have Rr : Hid (W.heap[w.heap.size + 1]? = some (.cells #[.slice none 0 0, .int .i64 0, .int .i64 0] 39 (0, 0))) := by rw [← hW]; exact heap_alloc_newest (w := World.alloc _ _) (by simp)
            have B : Hid (Below w.heap.size w W) := by rw [← hW]; exact ext_trans (ext_alloc _ _) (ext_alloc _ _)
            clear hW
            obtain ⟨c0, c1, c2, f0, f1, f2⟩ := full3f D.out
            obtain ⟨d0, d1, d2, g0, g1, g2⟩ := full3f Rr.out
            go_wp2_with fail
            refine (rread_c W A n c bs (Lib.hid (h.out.ext B.out)) a ha 0 18446744073709551615 (by omega)).mono ?_
            rw [RF.out]
            rintro x w1 ⟨rfl, hb⟩
            dsimp only
            replace D := Lib.hid (keepB3 hb D.out)
            replace Rr := Lib.hid (keepB3 hb Rr.out)
            replace B := Lib.hid (ext_trans B.out hb)
            have sz : w.heap.size + 1 < w1.heap.size := (Array.getElem?_eq_some_iff.1 Rr.out).1
            clear hb c0 c1 c2 f0 f1 f2 d0 d1 d2 g0 g1 g2
            go_upto_region 4 with fail
            obtain ⟨g6, hg6⟩ : ∃ g, g = w1.heap.size := ⟨_, rfl⟩
            obtain ⟨U, hU⟩ : ∃ U, U = World.alloc w1 (.cells #[.slice A n c, .int .i64 s, .int .i64 0] 39) := ⟨_, rfl⟩
            have C6 : Hid (U.heap[g6]? = some (.cells #[.slice A n c, .int .i64 s, .int .i64 0] 39 (0, 0))) := by rw [hU, hg6]; exact Go.heap_alloc_new w1 _
            have BU : Hid (Below w1.heap.size w1 U) := by rw [hU]; exact ext_alloc _ _
            have g6w : w.heap.size + 1 < g6 := by omega
            rw [← hU, ← hg6]
            clear hU hg6 sz
            replace D := Lib.hid (keepB3 BU.out D.out)
            replace Rr := Lib.hid (keepB3 BU.out Rr.out)
            replace B := Lib.hid (ext_trans B.out BU.out)
            clear BU
            obtain ⟨c0, c1, c2, f0, f1, f2⟩ := full3f D.out
            obtain ⟨d0, d1, d2, g0, g1, g2⟩ := full3f Rr.out
            obtain ⟨k0, k1, k2, l0, l1, l2⟩ := full3f C6.out
            clear c0 c1 c2 f0 f1 f2 D
            have hvn : v ≤ 1000000000000 := by omega
            by_cases hcs : c = s
            · have RS : Hid (Rd U A (s + v - s) 0 ((bs.drop s).take v)) := by
                rw [show s + v - s = v by omega]
                have r1 := (h.out.ext B.out).fromQ hsn
                rw [if_pos hcs] at r1
                have r2 := r1.front hvl
                rw [show c - s = 0 by omega] at r2
                exact r2
              have g6U : g6 < U.heap.size := (Array.getElem?_eq_some_iff.1 C6.out).1
              go_upto_region 12 with fail
              clear wl wl1 wl2 wm
              go_upto_region 13 with (refine wpList_push_all (o := ⟨some 55, _, _, _, _, _⟩) rfl (.tmp 44) (.tmp 54) 22 22 rfl 5 Try.underlying22 infoU8 U.heap.size _ _ _ [] (by rfl) (Own.empty U _) _ (s + v - s) _ (by rfl) ((RS.out.ext (ext_alloc _ _)).src Try.underlying22) (by omega) (ext_alloc _ _).size ?_; intro A3 c3 w3 hown3 hb3; go_simp)
              have O : Hid (Own w3 5 U.heap.size A3 v c3 ((bs.drop s).take v)) := by have := hown3; rw [Nat.zero_add, List.nil_append, show s + v - s = v by omega] at this; exact this
              have BB : Hid (Below U.heap.size U w3) := Lib.hid ((ext_alloc _ _).trans hb3)
              clear hown3 hb3 k0 k1 k2 l0 l1 l2 d0 d1 d2 g0 g1 g2
              replace C6 := Lib.hid (keepB3 BB.out C6.out)
              replace Rr := Lib.hid (keepB3 BB.out Rr.out)
              replace B := Lib.hid (ext_trans B.out BB.out)
              clear BB
              obtain ⟨k0, k1, k2, l0, l1, l2⟩ := full3f C6.out
              go_upto_region 14 with fail
              clear k0 k1 k2 l0 l1 l2
              have D2 := Lib.hid (setC_same w3 g6 1 _ _ (.int .i64 ((s : Int) + (v : Int))) C6.out)
              replace Rr : Hid ((w3.setCell ⟨g6, 1, none⟩ (.int .i64 ((s : Int) + (v : Int)))).heap[w.heap.size + 1]? = some (.cells #[.slice none 0 0, .int .i64 0, .int .i64 0] 39 (0, 0))) := (Below.heap_setCell _ _ _ _ (show w.heap.size + 1 ≠ g6 by omega)).trans Rr.out
              replace B := Lib.hid (bel1 B.out (show w.heap.size ≤ g6 by omega) (.int .i64 ((s : Int) + (v : Int))) (j := 1))
              replace O : Hid (Own (w3.setCell ⟨g6, 1, none⟩ (.int .i64 ((s : Int) + (v : Int)))) 5 U.heap.size A3 v c3 ((bs.drop s).take v)) := O.out.kept (grownBy_set _) (fun g hg => by injection hg with hg; omega)
              clear C6
              generalize w3.setCell ⟨g6, 1, none⟩ (.int .i64 ((s : Int) + (v : Int))) = X at *
              obtain ⟨k0, k1, k2, l0, l1, l2⟩ := full3f (x0 := .slice A n c) (x1 := .int .i64 ((s : Int) + (v : Int))) (x2 := .int .i64 0) D2.out
              obtain ⟨d0, d1, d2, g0, g1, g2⟩ := full3f Rr.out
              have e9 := hcs.symm
              subst e9
              have BF := Lib.hid (bel3 B.out (show w.heap.size ≤ w.heap.size + 1 by omega) (.slice A n s) (.int .i64 ((s : Int) + (v : Int))) (.int .i64 0))
              obtain ⟨h0, h1, h2, _, _, _⟩ := full3f (set3 Rr.out (.slice A n s) (.int .i64 ((s : Int) + (v : Int))) (.int .i64 0))
              go_wp2_with fail
              refine bodyPost_ret (v := .tuple #[.agg #[.slice A n s, .int .i64 ((s : Int) + (v : Int)), .int .i64 0], .slice A3 v c3]) (by simp only [results, Try.results26]; simp [go_sem, h0, h1, h2]) rfl ⟨_, _, _, by rw [PP.out]; try rfl, by rw [PP.out]; exact (O.out.kept put3_g (fun g hg => by injection hg with hg; omega)).rd, BF.out⟩
            · have RS : Hid (Rd U (Option.map (fun x => x.add s) A) (s + v - s) (c - s) ((bs.drop s).take v)) := by
                rw [show s + v - s = v by omega]
                have r1 := (h.out.ext B.out).fromQ hsn
                rw [if_neg hcs] at r1
                exact r1.front hvl
              have g6U : g6 < U.heap.size := (Array.getElem?_eq_some_iff.1 C6.out).1
              go_upto_region 12 with fail
              clear wl wl1 wl2 wm
              go_upto_region 13 with (refine wpList_push_all (o := ⟨some 55, _, _, _, _, _⟩) rfl (.tmp 44) (.tmp 54) 22 22 rfl 5 Try.underlying22 infoU8 U.heap.size _ _ _ [] (by rfl) (Own.empty U _) _ (s + v - s) _ (by rfl) ((RS.out.ext (ext_alloc _ _)).src Try.underlying22) (by omega) (ext_alloc _ _).size ?_; intro A3 c3 w3 hown3 hb3; go_simp)
              have O : Hid (Own w3 5 U.heap.size A3 v c3 ((bs.drop s).take v)) := by have := hown3; rw [Nat.zero_add, List.nil_append, show s + v - s = v by omega] at this; exact this
              have BB : Hid (Below U.heap.size U w3) := Lib.hid ((ext_alloc _ _).trans hb3)
              clear hown3 hb3 k0 k1 k2 l0 l1 l2 d0 d1 d2 g0 g1 g2
              replace C6 := Lib.hid (keepB3 BB.out C6.out)
              replace Rr := Lib.hid (keepB3 BB.out Rr.out)
              replace B := Lib.hid (ext_trans B.out BB.out)
              clear BB
              obtain ⟨k0, k1, k2, l0, l1, l2⟩ := full3f C6.out
              go_upto_region 14 with fail
              clear k0 k1 k2 l0 l1 l2
              have D2 := Lib.hid (setC_same w3 g6 1 _ _ (.int .i64 ((s : Int) + (v : Int))) C6.out)
              replace Rr : Hid ((w3.setCell ⟨g6, 1, none⟩ (.int .i64 ((s : Int) + (v : Int)))).heap[w.heap.size + 1]? = some (.cells #[.slice none 0 0, .int .i64 0, .int .i64 0] 39 (0, 0))) := (Below.heap_setCell _ _ _ _ (show w.heap.size + 1 ≠ g6 by omega)).trans Rr.out
              replace B := Lib.hid (bel1 B.out (show w.heap.size ≤ g6 by omega) (.int .i64 ((s : Int) + (v : Int))) (j := 1))
              replace O : Hid (Own (w3.setCell ⟨g6, 1, none⟩ (.int .i64 ((s : Int) + (v : Int)))) 5 U.heap.size A3 v c3 ((bs.drop s).take v)) := O.out.kept (grownBy_set _) (fun g hg => by injection hg with hg; omega)
              clear C6
              generalize w3.setCell ⟨g6, 1, none⟩ (.int .i64 ((s : Int) + (v : Int))) = X at *
              obtain ⟨k0, k1, k2, l0, l1, l2⟩ := full3f (x0 := .slice A n c) (x1 := .int .i64 ((s : Int) + (v : Int))) (x2 := .int .i64 0) D2.out
              obtain ⟨d0, d1, d2, g0, g1, g2⟩ := full3f Rr.out
              have BF := Lib.hid (bel3 B.out (show w.heap.size ≤ w.heap.size + 1 by omega) (.slice A n c) (.int .i64 ((s : Int) + (v : Int))) (.int .i64 0))
              obtain ⟨h0, h1, h2, _, _, _⟩ := full3f (set3 Rr.out (.slice A n c) (.int .i64 ((s : Int) + (v : Int))) (.int .i64 0))
              go_wp2_with fail
              refine bodyPost_ret (v := .tuple #[.agg #[.slice A n c, .int .i64 ((s : Int) + (v : Int)), .int .i64 0], .slice A3 v c3]) (by simp only [results, Try.results26]; simp [go_sem, h0, h1, h2]) rfl ⟨_, _, _, by rw [PP.out]; try rfl, by rw [PP.out]; exact (O.out.kept put3_g (fun g hg => by injection hg with hg; omega)).rd, BF.out⟩
    · have PP : Hid (p = (a, [], e)) := by show _ = _; rw [HP.out]; unfold rsomeF; rw [HD.out, if_neg (by simp), if_pos h1]
      have RF : Hid (rreadF bs a 0 18446744073709551615 = (a, 0, e)) := by show _ = _; unfold rreadF; rw [HD.out, if_neg (by simp), if_pos h1]
      have q : (e == 0) = false := by rw [beq_eq_false_iff_ne]; exact h1
      have q2 : (e != 0) = true := by rw [bne_iff_ne]; exact h1
      clear h1 HD
      go_enter Try.func26, Try.ntmps26
      go_upto_region 1 with fail
      generalize hW : World.alloc (World.alloc w (.cells #[.slice A n c, .int .i64 a, .int .i64 0] 39)) (.cells #[.slice none 0 0, .int .i64 0, .int .i64 0] 39) = W
      have D : Hid (W.heap[w.heap.size]? = some (.cells #[.slice A n c, .int .i64 a, .int .i64 0] 39 (0, 0))) := by rw [← hW]; exact keepB3 (ext_alloc _ _) (Go.heap_alloc_new w _)
      have Rr : Hid (W.heap[w.heap.size + 1]? = some (.cells #[.slice none 0 0, .int .i64 0, .int .i64 0] 39 (0, 0))) := by rw [← hW]; exact heap_alloc_newest (w := World.alloc _ _) (by simp)
      have B : Hid (Below w.heap.size w W) := by rw [← hW]; exact ext_trans (ext_alloc _ _) (ext_alloc _ _)
      clear hW
      obtain ⟨c0, c1, c2, f0, f1, f2⟩ := full3f D.out
      obtain ⟨d0, d1, d2, g0, g1, g2⟩ := full3f Rr.out
      go_wp2_with fail
      refine (rread_c W A n c bs (Lib.hid (h.out.ext B.out)) a ha 0 18446744073709551615 (by omega)).mono ?_
      rw [RF.out]
      rintro x w1 ⟨rfl, hb⟩
      dsimp only
      replace D := Lib.hid (keepB3 hb D.out)
      replace Rr := Lib.hid (keepB3 hb Rr.out)
      replace B := Lib.hid (ext_trans B.out hb)
      have sz : w.heap.size + 1 < w1.heap.size := (Array.getElem?_eq_some_iff.1 Rr.out).1
      clear hb c0 c1 c2 f0 f1 f2 d0 d1 d2 g0 g1 g2
      go_upto_region 4 with fail
      obtain ⟨g6, hg6⟩ : ∃ g, g = w1.heap.size := ⟨_, rfl⟩
      obtain ⟨U, hU⟩ : ∃ U, U = World.alloc w1 (.cells #[.slice A n c, .int .i64 a, .int .i64 e] 39) := ⟨_, rfl⟩
      have C6 : Hid (U.heap[g6]? = some (.cells #[.slice A n c, .int .i64 a, .int .i64 e] 39 (0, 0))) := by rw [hU, hg6]; exact Go.heap_alloc_new w1 _
      have BU : Hid (Below w1.heap.size w1 U) := by rw [hU]; exact ext_alloc _ _
      have g6w : w.heap.size + 1 < g6 := by omega
      rw [← hU, ← hg6]
      clear hU hg6 sz
      replace D := Lib.hid (keepB3 BU.out D.out)
      replace Rr := Lib.hid (keepB3 BU.out Rr.out)
      replace B := Lib.hid (ext_trans B.out BU.out)
      clear BU
      obtain ⟨c0, c1, c2, f0, f1, f2⟩ := full3f D.out
      obtain ⟨d0, d1, d2, g0, g1, g2⟩ := full3f Rr.out
      obtain ⟨k0, k1, k2, l0, l1, l2⟩ := full3f C6.out
      go_wp2_with fail
      refine (rfail_c U (.slice A n c) a 0 e ⟨_, _, _, rfl⟩).mono ?_
      rintro x w2 ⟨rfl, hb⟩
      replace Rr := Lib.hid (keepB3 hb Rr.out)
      replace B := Lib.hid (ext_trans B.out hb)
      clear hb c0 c1 c2 f0 f1 f2 d0 d1 d2 g0 g1 g2 k0 k1 k2 l0 l1 l2
      obtain ⟨d0, d1, d2, g0, g1, g2⟩ := full3f Rr.out
      have BF := Lib.hid (bel3 B.out (show w.heap.size ≤ w.heap.size + 1 by omega) (.slice A n c) (.int .i64 a) (.int .i64 e))
      obtain ⟨h0, h1, h2, _, _, _⟩ := full3f (set3 Rr.out (.slice A n c) (.int .i64 a) (.int .i64 e))
      go_wp2_with fail
      refine bodyPost_ret (v := .tuple #[.agg #[.slice A n c, .int .i64 a, .int .i64 e], .slice none 0 0]) (by simp only [results, Try.results26]; simp [go_sem, h0, h1, h2]) rfl ⟨_, _, _, by rw [PP.out]; try rfl, by rw [PP.out]; exact Rd.nil _, BF.out⟩
  · have PP : Hid (p = (a, [], err)) := by show _ = _; rw [HP.out]; unfold rsomeF; rw [if_pos he]
    have q : (err != 0) = true := by rw [bne_iff_ne]; exact he
    clear he
    go_enter Try.func26, Try.ntmps26
    go_upto_region 1 with fail
    generalize hW : World.alloc (World.alloc w (.cells #[.slice A n c, .int .i64 a, .int .i64 err] 39)) (.cells #[.slice none 0 0, .int .i64 0, .int .i64 0] 39) = W
    have D : Hid (W.heap[w.heap.size]? = some (.cells #[.slice A n c, .int .i64 a, .int .i64 err] 39 (0, 0))) := by rw [← hW]; exact keepB3 (ext_alloc _ _) (Go.heap_alloc_new w _)
    have Rr : Hid (W.heap[w.heap.size + 1]? = some (.cells #[.slice none 0 0, .int .i64 0, .int .i64 0] 39 (0, 0))) := by rw [← hW]; exact heap_alloc_newest (w := World.alloc _ _) (by simp)
    have B : Hid (Below w.heap.size w W) := by rw [← hW]; exact ext_trans (ext_alloc _ _) (ext_alloc _ _)
    clear hW
    obtain ⟨c0, c1, c2, f0, f1, f2⟩ := full3f D.out
    obtain ⟨d0, d1, d2, g0, g1, g2⟩ := full3f Rr.out
    have BF := Lib.hid (bel3 B.out (show w.heap.size ≤ w.heap.size + 1 by omega) (.slice A n c) (.int .i64 a) (.int .i64 err))
    obtain ⟨h0, h1, h2, _, _, _⟩ := full3f (set3 Rr.out (.slice A n c) (.int .i64 a) (.int .i64 err))
    go_wp2_with fail
    refine bodyPost_ret (v := .tuple #[.agg #[.slice A n c, .int .i64 a, .int .i64 err], .slice none 0 0]) (by simp only [results, Try.results26]; simp [go_sem, h0, h1, h2]) rfl ⟨_, _, _, by rw [PP.out]; try rfl, by rw [PP.out]; exact Rd.nil _, BF.out⟩
#print axioms rsome_c
end Go.Proofs.Ytgplamfjemmfnaa
