/-
  TreeOthers: the walk.
-/
import Derived.Test.YtbejjmmopdcjoaaDoorTUni
namespace Go.Proofs.YtbejjmmopdcjoaaDoor
open Go.ChangeShapes Go.WideShapes Go.ChangeAt Go.RowKit Go.Deep

theorem OwnD.keepFrom {w w' : World} {E : TypeId} {B : Nat} {A : Option Addr} {n c : Nat} {xs : List Nat} (h : OwnD w E B A n c xs) (hk : ∀ k, B ≤ k → k < w.heap.size → w'.heap[k]? = w.heap[k]?) : OwnD w' E B A n c xs := by
  refine ⟨h.len, ⟨h.row.1, h.row.2.imp id (fun ⟨g, cap, cur, e1, e2, e3, e4⟩ => ⟨g, cap, cur, e1, e2, (hk g e2 (Array.getElem?_eq_some_iff.1 e3).1).trans e3, e4⟩)⟩, h.small⟩
theorem OwnD.put {w : World} {E : TypeId} {B b n c : Nat} {xs : List Nat} (h : OwnD w E B (some ⟨b, 0, none⟩) n c xs) {j x : Nat} (hj : j < n) (hx : x < 18446744073709551616) : OwnD (World.setCell (World.setCell (World.setCell (World.setCell (World.setCell (World.setCell (World.setCell (World.setCell w ⟨b, j * 8, none⟩ (.int .u8 (byt x 0))) ⟨b, j * 8 + 1, none⟩ (.int .u8 (byt x 1))) ⟨b, j * 8 + 2, none⟩ (.int .u8 (byt x 2))) ⟨b, j * 8 + 3, none⟩ (.int .u8 (byt x 3))) ⟨b, j * 8 + 4, none⟩ (.int .u8 (byt x 4))) ⟨b, j * 8 + 5, none⟩ (.int .u8 (byt x 5))) ⟨b, j * 8 + 6, none⟩ (.int .u8 (byt x 6))) ⟨b, j * 8 + 7, none⟩ (.int .u8 (byt x 7))) E B (some ⟨b, 0, none⟩) n c (xs.set j x) := by
  obtain ⟨k1, k2, k3⟩ := h.rowK
  refine (k1.put (f' := fun l => (xs.set j x).getD l 0) (k' := n) (j := j) (x := x) (by omega) ?_ (fun l hl hne => ⟨hl, ?_⟩)).own k3 k2 _ (by rw [List.length_set]; exact h.len) (fun _ _ => rfl) (fun z hz => ?_)
  · show (xs.set j x).getD j 0 = x
    simp [List.getD, show j < xs.length by rw [h.len]; exact hj]
  · show (xs.set j x).getD l 0 = xs.getD l 0
    simp [List.getD, Ne.symm hne]
  · rcases List.mem_or_eq_of_mem_set hz with q | q
    · exact h.small z q
    · rw [q]; exact hx
theorem put_other (w : World) (b c j x : Nat) (hc : c ≠ b) : (World.setCell (World.setCell (World.setCell (World.setCell (World.setCell (World.setCell (World.setCell (World.setCell w ⟨b, j * 8, none⟩ (.int .u8 (byt x 0))) ⟨b, j * 8 + 1, none⟩ (.int .u8 (byt x 1))) ⟨b, j * 8 + 2, none⟩ (.int .u8 (byt x 2))) ⟨b, j * 8 + 3, none⟩ (.int .u8 (byt x 3))) ⟨b, j * 8 + 4, none⟩ (.int .u8 (byt x 4))) ⟨b, j * 8 + 5, none⟩ (.int .u8 (byt x 5))) ⟨b, j * 8 + 6, none⟩ (.int .u8 (byt x 6))) ⟨b, j * 8 + 7, none⟩ (.int .u8 (byt x 7))).heap[c]? = w.heap[c]? := heap_set_other _ hc (heap_set_other _ hc (heap_set_other _ hc (heap_set_other _ hc (heap_set_other _ hc (heap_set_other _ hc (heap_set_other _ hc (heap_set_other _ hc rfl)))))))

set_option maxRecDepth 100000 in
set_option maxHeartbeats 4000000 in
theorem walkTreeOthers (w : World) (A : Option Addr) (n c : Nat) (f : Nat → Nat) (i : Int) (x : Nat) (h : RdX w A n c (fun j => .int .u16 (f j))) (hf : ∀ j, j < n → f j < 65536) (_ : -9223372036854775808 ≤ i) (_ : i < 9223372036854775808) (hx : x < 18446744073709551616) : Calls Tryd.prog 8 #[.slice A n c, .int .i64 i, digV x] w (Holds w) := by
  obtain ⟨m, hm⟩ : ∃ m, m = min n 70 := ⟨_, rfl⟩
  have m70 : m ≤ 70 := by omega
  obtain ⟨l, hl⟩ : ∃ l, l = leavesN f m := ⟨_, rfl⟩
  have SC := Lib.hid (fun v hv => some_c v A n c f 70 (Lib.hid (h.ext hv)) hf (by omega))
  rw [← hm, ← hl] at SC
  clear hm hl h hf
  unfold digV
  go_enter Tryd.func8, Tryd.ntmps8
  go_wp2_with fail
  refine (SC.out _ (ext_alloc _ _)).mono ?_
  have DX : Hid ((World.alloc w (.cells #[.int .u8 (byt x 0), .int .u8 (byt x 1), .int .u8 (byt x 2), .int .u8 (byt x 3), .int .u8 (byt x 4), .int .u8 (byt x 5), .int .u8 (byt x 6), .int .u8 (byt x 7)] 26)).heap[w.heap.size]? = some (.cells #[.int .u8 (byt x 0), .int .u8 (byt x 1), .int .u8 (byt x 2), .int .u8 (byt x 3), .int .u8 (byt x 4), .int .u8 (byt x 5), .int .u8 (byt x 6), .int .u8 (byt x 7)] 26 (0, 0))) := Go.heap_alloc_new w _
  have B : Hid (Below w.heap.size w (World.alloc w (.cells #[.int .u8 (byt x 0), .int .u8 (byt x 1), .int .u8 (byt x 2), .int .u8 (byt x 3), .int .u8 (byt x 4), .int .u8 (byt x 5), .int .u8 (byt x 6), .int .u8 (byt x 7)] 26))) := ext_alloc _ _
  generalize World.alloc w (.cells #[.int .u8 (byt x 0), .int .u8 (byt x 1), .int .u8 (byt x 2), .int .u8 (byt x 3), .int .u8 (byt x 4), .int .u8 (byt x 5), .int .u8 (byt x 6), .int .u8 (byt x 7)] 26) = W at *
  rintro e w1 ⟨A1, c1, rfl, hO, hb⟩
  have O := Lib.hid hO
  have HLl := Lib.hid hO.len
  have WL : w.heap.size < W.heap.size := (Array.getElem?_eq_some_iff.1 DX.out).1
  replace DX := Lib.hid (keepB hb DX.out)
  replace B := Lib.hid (ext_trans B.out hb)
  clear hO hb SC
  by_cases hm0 : m = 0
  · subst hm0
    go_wp2_with fail
    refine (told_c _).mono ?_
    rintro e w7 ⟨rfl, hb⟩
    replace B := Lib.hid (ext_trans B.out hb)
    clear hb
    go_wp2_with fail
    go_ret
    exact ⟨rfl, B.out⟩
  · have gm : ¬ (m : Int) = 0 := by omega
    obtain ⟨a, ha⟩ : ∃ a : Nat, IntKind.u64.wrap i = (a : Int) := ⟨(IntKind.u64.wrap i).toNat, by have := wrap_u64_nonneg i; omega⟩
    obtain ⟨r, hr⟩ : ∃ r, r = a % m := ⟨_, rfl⟩
    have lr : r < m := by rw [hr]; exact Nat.mod_lt _ (by omega)
    have v2 : IntKind.u64.wrap (m : Int) = (m : Int) := by simp [IntKind.wrap, IntKind.bits, IntKind.signed]; omega
    have v3 : (a : Int) % (m : Int) = (r : Int) := by rw [hr]; exact (Int.natCast_emod _ _).symm
    have v4 : (a : Int).tmod (m : Int) = (r : Int) := by rw [Int.tmod_eq_emod_of_nonneg (by omega)]; exact v3
    have v5 : IntKind.i64.wrap (r : Int) = (r : Int) := by rw [IntKind.wrap_i64]; omega
    have v6 : ¬ (m : Int) = 0 := by omega
    clear hr
    obtain ⟨b, rfl, hbW, hb1, hmc⟩ := O.out.block (by omega)
    have HSm : Hid (Small l) := O.out.small
    obtain ⟨H, hH⟩ : ∃ H, H = hgt m := ⟨_, rfl⟩
    have HHg := Lib.hid hH
    have H12 : H ≤ 12 := by rw [hH]; exact hgt_le (by omega)
    have HGE : Hid (m ≤ 2 ^ H) := by show _ ≤ _; rw [hH]; exact hgt_ge m
    obtain ⟨p, hp⟩ : ∃ p, p = pathN l r H := ⟨_, rfl⟩
    have HP := Lib.hid hp
    have HPL : Hid (p.length = H) := by show _ = _; rw [hp]; exact pathN_len _ _ _
    obtain ⟨l', hl'⟩ : ∃ l', l' = l.set r x := ⟨_, rfl⟩
    have HL2 := Lib.hid hl'
    have HP2 : Hid (pathN l' r H = p) := by show _ = _; rw [hl', path_set, hp]
    obtain ⟨y, hy⟩ : ∃ y, y = treeN l' H := ⟨_, rfl⟩
    have HY := Lib.hid hy
    have HLl' : Hid (l'.length = m) := by show _ = _; rw [hl', List.length_set]; exact HLl.out
    have HSm' : Hid (Small l') := fun z hz => by
      rw [hl'] at hz
      rcases List.mem_or_eq_of_mem_set hz with q | q
      · exact HSm.out z q
      · rw [q]; exact hx
    have ly : y < 18446744073709551616 := by rw [hy]; exact treeN_lt HSm'.out _
    have HW : Hid ((comes (r : Int) x p).1 = y) := by
      show _ = _
      have hr2 : r < 2 ^ H := Nat.lt_of_lt_of_le lr HGE.out
      rw [comes_at (H := H) HPL.out H12 hr2]
      have q := with_path (l := l') (i := r) (H := H) (by rw [HLl'.out]; exact lr) (by rw [HLl'.out]; exact HGE.out)
      rw [HP2.out] at q
      have q2 : l'.getD r 0 = x := by rw [hl']; simp [List.getD, show r < l.length by rw [HLl.out]; exact lr]
      rw [q2] at q
      rw [q, hy]
    have E1 := eql_d ly ly
    rw [decide_eq_true rfl] at E1
    have G1 := guard_d .eql y y
    unfold digV at E1 G1
    clear hp hl' hy hH
    go_wp2_with fail
    refine (path_ok _ b 0 m c1 l r (Lib.hid O.out.rd) (by omega) (by omega) lr).mono ?_
    rw [← HHg.out, ← HP.out]
    unfold Paths
    rw [HPL.out]
    rintro e w2 ⟨A2, c2, rfl, hO2, hb2⟩
    have P2 := Lib.hid hO2
    replace O := Lib.hid (O.out.ext hb2)
    replace DX := Lib.hid (keepB hb2 DX.out)
    replace B := Lib.hid (ext_trans B.out hb2)
    clear hO2 hb2
    obtain ⟨B1, hB1⟩ : ∃ B1, B1 = w1.heap.size := ⟨_, rfl⟩
    rw [← hB1] at P2
    have bB1 : b < B1 := by omega
    clear hB1
    obtain ⟨y0, y1, y2, y3, y4, y5, y6, y7, p0, p1, p2, p3, p4, p5, p6, p7, q0, q1, q2, q3, q4, q5, q6, q7⟩ := O.out.rowK.1.place (j := r) (by omega)
    obtain ⟨a0, a1, a2, a3, a4, a5, a6, a7, _, _, _, _, _, _, _, _⟩ := full8 DX.out
    have rI : (r : Int) < (m : Int) := by omega
    have rI0 : (0 : Int) ≤ (r : Int) := by omega
    go_upto_region 7 with fail
    have bw : w.heap.size ≠ b := by omega
    replace DX : Hid ((World.setCell (World.setCell (World.setCell (World.setCell (World.setCell (World.setCell (World.setCell (World.setCell w2 ⟨b, r * 8, none⟩ (.int .u8 (byt x 0))) ⟨b, r * 8 + 1, none⟩ (.int .u8 (byt x 1))) ⟨b, r * 8 + 2, none⟩ (.int .u8 (byt x 2))) ⟨b, r * 8 + 3, none⟩ (.int .u8 (byt x 3))) ⟨b, r * 8 + 4, none⟩ (.int .u8 (byt x 4))) ⟨b, r * 8 + 5, none⟩ (.int .u8 (byt x 5))) ⟨b, r * 8 + 6, none⟩ (.int .u8 (byt x 6))) ⟨b, r * 8 + 7, none⟩ (.int .u8 (byt x 7))).heap[w.heap.size]? = some (.cells #[.int .u8 (byt x 0), .int .u8 (byt x 1), .int .u8 (byt x 2), .int .u8 (byt x 3), .int .u8 (byt x 4), .int .u8 (byt x 5), .int .u8 (byt x 6), .int .u8 (byt x 7)] 26 (0, 0))) := (put_other w2 b _ r x bw).trans DX.out
    replace P2 : Hid (OwnD (World.setCell (World.setCell (World.setCell (World.setCell (World.setCell (World.setCell (World.setCell (World.setCell w2 ⟨b, r * 8, none⟩ (.int .u8 (byt x 0))) ⟨b, r * 8 + 1, none⟩ (.int .u8 (byt x 1))) ⟨b, r * 8 + 2, none⟩ (.int .u8 (byt x 2))) ⟨b, r * 8 + 3, none⟩ (.int .u8 (byt x 3))) ⟨b, r * 8 + 4, none⟩ (.int .u8 (byt x 4))) ⟨b, r * 8 + 5, none⟩ (.int .u8 (byt x 5))) ⟨b, r * 8 + 6, none⟩ (.int .u8 (byt x 6))) ⟨b, r * 8 + 7, none⟩ (.int .u8 (byt x 7))) 26 B1 A2 H c2 p) := P2.out.keepFrom (fun k hk _ => put_other w2 b k r x (by omega))
    replace B : Hid (Below w.heap.size w (World.setCell (World.setCell (World.setCell (World.setCell (World.setCell (World.setCell (World.setCell (World.setCell w2 ⟨b, r * 8, none⟩ (.int .u8 (byt x 0))) ⟨b, r * 8 + 1, none⟩ (.int .u8 (byt x 1))) ⟨b, r * 8 + 2, none⟩ (.int .u8 (byt x 2))) ⟨b, r * 8 + 3, none⟩ (.int .u8 (byt x 3))) ⟨b, r * 8 + 4, none⟩ (.int .u8 (byt x 4))) ⟨b, r * 8 + 5, none⟩ (.int .u8 (byt x 5))) ⟨b, r * 8 + 6, none⟩ (.int .u8 (byt x 6))) ⟨b, r * 8 + 7, none⟩ (.int .u8 (byt x 7)))) := below_row B.out (Nat.le_refl _) (by omega)
    replace O : Hid (OwnD (World.setCell (World.setCell (World.setCell (World.setCell (World.setCell (World.setCell (World.setCell (World.setCell w2 ⟨b, r * 8, none⟩ (.int .u8 (byt x 0))) ⟨b, r * 8 + 1, none⟩ (.int .u8 (byt x 1))) ⟨b, r * 8 + 2, none⟩ (.int .u8 (byt x 2))) ⟨b, r * 8 + 3, none⟩ (.int .u8 (byt x 3))) ⟨b, r * 8 + 4, none⟩ (.int .u8 (byt x 4))) ⟨b, r * 8 + 5, none⟩ (.int .u8 (byt x 5))) ⟨b, r * 8 + 6, none⟩ (.int .u8 (byt x 6))) ⟨b, r * 8 + 7, none⟩ (.int .u8 (byt x 7))) 26 W.heap.size (some ⟨b, 0, none⟩) m c1 l') := by rw [HL2.out]; exact O.out.put lr hx
    clear a0 a1 a2 a3 a4 a5 a6 a7 y0 y1 y2 y3 y4 y5 y6 y7 p0 p1 p2 p3 p4 p5 p6 p7 q0 q1 q2 q3 q4 q5 q6 q7
    generalize (World.setCell (World.setCell (World.setCell (World.setCell (World.setCell (World.setCell (World.setCell (World.setCell w2 ⟨b, r * 8, none⟩ (.int .u8 (byt x 0))) ⟨b, r * 8 + 1, none⟩ (.int .u8 (byt x 1))) ⟨b, r * 8 + 2, none⟩ (.int .u8 (byt x 2))) ⟨b, r * 8 + 3, none⟩ (.int .u8 (byt x 3))) ⟨b, r * 8 + 4, none⟩ (.int .u8 (byt x 4))) ⟨b, r * 8 + 5, none⟩ (.int .u8 (byt x 5))) ⟨b, r * 8 + 6, none⟩ (.int .u8 (byt x 6))) ⟨b, r * 8 + 7, none⟩ (.int .u8 (byt x 7))) = V1 at *
    go_wp2_with fail
    refine (root_ok _ b 0 m c1 l' (Lib.hid O.out.rd) (by omega) (by omega)).mono ?_
    rw [← HHg.out, ← HY.out]
    unfold digV
    rintro e w3 ⟨rfl, hb⟩
    replace DX := Lib.hid (keepB hb DX.out)
    replace P2 := Lib.hid (P2.out.ext hb)
    replace O := Lib.hid (O.out.ext hb)
    replace B := Lib.hid (ext_trans B.out hb)
    clear hb
    go_upto_region 8 with fail
    obtain ⟨g, hg⟩ : ∃ g, g = w3.heap.size := ⟨_, rfl⟩
    have DY : Hid ((World.alloc w3 (.cells #[.int .u8 (byt y 0), .int .u8 (byt y 1), .int .u8 (byt y 2), .int .u8 (byt y 3), .int .u8 (byt y 4), .int .u8 (byt y 5), .int .u8 (byt y 6), .int .u8 (byt y 7)] 26)).heap[g]? = some (.cells #[.int .u8 (byt y 0), .int .u8 (byt y 1), .int .u8 (byt y 2), .int .u8 (byt y 3), .int .u8 (byt y 4), .int .u8 (byt y 5), .int .u8 (byt y 6), .int .u8 (byt y 7)] 26 (0, 0))) := by rw [hg]; exact Go.heap_alloc_new w3 _
    replace DX : Hid ((World.alloc w3 (.cells #[.int .u8 (byt y 0), .int .u8 (byt y 1), .int .u8 (byt y 2), .int .u8 (byt y 3), .int .u8 (byt y 4), .int .u8 (byt y 5), .int .u8 (byt y 6), .int .u8 (byt y 7)] 26)).heap[w.heap.size]? = some (.cells #[.int .u8 (byt x 0), .int .u8 (byt x 1), .int .u8 (byt x 2), .int .u8 (byt x 3), .int .u8 (byt x 4), .int .u8 (byt x 5), .int .u8 (byt x 6), .int .u8 (byt x 7)] 26 (0, 0))) := keepA DX.out
    replace P2 : Hid (OwnD (World.alloc w3 (.cells #[.int .u8 (byt y 0), .int .u8 (byt y 1), .int .u8 (byt y 2), .int .u8 (byt y 3), .int .u8 (byt y 4), .int .u8 (byt y 5), .int .u8 (byt y 6), .int .u8 (byt y 7)] 26)) 26 B1 A2 H c2 p) := P2.out.ext (ext_alloc _ _)
    replace O : Hid (OwnD (World.alloc w3 (.cells #[.int .u8 (byt y 0), .int .u8 (byt y 1), .int .u8 (byt y 2), .int .u8 (byt y 3), .int .u8 (byt y 4), .int .u8 (byt y 5), .int .u8 (byt y 6), .int .u8 (byt y 7)] 26)) 26 W.heap.size (some ⟨b, 0, none⟩) m c1 l') := O.out.ext (ext_alloc _ _)
    replace B : Hid (Below w.heap.size w (World.alloc w3 (.cells #[.int .u8 (byt y 0), .int .u8 (byt y 1), .int .u8 (byt y 2), .int .u8 (byt y 3), .int .u8 (byt y 4), .int .u8 (byt y 5), .int .u8 (byt y 6), .int .u8 (byt y 7)] 26))) := ext_trans B.out (ext_alloc _ _)
    rw [← hg]
    clear hg
    generalize World.alloc w3 (.cells #[.int .u8 (byt y 0), .int .u8 (byt y 1), .int .u8 (byt y 2), .int .u8 (byt y 3), .int .u8 (byt y 4), .int .u8 (byt y 5), .int .u8 (byt y 6), .int .u8 (byt y 7)] 26) = V2 at *
    go_wp2_with fail
    refine (path_ok _ b 0 m c1 l' r (Lib.hid O.out.rd) (by omega) (by omega) lr).mono ?_
    rw [← HHg.out, HP2.out]
    unfold Paths
    rw [HPL.out]
    rintro e V ⟨A4, c4, rfl, hO4, hb⟩
    have P4 := Lib.hid hO4.rd
    have P3 := Lib.hid ((P2.out.ext hb).rd)
    replace DX := Lib.hid (keepB hb DX.out)
    replace DY := Lib.hid (keepB hb DY.out)
    replace B := Lib.hid (ext_trans B.out hb)
    clear hb hO4 O P2
    go_upto_region 9 with fail
    refine wp_region_schedC (fun u => Below V.heap.size V u) [(false, 0), (true, 1), (true, 2), (true, 3), (true, 4), (true, 5), (true, 6), (true, 7), (true, 8), (true, 9), (true, 10), (true, 11), (true, 12), (true, 13), (true, 14), (true, 15), (true, 16), (true, 18), (false, 17), (true, 19), (true, 20), (true, 21), (true, 22), (true, 24), (false, 23), (false, 25), (false, 26), (true, 27), (true, 28)] (by kernel_rfl) rfl (by kernel_rfl) (by kernel_rfl) (fun _ _ d _ _ h => by cases d <;> exact h) (ext_drew V) ?_
    intro J0 hJ0
    have Q : Hid (Below V.heap.size V V.drew) := ext_drew V
    refine schedC_eff rfl ?_
    intro J hJ
    go_wp2_with fail
    refine (told_c _).mono ?_
    rintro e v9 ⟨rfl, hb⟩
    have Q2 : Hid (Below V.heap.size V v9) := Lib.hid (ext_trans Q.out hb)
    clear hb Q
    go_wp2_with fail
    refine ⟨Q2.out, ?_⟩
    have Q := Q2
    clear Q2
    iterate 17 (refine schedC_pure (v := ?_) rfl (by rfl) ?_ ?_; rotate_left; (focus (intro u hC; obtain ⟨a0, a1, a2, a3, a4, a5, a6, a7, _, _, _, _, _, _, _, _⟩ := full8 (keepB hC DX.out); obtain ⟨b0, b1, b2, b3, b4, b5, b6, b7, _, _, _, _, _, _, _, _⟩ := full8 (keepB hC DY.out); go_simp; try with_reducible rfl)); try go_simp)
    refine schedC_eff rfl ?_
    intro J hJ
    go_wp2_with fail
    rw [← show digV x = .agg #[.int .u8 (byt x 0), .int .u8 (byt x 1), .int .u8 (byt x 2), .int .u8 (byt x 3), .int .u8 (byt x 4), .int .u8 (byt x 5), .int .u8 (byt x 6), .int .u8 (byt x 7)] from rfl]
    refine (with_c _ (r : Int) x hx A2 H c2 p (Lib.hid (P3.out.ext Q.out))).mono ?_
    rw [HW.out]
    unfold digV
    rintro e v9 ⟨rfl, hb⟩
    have Q2 : Hid (Below V.heap.size V v9) := Lib.hid (ext_trans Q.out hb)
    clear hb Q
    go_wp2_with fail
    refine ⟨Q2.out, ?_⟩
    have Q := Q2
    clear Q2
    refine schedC_pure (v := .bool true) rfl (by rfl) (fun u hC => exec_run rfl rfl rfl (G1 _ _ u) (E1 u)) ?_
    try go_simp
    iterate 4 (refine schedC_pure (v := ?_) rfl (by rfl) ?_ ?_; rotate_left; (focus (intro u hC; obtain ⟨a0, a1, a2, a3, a4, a5, a6, a7, _, _, _, _, _, _, _, _⟩ := full8 (keepB hC DX.out); obtain ⟨b0, b1, b2, b3, b4, b5, b6, b7, _, _, _, _, _, _, _, _⟩ := full8 (keepB hC DY.out); go_simp; try with_reducible rfl)); try go_simp)
    refine schedC_eff rfl ?_
    intro J hJ
    go_wp2_with fail
    refine (plain_c _ A2 H c2 p (Lib.hid (P3.out.ext Q.out)) (by omega)).mono ?_
    rintro e v9 ⟨A5, c5, rfl, hO5, hb⟩
    have P5 := Lib.hid hO5.rd
    have HB5 := Lib.hid hb
    clear hO5
    have Q2 : Hid (Below V.heap.size V v9) := Lib.hid (ext_trans Q.out hb)
    clear hb Q
    go_wp2_with fail
    refine ⟨Q2.out, ?_⟩
    have Q := Q2
    clear Q2
    refine schedC_eff rfl ?_
    intro J hJ
    go_wp2_with fail
    refine (plain_c _ A4 H c4 p (Lib.hid (P4.out.ext Q.out)) (by omega)).mono ?_
    rintro e v9 ⟨A6, c6, rfl, hO6, hb⟩
    have P6 := Lib.hid hO6.rd
    replace P5 := Lib.hid (P5.out.ext hb)
    clear hO6
    have Q2 : Hid (Below V.heap.size V v9) := Lib.hid (ext_trans Q.out hb)
    clear hb Q
    go_wp2_with fail
    refine ⟨Q2.out, ?_⟩
    have Q := Q2
    clear Q2
    refine schedC_eff rfl ?_
    intro J hJ
    go_wp2_with fail
    refine (rsame_c _ A5 H c5 p A6 H c6 p P5 P6).mono ?_
    rw [decide_eq_true rfl]
    rintro e v9 ⟨rfl, hb⟩
    have Q2 : Hid (Below V.heap.size V v9) := Lib.hid (ext_trans Q.out hb)
    clear hb Q
    go_wp2_with fail
    refine ⟨Q2.out, ?_⟩
    have Q := Q2
    clear Q2
    iterate 2 (refine schedC_pure (v := ?_) rfl (by rfl) ?_ ?_; rotate_left; (focus (intro u hC; obtain ⟨a0, a1, a2, a3, a4, a5, a6, a7, _, _, _, _, _, _, _, _⟩ := full8 (keepB hC DX.out); obtain ⟨b0, b1, b2, b3, b4, b5, b6, b7, _, _, _, _, _, _, _, _⟩ := full8 (keepB hC DY.out); go_simp; try with_reducible rfl)); try go_simp)
    refine schedC_nil (hJ0 _ _ ?_)
    clear hJ0
    go_wp2_with fail
    go_ret
    exact ⟨rfl, ext_trans B.out Q.out⟩
#print axioms walkTreeOthers
end Go.Proofs.YtbejjmmopdcjoaaDoor
