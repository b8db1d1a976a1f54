/-
  TreeWiths: the walk.
-/
import Derived.Test.YtaokfpndplbedaaDoorWTreeChecks
namespace Go.Proofs.YtaokfpndplbedaaDoor
open Go.ChangeShapes Go.WideShapes Go.ChangeAt Go.RowKit Go.Deep

theorem RdD.front {w : World} {A : Option Addr} {n c : Nat} {xs : List Nat} (h : RdD w A n c xs) {m : Nat} (hm : m ≤ n) : RdD w A m c (xs.take m) :=
  ⟨by rw [List.length_take, h.len]; omega, Nat.le_trans hm h.le, h.max, fun h0 => by
    obtain ⟨b, o, hA, hb, hc⟩ := h.cells (by omega)
    refine ⟨b, o, hA, hb, fun j hj i hi => ?_⟩
    rw [hc j (by omega) i hi]
    have e : (xs.take m).getD j 0 = xs.getD j 0 := by simp [List.getD, hj]
    rw [e], h.none_, fun x hx => h.small x (List.mem_of_mem_take hx)⟩
def aboveV (A : Option Addr) (n c y : Nat) : Value := .agg #[.slice A n c, .int .u8 (byt y 0), .int .u8 (byt y 1), .int .u8 (byt y 2), .int .u8 (byt y 3), .int .u8 (byt y 4), .int .u8 (byt y 5), .int .u8 (byt y 6), .int .u8 (byt y 7)]
section
variable {H : Type} {enc : TypeId × Value → H}
set_option maxRecDepth 100000 in
theorem open_above {t ts e u : TypeId} {f0 f1 : Field} (ht : Tryd.prog.underlying t = some (.struct #[f0, f1])) (hf0 : f0.type = ts) (ho0 : f0.offset = 0) (hf1 : f1.type = e) (ho1 : f1.offset = 1) (hts : Tryd.prog.underlying ts = some (.slice e)) (hcs : Tryd.prog.cellsOf ts = 1) (he : Tryd.prog.underlying e = some (.array 8 u)) (hu : Tryd.prog.underlying u = some (.int .u8)) (hcu : Tryd.prog.cellsOf u = 1) (hce : Tryd.prog.cellsOf e = 8) (hct : Tryd.prog.cellsOf t = 9) {W : World} {base : Nat} {v : Value} {d : DataW H} {p : List MemPlace}
    (hv : Value.okWide Tryd.prog W .any base t v) (h : DataW.Trod enc Tryd.prog W 0 (fun _ => true) true t v d p) : ∃ A n c xs y, v = aboveV A n c y ∧ RdD W A n c xs ∧ y < 18446744073709551616 := by
  obtain ⟨cs, rfl, hsz⟩ := okWide_struct ht hv
  obtain ⟨fuel, hf⟩ := h
  obtain ⟨y0, y1, k, _, _, h0, h1⟩ := trod_struct2 ht hf
  rw [hf0, ho0, hcs, List.drop_zero] at h0
  rw [hf1, ho1, hce] at h1
  obtain ⟨l⟩ := cs
  have hl9 : l.length = 9 := by rw [hct] at hsz; simpa using hsz
  have e0 : (Value.agg { toList := l }).cells.toList = l := rfl
  rw [e0] at h0 h1
  obtain ⟨y, hy, hd⟩ := dig_cells he hu hcu (by rw [List.length_take, List.length_drop]; omega) h1
  have hl : l = l.take 1 ++ (digA y).toList := by
    have ht8 : (l.drop 1).take 8 = l.drop 1 := List.take_of_length_le (by rw [List.length_drop]; omega)
    rw [← hd, ht8, List.take_append_drop]
  rcases open_slice hts h0 with ⟨hc1, _⟩ | ⟨a, len, cap, m, k2, D, Pl, hc1, _, hl1, hm, hmm, _, hi⟩
  · rw [hc1] at hl
    refine ⟨none, 0, 0, [], y, ?_, ⟨rfl, Nat.le_refl _, by omega, fun h => by omega, fun _ => rfl, by simp⟩, hy⟩
    rw [hl]
    rfl
  · rw [hc1] at hl
    simp only [if_true] at hmm
    have hm' : cap ≤ 9223372036854775807 := by simp only [maxLen] at hm; omega
    have ex : ∀ i, ∃ x : Nat, i < len → x < 18446744073709551616 ∧ ∀ j, j < 8 → W.cell? ((a.add (i * 8)).add j) = some (.int .u8 (byt x j)) := fun i => by
      by_cases hin : i < len
      · obtain ⟨cs', g1, g2⟩ := hi i (by omega)
        rw [hce] at g1
        obtain ⟨_, hcl, hat⟩ := World.cells?_some g1
        obtain ⟨x, hx, hl'⟩ := dig_cells he hu hcu hcl g2
        refine ⟨x, fun _ => ⟨hx, fun j hj => ?_⟩⟩
        rw [hat j hj, hl', Array.getElem?_toList]
        have := digA_at x j hj
        rw [Nat.mul_one] at this
        exact this
      · exact ⟨0, fun h => absurd h hin⟩
    obtain ⟨f, hf'⟩ := Classical.axiomOfChoice ex
    refine ⟨some a, len, cap, (List.range len).map f, y, by rw [hl]; rfl, ⟨by simp, hl1, hm', fun h0 => ?_, fun h => (by cases h), fun x hx => ?_⟩, hy⟩
    · obtain ⟨b, off, spot⟩ := a
      have h00 := (hf' 0 h0).2 0 (by omega)
      have hspot : spot = none := by simpa [Addr.add] using World.cell?_spot h00
      subst hspot
      have hblk := World.block_lt_of_cell? _ _ h00
      refine ⟨b, off, rfl, by simpa [Addr.add] using hblk, fun j hj i hi8 => ?_⟩
      have h2 := (hf' j hj).2 i hi8
      rw [Addr.add_lit, Addr.add_lit, Nat.add_assoc] at h2
      rw [h2]
      simp [hj]
    · obtain ⟨i, hi', rfl⟩ := List.mem_map.1 hx
      exact (hf' i (by simpa using hi')).1
end
theorem full9 {w : World} {b : Nat} {T : TypeId} {x0 x1 x2 x3 x4 x5 x6 x7 x8 : Value} (h : w.heap[b]? = some (.cells #[x0, x1, x2, x3, x4, x5, x6, x7, x8] T (0, 0))) : w.cell? ⟨b, 0, none⟩ = some x0 ∧ w.cell? ⟨b, 1, none⟩ = some x1 ∧ w.cell? ⟨b, 2, none⟩ = some x2 ∧ w.cell? ⟨b, 3, none⟩ = some x3 ∧ w.cell? ⟨b, 4, none⟩ = some x4 ∧ w.cell? ⟨b, 5, none⟩ = some x5 ∧ w.cell? ⟨b, 6, none⟩ = some x6 ∧ w.cell? ⟨b, 7, none⟩ = some x7 ∧ w.cell? ⟨b, 8, none⟩ = some x8 :=
  ⟨by rw [cell_of_row w _ 0 _ _ _ h]; rfl, by rw [cell_of_row w _ 1 _ _ _ h]; rfl, by rw [cell_of_row w _ 2 _ _ _ h]; rfl, by rw [cell_of_row w _ 3 _ _ _ h]; rfl, by rw [cell_of_row w _ 4 _ _ _ h]; rfl, by rw [cell_of_row w _ 5 _ _ _ h]; rfl, by rw [cell_of_row w _ 6 _ _ _ h]; rfl, by rw [cell_of_row w _ 7 _ _ _ h]; rfl, by rw [cell_of_row w _ 8 _ _ _ h]; rfl⟩

set_option maxRecDepth 100000 in
set_option maxHeartbeats 8000000 in
theorem walkTreeWiths (w : World) (i : Int) (x : Nat) (A : Option Addr) (n c : Nat) (xs : List Nat) (y : Nat) (_ : -9223372036854775808 ≤ i) (_ : i < 9223372036854775808) (lx : x < 18446744073709551616) (h : RdD w A n c xs) (ly : y < 18446744073709551616) : Calls Tryd.prog 5 #[.int .i64 i, digV x, aboveV A n c y] w (Holds w) := by
  obtain ⟨m, hm⟩ : ∃ m, m = min n 14 := ⟨_, rfl⟩
  have mn : m ≤ n := by omega
  have m14 : m ≤ 14 := by omega
  have hle := h.le
  have hmx := h.max
  have HMI : (if (14 : Int) < (n : Int) then (14 : Int) else (n : Int)) = (m : Int) := by split <;> omega
  have HMI2 : min (n : Int) 14 = (m : Int) := by omega
  obtain ⟨ps, hps⟩ : ∃ ps, ps = xs.take m := ⟨_, rfl⟩
  have P := Lib.hid (h.front mn)
  rw [← hps] at P
  have mc : (m : Int) ≤ (c : Int) := by omega
  have m0 : (0 : Int) ≤ (m : Int) := by omega
  clear hm hps h
  unfold digV aboveV
  go_enter Tryd.func5, Tryd.ntmps5
  go_upto_region 1 with fail
  generalize hW : World.alloc (World.alloc w (.cells #[.int .u8 (byt x 0), .int .u8 (byt x 1), .int .u8 (byt x 2), .int .u8 (byt x 3), .int .u8 (byt x 4), .int .u8 (byt x 5), .int .u8 (byt x 6), .int .u8 (byt x 7)] 26)) (.cells #[.slice A n c, .int .u8 (byt y 0), .int .u8 (byt y 1), .int .u8 (byt y 2), .int .u8 (byt y 3), .int .u8 (byt y 4), .int .u8 (byt y 5), .int .u8 (byt y 6), .int .u8 (byt y 7)] 45) = W
  have DX : Hid (W.heap[w.heap.size]? = some (.cells #[.int .u8 (byt x 0), .int .u8 (byt x 1), .int .u8 (byt x 2), .int .u8 (byt x 3), .int .u8 (byt x 4), .int .u8 (byt x 5), .int .u8 (byt x 6), .int .u8 (byt x 7)] 26 (0, 0))) := by rw [← hW]; exact keepA (Go.heap_alloc_new w _)
  have DA : Hid (W.heap[w.heap.size + 1]? = some (.cells #[.slice A n c, .int .u8 (byt y 0), .int .u8 (byt y 1), .int .u8 (byt y 2), .int .u8 (byt y 3), .int .u8 (byt y 4), .int .u8 (byt y 5), .int .u8 (byt y 6), .int .u8 (byt y 7)] 45 (0, 0))) := by rw [← hW]; exact heap_alloc_newest (w := World.alloc _ _) (by simp)
  have B : Hid (Below w.heap.size w W) := by rw [← hW]; exact ext_trans (ext_alloc _ _) (ext_alloc _ _)
  replace P : Hid (RdD W A m c ps) := P.out.ext B.out
  clear hW
  refine wp_region_schedF (fin := 11) (fun u => Below W.heap.size W u) [(true, 0), (true, 1), (true, 2), (true, 3), (true, 4), (true, 5), (true, 6), (true, 7), (true, 8), (false, 9), (true, 10), (false, 11)] (by kernel_rfl) rfl (by kernel_rfl) (by kernel_rfl) (by kernel_rfl) (fun _ _ d _ _ h => by cases d <;> exact h) (ext_drew W) ?_
  intro J0 hJ0
  iterate 5 (refine schedF_pure (v := ?_) rfl (by rfl) ?_ ?_; rotate_left; (focus (intro u hC; obtain ⟨b0, b1, b2, b3, b4, b5, b6, b7, b8⟩ := full9 (keepB hC DA.out); go_simp; try with_reducible rfl)); try go_simp)
  refine schedF_pure (v := .int .i64 (m : Int)) rfl (by rfl) (fun u hC => by go_simp) ?_
  try go_simp
  iterate 3 (refine schedF_pure (v := ?_) rfl (by rfl) ?_ ?_; rotate_left; (focus (intro u hC; obtain ⟨b0, b1, b2, b3, b4, b5, b6, b7, b8⟩ := full9 (keepB hC DA.out); go_simp; try with_reducible rfl)); try go_simp)
  refine schedF_eff rfl ?_
  intro J hJ
  go_wp2_with fail
  refine ⟨fun _ => ext_trans (ext_drew W) (ext_alloc _ _), ?_⟩
  iterate 1 (refine schedF_pure (v := ?_) rfl (by rfl) ?_ ?_; rotate_left; (focus (intro u hC; go_simp; try with_reducible rfl)); try go_simp)
  obtain ⟨gr, hgr⟩ : ∃ g, g = W.heap.size := ⟨_, rfl⟩
  obtain ⟨V, hV⟩ : ∃ V, V = (World.alloc W (.cells #[.int .u8 0, .int .u8 0, .int .u8 0, .int .u8 0, .int .u8 0, .int .u8 0, .int .u8 0, .int .u8 0] 26)).drew := ⟨_, rfl⟩
  have PA : Hid (V.heap[gr]? = some (.cells #[.int .u8 0, .int .u8 0, .int .u8 0, .int .u8 0, .int .u8 0, .int .u8 0, .int .u8 0, .int .u8 0] 26 (0, 0))) := by rw [hV, hgr]; exact Go.heap_alloc_new W _
  have Q : Hid (Below W.heap.size W V) := by rw [hV]; exact ext_trans (ext_alloc W _) (ext_drew _)
  have PZ : W.heap.size ≤ gr := by rw [hgr]; exact Nat.le_refl _
  rw [← hV, ← hgr]
  clear hV hgr
  obtain ⟨c0, c1, c2, c3, c4, c5, c6, c7, f0, f1, f2, f3, f4, f5, f6, f7⟩ := full8 PA.out
  refine schedF_eff rfl ?_
  intro J hJ
  go_wp2_with fail
  first | refine hJ0 _ _ ?_ | (refine ⟨by first | exact fun h => absurd rfl h | trivial, ?_⟩; refine schedF_nil (hJ0 _ _ ?_))
  have DR := Lib.hid (set8 PA.out (.int .u8 (byt y 0)) (.int .u8 (byt y 1)) (.int .u8 (byt y 2)) (.int .u8 (byt y 3)) (.int .u8 (byt y 4)) (.int .u8 (byt y 5)) (.int .u8 (byt y 6)) (.int .u8 (byt y 7)))
  have Q2 := Lib.hid (bel8 Q.out (Nat.le_refl _) PZ (.int .u8 (byt y 0)) (.int .u8 (byt y 1)) (.int .u8 (byt y 2)) (.int .u8 (byt y 3)) (.int .u8 (byt y 4)) (.int .u8 (byt y 5)) (.int .u8 (byt y 6)) (.int .u8 (byt y 7)))
  replace DX := Lib.hid (keepB Q2.out DX.out)
  replace P := Lib.hid (P.out.ext Q2.out)
  replace B := Lib.hid (ext_trans B.out Q2.out)
  clear hJ0 Q Q2 PA DA c0 c1 c2 c3 c4 c5 c6 c7 f0 f1 f2 f3 f4 f5 f6 f7
  generalize World.setCell (World.setCell (World.setCell (World.setCell (World.setCell (World.setCell (World.setCell (World.setCell V ⟨gr, 0, none⟩ (.int .u8 (byt y 0))) ⟨gr, 1, none⟩ (.int .u8 (byt y 1))) ⟨gr, 2, none⟩ (.int .u8 (byt y 2))) ⟨gr, 3, none⟩ (.int .u8 (byt y 3))) ⟨gr, 4, none⟩ (.int .u8 (byt y 4))) ⟨gr, 5, none⟩ (.int .u8 (byt y 5))) ⟨gr, 6, none⟩ (.int .u8 (byt y 6))) ⟨gr, 7, none⟩ (.int .u8 (byt y 7)) = V1 at *
  go_wp2_with fail
  go_loopw [9] (fun kv wr => ∃ k : Nat, k ≤ 2 ∧ kv = .int .i64 k ∧ Hid (wr.heap[w.heap.size]? = some (.cells #[.int .u8 (byt x 0), .int .u8 (byt x 1), .int .u8 (byt x 2), .int .u8 (byt x 3), .int .u8 (byt x 4), .int .u8 (byt x 5), .int .u8 (byt x 6), .int .u8 (byt x 7)] 26 (0, 0))) ∧ Hid (wr.heap[gr]? = some (.cells #[.int .u8 (byt y 0), .int .u8 (byt y 1), .int .u8 (byt y 2), .int .u8 (byt y 3), .int .u8 (byt y 4), .int .u8 (byt y 5), .int .u8 (byt y 6), .int .u8 (byt y 7)] 26 (0, 0))) ∧ Hid (RdD wr A m c ps) ∧ Hid (Below w.heap.size w wr)) (fun kv _ => 2 - (intOf kv).toNat)
  case atStart => exact ⟨0, Nat.zero_le _, rfl, DX.out, DR.out, P.out, B.out⟩
  case round =>
    clear DX DR P B
    obtain ⟨k, hk, rfl, DX, DR, P, B⟩ := hrel
    by_cases hlt : k < 2
    · have gk : (k : Int) < 2 := by omega
      by_cases hk1 : k = 1
      · subst hk1
        obtain ⟨a, ha⟩ : ∃ a : Nat, IntKind.u64.wrap i = (a : Int) := ⟨(IntKind.u64.wrap i).toNat, by have := wrap_u64_nonneg i; omega⟩
        obtain ⟨r, hr⟩ : ∃ r, r = a % 64 := ⟨_, rfl⟩
        have lr : r < 64 := by rw [hr]; exact Nat.mod_lt _ (by omega)
        have v3 : (a : Int) % 64 = (r : Int) := by rw [hr]; exact (Int.natCast_emod _ _).symm
        have v4 : (a : Int).tmod 64 = (r : Int) := by rw [Int.tmod_eq_emod_of_nonneg (by omega)]; exact v3
        have v5 : IntKind.i64.wrap (r : Int) = (r : Int) := by rw [IntKind.wrap_i64]; omega
        clear hr
        obtain ⟨z, hz⟩ : ∃ z, z = (comes (r : Int) x ps).1 := ⟨_, rfl⟩
        obtain ⟨ok, hok⟩ : ∃ ok, ok = (comes (r : Int) x ps).2 := ⟨_, rfl⟩
        have HC1 : Hid ((comes (r : Int) x ps).1 = z) := hz.symm
        have HC2 : Hid ((comes (r : Int) x ps).2 = ok) := hok.symm
        have lz : z < 18446744073709551616 := by rw [hz]; exact comes_lt lx P.out.small
        obtain ⟨te, hte⟩ : ∃ te : Bool, te = decide (z = y) := ⟨_, rfl⟩
        have Y1 : Hid (((comes (r : Int) x ps).2 && decide ((comes (r : Int) x ps).1 = y)) = (ok && te)) := by show _ = _; rw [hte, hz, hok]
        have Y2 : Hid (((comes (r : Int) x ps).2 && decide ((comes (r : Int) x ps).1 = z)) = ok) := by show _ = _; rw [← hz, ← hok]; simp
        have E1 := neq_d lz lz
        rw [decide_eq_true rfl, Bool.not_true] at E1
        have G1 := guard_d .neq z z
        have E2 := eql_r lz ly
        rw [← hte] at E2
        have G2 := guard_r .eql z y
        unfold digV at E1 G1 E2 G2
        clear hz hok hte
        go_upto_region 8 with fail
        go_cut [11, 12] (fun x1 x2 wx => RWith z ok wr x1 x2 wx)
        case first =>
          refine wp_region_tr (fin := 99) (fun v => Below wr.heap.size wr v) (.pure 0 (.pure 1 (.pure 2 (.two 3 (.two 4 (.pure 5 (.pure 6 (.pure 7 (.eff 8 (.eff 9 (.pure 10 .nil)))))) 8 (.eff 4 (.pure 5 (.pure 6 (.pure 7 (.eff 9 (.pure 10 .nil))))))) 8 (.eff 3 (.eff 4 (.pure 5 (.pure 6 (.pure 7 (.eff 9 (.pure 10 .nil))))))))))) (by kernel_rfl) (by kernel_rfl) (by kernel_rfl) (fun _ _ d _ _ h => by cases d <;> exact h) (ext_drew wr) ?_
          intro J0 hJ0
          iterate 3 (refine tr_pure (v := ?_) rfl (by rfl) ?_ ?_; rotate_left; (focus (intro u hC; obtain ⟨d0, d1, d2, d3, d4, d5, d6, d7, _, _, _, _, _, _, _, _⟩ := full8 (keepB hC DX.out); go_simp; try with_reducible rfl)); try go_simp)
          have Q : Hid (Below wr.heap.size wr wr.drew) := Lib.hid (ext_drew wr)
          obtain ⟨V0, hV0⟩ : ∃ V0, V0 = wr.drew := ⟨_, rfl⟩
          rw [← hV0] at Q ⊢
          clear hV0
          refine tr_two rfl rfl ?_ ?_
          · skip
            intro J hJ
            go_wp2_with fail
            refine (plain_c _ A m c ps (Lib.hid (P.out.ext Q.out)) (by omega)).mono ?_
            rintro e u1 ⟨A3, c3, rfl, hO3, hb⟩
            have R3 := Lib.hid hO3.rd
            have KP := Lib.hid hb
            have Q : Hid (Below wr.heap.size wr u1) := ext_trans Q.out hb
            clear hO3 hb
            go_wp2_with fail
            refine ⟨by first | exact Q.out | exact fun _ => Q.out, ?_⟩
            refine tr_two rfl rfl ?_ ?_
            · skip
              intro J hJ
              go_wp2_with fail
              rw [← show digV x = .agg #[.int .u8 (byt x 0), .int .u8 (byt x 1), .int .u8 (byt x 2), .int .u8 (byt x 3), .int .u8 (byt x 4), .int .u8 (byt x 5), .int .u8 (byt x 6), .int .u8 (byt x 7)] from rfl]
              refine (rwith_c _ (r : Int) x lx A3 m c3 ps R3).mono ?_
              rw [HC1.out, HC2.out]
              unfold digV
              rintro e u2 ⟨rfl, hb⟩
              have Q : Hid (Below wr.heap.size wr u2) := ext_trans Q.out hb
              clear hb
              go_wp2_with fail
              refine ⟨by first | exact Q.out | exact fun _ => Q.out, ?_⟩
              iterate 3 (refine tr_pure (v := ?_) rfl (by rfl) ?_ ?_; rotate_left; (focus (intro u hC; go_simp; try with_reducible rfl)); try go_simp)
              refine tr_eff rfl ?_
              intro J hJ
              go_wp2_with fail
              refine ⟨by first | exact ext_trans Q.out (ext_alloc _ _) | exact fun _ => ext_trans Q.out (ext_alloc _ _), ?_⟩
              obtain ⟨g, hg⟩ : ∃ g, g = u2.heap.size := ⟨_, rfl⟩
              obtain ⟨u3, hu⟩ : ∃ u, u = World.alloc u2 (.cells #[.int .u8 0, .int .u8 0, .int .u8 0, .int .u8 0, .int .u8 0, .int .u8 0, .int .u8 0, .int .u8 0] 25) := ⟨_, rfl⟩
              rw [← hu, ← hg]
              have PA : Hid (u3.heap[g]? = some (.cells #[.int .u8 0, .int .u8 0, .int .u8 0, .int .u8 0, .int .u8 0, .int .u8 0, .int .u8 0, .int .u8 0] 25 (0, 0))) := by rw [hu, hg]; exact Go.heap_alloc_new _ _
              have PZ : wr.heap.size ≤ g := by rw [hg]; exact Q.out.size
              have Q : Hid (Below wr.heap.size wr u3) := by rw [hu]; exact ext_trans Q.out (ext_alloc _ _)
              clear hu hg
              refine tr_eff rfl ?_
              intro J hJ
              obtain ⟨c0, c1, c2, c3, c4, c5, c6, c7, f0, f1, f2, f3, f4, f5, f6, f7⟩ := full8 PA.out
              go_wp2_with fail
              refine ⟨by first | exact bel8 Q.out (Nat.le_refl _) PZ _ _ _ _ _ _ _ _ | exact fun _ => bel8 Q.out (Nat.le_refl _) PZ _ _ _ _ _ _ _ _, ?_⟩
              iterate 1 (refine tr_pure (v := ?_) rfl (by rfl) ?_ ?_; rotate_left; (focus (intro u hC; go_simp; try with_reducible rfl)); try go_simp)
              refine tr_nil (hJ0 _ _ ?_)
              go_wp2_with fail
              go_meet
              exact ⟨g, rfl, rfl, set8 PA.out (.int .u8 (byt z 0)) (.int .u8 (byt z 1)) (.int .u8 (byt z 2)) (.int .u8 (byt z 3)) (.int .u8 (byt z 4)) (.int .u8 (byt z 5)) (.int .u8 (byt z 6)) (.int .u8 (byt z 7)), PZ, bel8 Q.out (Nat.le_refl _) PZ (.int .u8 (byt z 0)) (.int .u8 (byt z 1)) (.int .u8 (byt z 2)) (.int .u8 (byt z 3)) (.int .u8 (byt z 4)) (.int .u8 (byt z 5)) (.int .u8 (byt z 6)) (.int .u8 (byt z 7))⟩
            · skip
              intro J hJ
              go_wp2_with fail
              refine ⟨by first | exact ext_trans Q.out (ext_alloc _ _) | exact fun _ => ext_trans Q.out (ext_alloc _ _), ?_⟩
              obtain ⟨g, hg⟩ : ∃ g, g = u1.heap.size := ⟨_, rfl⟩
              obtain ⟨u3, hu⟩ : ∃ u, u = World.alloc u1 (.cells #[.int .u8 0, .int .u8 0, .int .u8 0, .int .u8 0, .int .u8 0, .int .u8 0, .int .u8 0, .int .u8 0] 25) := ⟨_, rfl⟩
              rw [← hu, ← hg]
              have PA : Hid (u3.heap[g]? = some (.cells #[.int .u8 0, .int .u8 0, .int .u8 0, .int .u8 0, .int .u8 0, .int .u8 0, .int .u8 0, .int .u8 0] 25 (0, 0))) := by rw [hu, hg]; exact Go.heap_alloc_new _ _
              have PZ : wr.heap.size ≤ g := by rw [hg]; exact Q.out.size
              have R3 : Hid (RdD u3 A3 m c3 ps) := by rw [hu]; exact R3.out.ext (ext_alloc _ _)
              have Q : Hid (Below wr.heap.size wr u3) := by rw [hu]; exact ext_trans Q.out (ext_alloc _ _)
              clear hu hg
              refine tr_eff rfl ?_
              intro J hJ
              go_wp2_with fail
              rw [← show digV x = .agg #[.int .u8 (byt x 0), .int .u8 (byt x 1), .int .u8 (byt x 2), .int .u8 (byt x 3), .int .u8 (byt x 4), .int .u8 (byt x 5), .int .u8 (byt x 6), .int .u8 (byt x 7)] from rfl]
              refine (rwith_c _ (r : Int) x lx A3 m c3 ps R3).mono ?_
              rw [HC1.out, HC2.out]
              unfold digV
              rintro e u2 ⟨rfl, hb⟩
              have Q : Hid (Below wr.heap.size wr u2) := ext_trans Q.out hb
              have PA := Lib.hid (keepB hb PA.out)
              clear hb
              go_wp2_with fail
              refine ⟨by first | exact Q.out | exact fun _ => Q.out, ?_⟩
              iterate 3 (refine tr_pure (v := ?_) rfl (by rfl) ?_ ?_; rotate_left; (focus (intro u hC; go_simp; try with_reducible rfl)); try go_simp)
              refine tr_eff rfl ?_
              intro J hJ
              obtain ⟨c0, c1, c2, c3, c4, c5, c6, c7, f0, f1, f2, f3, f4, f5, f6, f7⟩ := full8 PA.out
              go_wp2_with fail
              refine ⟨by first | exact bel8 Q.out (Nat.le_refl _) PZ _ _ _ _ _ _ _ _ | exact fun _ => bel8 Q.out (Nat.le_refl _) PZ _ _ _ _ _ _ _ _, ?_⟩
              iterate 1 (refine tr_pure (v := ?_) rfl (by rfl) ?_ ?_; rotate_left; (focus (intro u hC; go_simp; try with_reducible rfl)); try go_simp)
              refine tr_nil (hJ0 _ _ ?_)
              go_wp2_with fail
              go_meet
              exact ⟨g, rfl, rfl, set8 PA.out (.int .u8 (byt z 0)) (.int .u8 (byt z 1)) (.int .u8 (byt z 2)) (.int .u8 (byt z 3)) (.int .u8 (byt z 4)) (.int .u8 (byt z 5)) (.int .u8 (byt z 6)) (.int .u8 (byt z 7)), PZ, bel8 Q.out (Nat.le_refl _) PZ (.int .u8 (byt z 0)) (.int .u8 (byt z 1)) (.int .u8 (byt z 2)) (.int .u8 (byt z 3)) (.int .u8 (byt z 4)) (.int .u8 (byt z 5)) (.int .u8 (byt z 6)) (.int .u8 (byt z 7))⟩
          · skip
            intro J hJ
            go_wp2_with fail
            refine ⟨by first | exact ext_trans Q.out (ext_alloc _ _) | exact fun _ => ext_trans Q.out (ext_alloc _ _), ?_⟩
            obtain ⟨g, hg⟩ : ∃ g, g = V0.heap.size := ⟨_, rfl⟩
            obtain ⟨u3, hu⟩ : ∃ u, u = World.alloc V0 (.cells #[.int .u8 0, .int .u8 0, .int .u8 0, .int .u8 0, .int .u8 0, .int .u8 0, .int .u8 0, .int .u8 0] 25) := ⟨_, rfl⟩
            rw [← hu, ← hg]
            have PA : Hid (u3.heap[g]? = some (.cells #[.int .u8 0, .int .u8 0, .int .u8 0, .int .u8 0, .int .u8 0, .int .u8 0, .int .u8 0, .int .u8 0] 25 (0, 0))) := by rw [hu, hg]; exact Go.heap_alloc_new _ _
            have PZ : wr.heap.size ≤ g := by rw [hg]; exact Q.out.size
            have Q : Hid (Below wr.heap.size wr u3) := by rw [hu]; exact ext_trans Q.out (ext_alloc _ _)
            clear hu hg
            refine tr_eff rfl ?_
            intro J hJ
            go_wp2_with fail
            refine (plain_c _ A m c ps (Lib.hid (P.out.ext Q.out)) (by omega)).mono ?_
            rintro e u1 ⟨A3, c3, rfl, hO3, hb⟩
            have R3 := Lib.hid hO3.rd
            have KP := Lib.hid hb
            have Q : Hid (Below wr.heap.size wr u1) := ext_trans Q.out hb
            clear hO3 hb
            go_wp2_with fail
            refine ⟨by first | exact Q.out | exact fun _ => Q.out, ?_⟩
            have PA := Lib.hid (keepB KP.out PA.out)
            refine tr_eff rfl ?_
            intro J hJ
            go_wp2_with fail
            rw [← show digV x = .agg #[.int .u8 (byt x 0), .int .u8 (byt x 1), .int .u8 (byt x 2), .int .u8 (byt x 3), .int .u8 (byt x 4), .int .u8 (byt x 5), .int .u8 (byt x 6), .int .u8 (byt x 7)] from rfl]
            refine (rwith_c _ (r : Int) x lx A3 m c3 ps R3).mono ?_
            rw [HC1.out, HC2.out]
            unfold digV
            rintro e u2 ⟨rfl, hb⟩
            have Q : Hid (Below wr.heap.size wr u2) := ext_trans Q.out hb
            have PA := Lib.hid (keepB hb PA.out)
            clear hb
            go_wp2_with fail
            refine ⟨by first | exact Q.out | exact fun _ => Q.out, ?_⟩
            iterate 3 (refine tr_pure (v := ?_) rfl (by rfl) ?_ ?_; rotate_left; (focus (intro u hC; go_simp; try with_reducible rfl)); try go_simp)
            refine tr_eff rfl ?_
            intro J hJ
            obtain ⟨c0, c1, c2, c3, c4, c5, c6, c7, f0, f1, f2, f3, f4, f5, f6, f7⟩ := full8 PA.out
            go_wp2_with fail
            refine ⟨by first | exact bel8 Q.out (Nat.le_refl _) PZ _ _ _ _ _ _ _ _ | exact fun _ => bel8 Q.out (Nat.le_refl _) PZ _ _ _ _ _ _ _ _, ?_⟩
            iterate 1 (refine tr_pure (v := ?_) rfl (by rfl) ?_ ?_; rotate_left; (focus (intro u hC; go_simp; try with_reducible rfl)); try go_simp)
            refine tr_nil (hJ0 _ _ ?_)
            go_wp2_with fail
            go_meet
            exact ⟨g, rfl, rfl, set8 PA.out (.int .u8 (byt z 0)) (.int .u8 (byt z 1)) (.int .u8 (byt z 2)) (.int .u8 (byt z 3)) (.int .u8 (byt z 4)) (.int .u8 (byt z 5)) (.int .u8 (byt z 6)) (.int .u8 (byt z 7)), PZ, bel8 Q.out (Nat.le_refl _) PZ (.int .u8 (byt z 0)) (.int .u8 (byt z 1)) (.int .u8 (byt z 2)) (.int .u8 (byt z 3)) (.int .u8 (byt z 4)) (.int .u8 (byt z 5)) (.int .u8 (byt z 6)) (.int .u8 (byt z 7))⟩
        case rest =>
          obtain ⟨gz, rfl, rfl, hz, hgz, hbw⟩ := hcut
          obtain ⟨wx, hwb, hwx⟩ : ∃ wx, Below wr.heap.size wr wx ∧ wx = _ := ⟨_, hbw, rfl⟩
          subst hwx
          clear hwb
          have DZ := Lib.hid hz
          replace DX := Lib.hid (keepB hbw DX.out)
          replace DR := Lib.hid (keepB hbw DR.out)
          replace P := Lib.hid (P.out.ext hbw)
          replace B := Lib.hid (ext_trans B.out hbw)
          clear hz hbw
          go_upto_region 9 with fail
          refine wp_region_schedC (fun u => Below wx.heap.size wx u) [(true, 0), (true, 1), (true, 2), (true, 4), (false, 3), (true, 5), (true, 6), (true, 7), (true, 8), (true, 9), (true, 10), (true, 12), (false, 11), (true, 13), (true, 14), (true, 15), (true, 16), (true, 17), (true, 18), (true, 19), (true, 20), (true, 21), (true, 22), (true, 23), (true, 24), (true, 26), (false, 25), (true, 27), (true, 28)] (by kernel_rfl) rfl (by kernel_rfl) (by kernel_rfl) (fun _ _ d _ _ h => by cases d <;> exact h) (ext_drew wx) ?_
          intro J0 hJ0
          have Q : Hid (Below wx.heap.size wx wx.drew) := ext_drew wx
          iterate 4 (refine schedC_pure (v := ?_) rfl (by rfl) ?_ ?_; rotate_left; (focus (intro u hC; obtain ⟨a0, a1, a2, a3, a4, a5, a6, a7, _, _, _, _, _, _, _, _⟩ := full8 (keepB hC DX.out); obtain ⟨r0, r1, r2, r3, r4, r5, r6, r7, _, _, _, _, _, _, _, _⟩ := full8 (keepB hC DR.out); obtain ⟨z0, z1, z2, z3, z4, z5, z6, z7, _, _, _, _, _, _, _, _⟩ := full8 (keepB hC DZ.out); go_simp; try with_reducible rfl)); try go_simp)
          refine schedC_eff rfl ?_
          intro J hJ
          go_wp2_with fail
          rw [← show digV x = .agg #[.int .u8 (byt x 0), .int .u8 (byt x 1), .int .u8 (byt x 2), .int .u8 (byt x 3), .int .u8 (byt x 4), .int .u8 (byt x 5), .int .u8 (byt x 6), .int .u8 (byt x 7)] from rfl]
          refine (with_c _ (r : Int) x lx A m c ps (Lib.hid (P.out.ext Q.out))).mono ?_
          rw [HC1.out]
          unfold digV
          rintro e v9 ⟨rfl, hb⟩
          have Q2 : Hid (Below wx.heap.size wx v9) := Lib.hid (ext_trans Q.out hb)
          clear hb Q
          go_wp2_with fail
          refine ⟨Q2.out, ?_⟩
          have Q := Q2
          clear Q2
          refine schedC_pure (v := .bool false) rfl (by rfl) (fun u hC => exec_run rfl rfl rfl (G1 _ _ u) (E1 u)) ?_
          try go_simp
          iterate 6 (refine schedC_pure (v := ?_) rfl (by rfl) ?_ ?_; rotate_left; (focus (intro u hC; obtain ⟨a0, a1, a2, a3, a4, a5, a6, a7, _, _, _, _, _, _, _, _⟩ := full8 (keepB hC DX.out); obtain ⟨r0, r1, r2, r3, r4, r5, r6, r7, _, _, _, _, _, _, _, _⟩ := full8 (keepB hC DR.out); obtain ⟨z0, z1, z2, z3, z4, z5, z6, z7, _, _, _, _, _, _, _, _⟩ := full8 (keepB hC DZ.out); go_simp; try with_reducible rfl)); try go_simp)
          refine schedC_eff rfl ?_
          intro J hJ
          go_wp2_with fail
          rw [← show digV x = .agg #[.int .u8 (byt x 0), .int .u8 (byt x 1), .int .u8 (byt x 2), .int .u8 (byt x 3), .int .u8 (byt x 4), .int .u8 (byt x 5), .int .u8 (byt x 6), .int .u8 (byt x 7)] from rfl, ← show digV y = .agg #[.int .u8 (byt y 0), .int .u8 (byt y 1), .int .u8 (byt y 2), .int .u8 (byt y 3), .int .u8 (byt y 4), .int .u8 (byt y 5), .int .u8 (byt y 6), .int .u8 (byt y 7)] from rfl]
          refine (check_c _ y ly (r : Int) x lx A m c ps (Lib.hid (P.out.ext Q.out))).mono ?_
          rw [Y1.out]
          unfold digV
          rintro e v9 ⟨rfl, hb⟩
          have Q2 : Hid (Below wx.heap.size wx v9) := Lib.hid (ext_trans Q.out hb)
          clear hb Q
          go_wp2_with fail
          refine ⟨Q2.out, ?_⟩
          have Q := Q2
          clear Q2
          iterate 1 (refine schedC_pure (v := ?_) rfl (by rfl) ?_ ?_; rotate_left; (focus (intro u hC; obtain ⟨a0, a1, a2, a3, a4, a5, a6, a7, _, _, _, _, _, _, _, _⟩ := full8 (keepB hC DX.out); obtain ⟨r0, r1, r2, r3, r4, r5, r6, r7, _, _, _, _, _, _, _, _⟩ := full8 (keepB hC DR.out); obtain ⟨z0, z1, z2, z3, z4, z5, z6, z7, _, _, _, _, _, _, _, _⟩ := full8 (keepB hC DZ.out); go_simp; try with_reducible rfl)); try go_simp)
          cases ok
          · skip
            iterate 3 (refine schedC_skip2 rfl (by rfl) ?_; try go_simp)
            iterate 9 (refine schedC_pure (v := ?_) rfl (by rfl) ?_ ?_; rotate_left; (focus (intro u hC; obtain ⟨a0, a1, a2, a3, a4, a5, a6, a7, _, _, _, _, _, _, _, _⟩ := full8 (keepB hC DX.out); obtain ⟨r0, r1, r2, r3, r4, r5, r6, r7, _, _, _, _, _, _, _, _⟩ := full8 (keepB hC DR.out); obtain ⟨z0, z1, z2, z3, z4, z5, z6, z7, _, _, _, _, _, _, _, _⟩ := full8 (keepB hC DZ.out); go_simp; try with_reducible rfl)); try go_simp)
            refine schedC_eff rfl ?_
            intro J hJ
            go_wp2_with fail
            rw [← show digV x = .agg #[.int .u8 (byt x 0), .int .u8 (byt x 1), .int .u8 (byt x 2), .int .u8 (byt x 3), .int .u8 (byt x 4), .int .u8 (byt x 5), .int .u8 (byt x 6), .int .u8 (byt x 7)] from rfl, ← show digV z = .agg #[.int .u8 (byt z 0), .int .u8 (byt z 1), .int .u8 (byt z 2), .int .u8 (byt z 3), .int .u8 (byt z 4), .int .u8 (byt z 5), .int .u8 (byt z 6), .int .u8 (byt z 7)] from rfl]
            refine (check_c _ z lz (r : Int) x lx A m c ps (Lib.hid (P.out.ext Q.out))).mono ?_
            rw [Y2.out]
            unfold digV
            rintro e v9 ⟨rfl, hb⟩
            have Q2 : Hid (Below wx.heap.size wx v9) := Lib.hid (ext_trans Q.out hb)
            clear hb Q
            go_wp2_with fail
            refine ⟨Q2.out, ?_⟩
            have Q := Q2
            clear Q2
            iterate 2 (refine schedC_pure (v := ?_) rfl (by rfl) ?_ ?_; rotate_left; (focus (intro u hC; obtain ⟨a0, a1, a2, a3, a4, a5, a6, a7, _, _, _, _, _, _, _, _⟩ := full8 (keepB hC DX.out); obtain ⟨r0, r1, r2, r3, r4, r5, r6, r7, _, _, _, _, _, _, _, _⟩ := full8 (keepB hC DR.out); obtain ⟨z0, z1, z2, z3, z4, z5, z6, z7, _, _, _, _, _, _, _, _⟩ := full8 (keepB hC DZ.out); go_simp; try with_reducible rfl)); try go_simp)
            refine schedC_nil (hJ0 _ _ ?_)
            clear hJ0
            go_wp2_with fail
            exact ⟨⟨1 + 1, by omega, by go_num, keepB Q.out DX.out, keepB Q.out DR.out, P.out.ext Q.out, ext_trans B.out Q.out⟩, by simp [intOf] <;> omega⟩
          · skip
            iterate 2 (refine schedC_pure (v := ?_) rfl (by rfl) ?_ ?_; rotate_left; (focus (intro u hC; obtain ⟨a0, a1, a2, a3, a4, a5, a6, a7, _, _, _, _, _, _, _, _⟩ := full8 (keepB hC DX.out); obtain ⟨r0, r1, r2, r3, r4, r5, r6, r7, _, _, _, _, _, _, _, _⟩ := full8 (keepB hC DR.out); obtain ⟨z0, z1, z2, z3, z4, z5, z6, z7, _, _, _, _, _, _, _, _⟩ := full8 (keepB hC DZ.out); go_simp; try with_reducible rfl)); try go_simp)
            refine schedC_pure (v := .bool te) rfl (by rfl) (fun u hC => exec_run rfl rfl rfl (G2 _ _ u) (E2 u)) ?_
            try go_simp
            iterate 9 (refine schedC_pure (v := ?_) rfl (by rfl) ?_ ?_; rotate_left; (focus (intro u hC; obtain ⟨a0, a1, a2, a3, a4, a5, a6, a7, _, _, _, _, _, _, _, _⟩ := full8 (keepB hC DX.out); obtain ⟨r0, r1, r2, r3, r4, r5, r6, r7, _, _, _, _, _, _, _, _⟩ := full8 (keepB hC DR.out); obtain ⟨z0, z1, z2, z3, z4, z5, z6, z7, _, _, _, _, _, _, _, _⟩ := full8 (keepB hC DZ.out); go_simp; try with_reducible rfl)); try go_simp)
            refine schedC_eff rfl ?_
            intro J hJ
            go_wp2_with fail
            rw [← show digV x = .agg #[.int .u8 (byt x 0), .int .u8 (byt x 1), .int .u8 (byt x 2), .int .u8 (byt x 3), .int .u8 (byt x 4), .int .u8 (byt x 5), .int .u8 (byt x 6), .int .u8 (byt x 7)] from rfl, ← show digV z = .agg #[.int .u8 (byt z 0), .int .u8 (byt z 1), .int .u8 (byt z 2), .int .u8 (byt z 3), .int .u8 (byt z 4), .int .u8 (byt z 5), .int .u8 (byt z 6), .int .u8 (byt z 7)] from rfl]
            refine (check_c _ z lz (r : Int) x lx A m c ps (Lib.hid (P.out.ext Q.out))).mono ?_
            rw [Y2.out]
            unfold digV
            rintro e v9 ⟨rfl, hb⟩
            have Q2 : Hid (Below wx.heap.size wx v9) := Lib.hid (ext_trans Q.out hb)
            clear hb Q
            go_wp2_with fail
            refine ⟨Q2.out, ?_⟩
            have Q := Q2
            clear Q2
            iterate 2 (refine schedC_pure (v := ?_) rfl (by rfl) ?_ ?_; rotate_left; (focus (intro u hC; obtain ⟨a0, a1, a2, a3, a4, a5, a6, a7, _, _, _, _, _, _, _, _⟩ := full8 (keepB hC DX.out); obtain ⟨r0, r1, r2, r3, r4, r5, r6, r7, _, _, _, _, _, _, _, _⟩ := full8 (keepB hC DR.out); obtain ⟨z0, z1, z2, z3, z4, z5, z6, z7, _, _, _, _, _, _, _, _⟩ := full8 (keepB hC DZ.out); go_simp; try with_reducible rfl)); try go_simp)
            refine schedC_nil (hJ0 _ _ ?_)
            clear hJ0
            go_wp2_with fail
            exact ⟨⟨1 + 1, by omega, by go_num, keepB Q.out DX.out, keepB Q.out DR.out, P.out.ext Q.out, ext_trans B.out Q.out⟩, by simp [intOf] <;> omega⟩
      · have g1 : ¬ (k : Int) = 1 := by omega
        obtain ⟨z, hz⟩ : ∃ z, z = (comes i x ps).1 := ⟨_, rfl⟩
        obtain ⟨ok, hok⟩ : ∃ ok, ok = (comes i x ps).2 := ⟨_, rfl⟩
        have HC1 : Hid ((comes i x ps).1 = z) := hz.symm
        have HC2 : Hid ((comes i x ps).2 = ok) := hok.symm
        have lz : z < 18446744073709551616 := by rw [hz]; exact comes_lt lx P.out.small
        obtain ⟨te, hte⟩ : ∃ te : Bool, te = decide (z = y) := ⟨_, rfl⟩
        have Y1 : Hid (((comes i x ps).2 && decide ((comes i x ps).1 = y)) = (ok && te)) := by show _ = _; rw [hte, hz, hok]
        have Y2 : Hid (((comes i x ps).2 && decide ((comes i x ps).1 = z)) = ok) := by show _ = _; rw [← hz, ← hok]; simp
        have E1 := neq_d lz lz
        rw [decide_eq_true rfl, Bool.not_true] at E1
        have G1 := guard_d .neq z z
        have E2 := eql_r lz ly
        rw [← hte] at E2
        have G2 := guard_r .eql z y
        unfold digV at E1 G1 E2 G2
        clear hz hok hte
        go_upto_region 8 with fail
        go_cut [11, 12] (fun x1 x2 wx => RWith z ok wr x1 x2 wx)
        case first =>
          refine wp_region_tr (fin := 99) (fun v => Below wr.heap.size wr v) (.pure 0 (.pure 1 (.pure 2 (.two 3 (.two 4 (.pure 5 (.pure 6 (.pure 7 (.eff 8 (.eff 9 (.pure 10 .nil)))))) 8 (.eff 4 (.pure 5 (.pure 6 (.pure 7 (.eff 9 (.pure 10 .nil))))))) 8 (.eff 3 (.eff 4 (.pure 5 (.pure 6 (.pure 7 (.eff 9 (.pure 10 .nil))))))))))) (by kernel_rfl) (by kernel_rfl) (by kernel_rfl) (fun _ _ d _ _ h => by cases d <;> exact h) (ext_drew wr) ?_
          intro J0 hJ0
          iterate 3 (refine tr_pure (v := ?_) rfl (by rfl) ?_ ?_; rotate_left; (focus (intro u hC; obtain ⟨d0, d1, d2, d3, d4, d5, d6, d7, _, _, _, _, _, _, _, _⟩ := full8 (keepB hC DX.out); go_simp; try with_reducible rfl)); try go_simp)
          have Q : Hid (Below wr.heap.size wr wr.drew) := Lib.hid (ext_drew wr)
          obtain ⟨V0, hV0⟩ : ∃ V0, V0 = wr.drew := ⟨_, rfl⟩
          rw [← hV0] at Q ⊢
          clear hV0
          refine tr_two rfl rfl ?_ ?_
          · skip
            intro J hJ
            go_wp2_with fail
            refine (plain_c _ A m c ps (Lib.hid (P.out.ext Q.out)) (by omega)).mono ?_
            rintro e u1 ⟨A3, c3, rfl, hO3, hb⟩
            have R3 := Lib.hid hO3.rd
            have KP := Lib.hid hb
            have Q : Hid (Below wr.heap.size wr u1) := ext_trans Q.out hb
            clear hO3 hb
            go_wp2_with fail
            refine ⟨by first | exact Q.out | exact fun _ => Q.out, ?_⟩
            refine tr_two rfl rfl ?_ ?_
            · skip
              intro J hJ
              go_wp2_with fail
              rw [← show digV x = .agg #[.int .u8 (byt x 0), .int .u8 (byt x 1), .int .u8 (byt x 2), .int .u8 (byt x 3), .int .u8 (byt x 4), .int .u8 (byt x 5), .int .u8 (byt x 6), .int .u8 (byt x 7)] from rfl]
              refine (rwith_c _ i x lx A3 m c3 ps R3).mono ?_
              rw [HC1.out, HC2.out]
              unfold digV
              rintro e u2 ⟨rfl, hb⟩
              have Q : Hid (Below wr.heap.size wr u2) := ext_trans Q.out hb
              clear hb
              go_wp2_with fail
              refine ⟨by first | exact Q.out | exact fun _ => Q.out, ?_⟩
              iterate 3 (refine tr_pure (v := ?_) rfl (by rfl) ?_ ?_; rotate_left; (focus (intro u hC; go_simp; try with_reducible rfl)); try go_simp)
              refine tr_eff rfl ?_
              intro J hJ
              go_wp2_with fail
              refine ⟨by first | exact ext_trans Q.out (ext_alloc _ _) | exact fun _ => ext_trans Q.out (ext_alloc _ _), ?_⟩
              obtain ⟨g, hg⟩ : ∃ g, g = u2.heap.size := ⟨_, rfl⟩
              obtain ⟨u3, hu⟩ : ∃ u, u = World.alloc u2 (.cells #[.int .u8 0, .int .u8 0, .int .u8 0, .int .u8 0, .int .u8 0, .int .u8 0, .int .u8 0, .int .u8 0] 25) := ⟨_, rfl⟩
              rw [← hu, ← hg]
              have PA : Hid (u3.heap[g]? = some (.cells #[.int .u8 0, .int .u8 0, .int .u8 0, .int .u8 0, .int .u8 0, .int .u8 0, .int .u8 0, .int .u8 0] 25 (0, 0))) := by rw [hu, hg]; exact Go.heap_alloc_new _ _
              have PZ : wr.heap.size ≤ g := by rw [hg]; exact Q.out.size
              have Q : Hid (Below wr.heap.size wr u3) := by rw [hu]; exact ext_trans Q.out (ext_alloc _ _)
              clear hu hg
              refine tr_eff rfl ?_
              intro J hJ
              obtain ⟨c0, c1, c2, c3, c4, c5, c6, c7, f0, f1, f2, f3, f4, f5, f6, f7⟩ := full8 PA.out
              go_wp2_with fail
              refine ⟨by first | exact bel8 Q.out (Nat.le_refl _) PZ _ _ _ _ _ _ _ _ | exact fun _ => bel8 Q.out (Nat.le_refl _) PZ _ _ _ _ _ _ _ _, ?_⟩
              iterate 1 (refine tr_pure (v := ?_) rfl (by rfl) ?_ ?_; rotate_left; (focus (intro u hC; go_simp; try with_reducible rfl)); try go_simp)
              refine tr_nil (hJ0 _ _ ?_)
              go_wp2_with fail
              go_meet
              exact ⟨g, rfl, rfl, set8 PA.out (.int .u8 (byt z 0)) (.int .u8 (byt z 1)) (.int .u8 (byt z 2)) (.int .u8 (byt z 3)) (.int .u8 (byt z 4)) (.int .u8 (byt z 5)) (.int .u8 (byt z 6)) (.int .u8 (byt z 7)), PZ, bel8 Q.out (Nat.le_refl _) PZ (.int .u8 (byt z 0)) (.int .u8 (byt z 1)) (.int .u8 (byt z 2)) (.int .u8 (byt z 3)) (.int .u8 (byt z 4)) (.int .u8 (byt z 5)) (.int .u8 (byt z 6)) (.int .u8 (byt z 7))⟩
            · skip
              intro J hJ
              go_wp2_with fail
              refine ⟨by first | exact ext_trans Q.out (ext_alloc _ _) | exact fun _ => ext_trans Q.out (ext_alloc _ _), ?_⟩
              obtain ⟨g, hg⟩ : ∃ g, g = u1.heap.size := ⟨_, rfl⟩
              obtain ⟨u3, hu⟩ : ∃ u, u = World.alloc u1 (.cells #[.int .u8 0, .int .u8 0, .int .u8 0, .int .u8 0, .int .u8 0, .int .u8 0, .int .u8 0, .int .u8 0] 25) := ⟨_, rfl⟩
              rw [← hu, ← hg]
              have PA : Hid (u3.heap[g]? = some (.cells #[.int .u8 0, .int .u8 0, .int .u8 0, .int .u8 0, .int .u8 0, .int .u8 0, .int .u8 0, .int .u8 0] 25 (0, 0))) := by rw [hu, hg]; exact Go.heap_alloc_new _ _
              have PZ : wr.heap.size ≤ g := by rw [hg]; exact Q.out.size
              have R3 : Hid (RdD u3 A3 m c3 ps) := by rw [hu]; exact R3.out.ext (ext_alloc _ _)
              have Q : Hid (Below wr.heap.size wr u3) := by rw [hu]; exact ext_trans Q.out (ext_alloc _ _)
              clear hu hg
              refine tr_eff rfl ?_
              intro J hJ
              go_wp2_with fail
              rw [← show digV x = .agg #[.int .u8 (byt x 0), .int .u8 (byt x 1), .int .u8 (byt x 2), .int .u8 (byt x 3), .int .u8 (byt x 4), .int .u8 (byt x 5), .int .u8 (byt x 6), .int .u8 (byt x 7)] from rfl]
              refine (rwith_c _ i x lx A3 m c3 ps R3).mono ?_
              rw [HC1.out, HC2.out]
              unfold digV
              rintro e u2 ⟨rfl, hb⟩
              have Q : Hid (Below wr.heap.size wr u2) := ext_trans Q.out hb
              have PA := Lib.hid (keepB hb PA.out)
              clear hb
              go_wp2_with fail
              refine ⟨by first | exact Q.out | exact fun _ => Q.out, ?_⟩
              iterate 3 (refine tr_pure (v := ?_) rfl (by rfl) ?_ ?_; rotate_left; (focus (intro u hC; go_simp; try with_reducible rfl)); try go_simp)
              refine tr_eff rfl ?_
              intro J hJ
              obtain ⟨c0, c1, c2, c3, c4, c5, c6, c7, f0, f1, f2, f3, f4, f5, f6, f7⟩ := full8 PA.out
              go_wp2_with fail
              refine ⟨by first | exact bel8 Q.out (Nat.le_refl _) PZ _ _ _ _ _ _ _ _ | exact fun _ => bel8 Q.out (Nat.le_refl _) PZ _ _ _ _ _ _ _ _, ?_⟩
              iterate 1 (refine tr_pure (v := ?_) rfl (by rfl) ?_ ?_; rotate_left; (focus (intro u hC; go_simp; try with_reducible rfl)); try go_simp)
              refine tr_nil (hJ0 _ _ ?_)
              go_wp2_with fail
              go_meet
              exact ⟨g, rfl, rfl, set8 PA.out (.int .u8 (byt z 0)) (.int .u8 (byt z 1)) (.int .u8 (byt z 2)) (.int .u8 (byt z 3)) (.int .u8 (byt z 4)) (.int .u8 (byt z 5)) (.int .u8 (byt z 6)) (.int .u8 (byt z 7)), PZ, bel8 Q.out (Nat.le_refl _) PZ (.int .u8 (byt z 0)) (.int .u8 (byt z 1)) (.int .u8 (byt z 2)) (.int .u8 (byt z 3)) (.int .u8 (byt z 4)) (.int .u8 (byt z 5)) (.int .u8 (byt z 6)) (.int .u8 (byt z 7))⟩
          · skip
            intro J hJ
            go_wp2_with fail
            refine ⟨by first | exact ext_trans Q.out (ext_alloc _ _) | exact fun _ => ext_trans Q.out (ext_alloc _ _), ?_⟩
            obtain ⟨g, hg⟩ : ∃ g, g = V0.heap.size := ⟨_, rfl⟩
            obtain ⟨u3, hu⟩ : ∃ u, u = World.alloc V0 (.cells #[.int .u8 0, .int .u8 0, .int .u8 0, .int .u8 0, .int .u8 0, .int .u8 0, .int .u8 0, .int .u8 0] 25) := ⟨_, rfl⟩
            rw [← hu, ← hg]
            have PA : Hid (u3.heap[g]? = some (.cells #[.int .u8 0, .int .u8 0, .int .u8 0, .int .u8 0, .int .u8 0, .int .u8 0, .int .u8 0, .int .u8 0] 25 (0, 0))) := by rw [hu, hg]; exact Go.heap_alloc_new _ _
            have PZ : wr.heap.size ≤ g := by rw [hg]; exact Q.out.size
            have Q : Hid (Below wr.heap.size wr u3) := by rw [hu]; exact ext_trans Q.out (ext_alloc _ _)
            clear hu hg
            refine tr_eff rfl ?_
            intro J hJ
            go_wp2_with fail
            refine (plain_c _ A m c ps (Lib.hid (P.out.ext Q.out)) (by omega)).mono ?_
            rintro e u1 ⟨A3, c3, rfl, hO3, hb⟩
            have R3 := Lib.hid hO3.rd
            have KP := Lib.hid hb
            have Q : Hid (Below wr.heap.size wr u1) := ext_trans Q.out hb
            clear hO3 hb
            go_wp2_with fail
            refine ⟨by first | exact Q.out | exact fun _ => Q.out, ?_⟩
            have PA := Lib.hid (keepB KP.out PA.out)
            refine tr_eff rfl ?_
            intro J hJ
            go_wp2_with fail
            rw [← show digV x = .agg #[.int .u8 (byt x 0), .int .u8 (byt x 1), .int .u8 (byt x 2), .int .u8 (byt x 3), .int .u8 (byt x 4), .int .u8 (byt x 5), .int .u8 (byt x 6), .int .u8 (byt x 7)] from rfl]
            refine (rwith_c _ i x lx A3 m c3 ps R3).mono ?_
            rw [HC1.out, HC2.out]
            unfold digV
            rintro e u2 ⟨rfl, hb⟩
            have Q : Hid (Below wr.heap.size wr u2) := ext_trans Q.out hb
            have PA := Lib.hid (keepB hb PA.out)
            clear hb
            go_wp2_with fail
            refine ⟨by first | exact Q.out | exact fun _ => Q.out, ?_⟩
            iterate 3 (refine tr_pure (v := ?_) rfl (by rfl) ?_ ?_; rotate_left; (focus (intro u hC; go_simp; try with_reducible rfl)); try go_simp)
            refine tr_eff rfl ?_
            intro J hJ
            obtain ⟨c0, c1, c2, c3, c4, c5, c6, c7, f0, f1, f2, f3, f4, f5, f6, f7⟩ := full8 PA.out
            go_wp2_with fail
            refine ⟨by first | exact bel8 Q.out (Nat.le_refl _) PZ _ _ _ _ _ _ _ _ | exact fun _ => bel8 Q.out (Nat.le_refl _) PZ _ _ _ _ _ _ _ _, ?_⟩
            iterate 1 (refine tr_pure (v := ?_) rfl (by rfl) ?_ ?_; rotate_left; (focus (intro u hC; go_simp; try with_reducible rfl)); try go_simp)
            refine tr_nil (hJ0 _ _ ?_)
            go_wp2_with fail
            go_meet
            exact ⟨g, rfl, rfl, set8 PA.out (.int .u8 (byt z 0)) (.int .u8 (byt z 1)) (.int .u8 (byt z 2)) (.int .u8 (byt z 3)) (.int .u8 (byt z 4)) (.int .u8 (byt z 5)) (.int .u8 (byt z 6)) (.int .u8 (byt z 7)), PZ, bel8 Q.out (Nat.le_refl _) PZ (.int .u8 (byt z 0)) (.int .u8 (byt z 1)) (.int .u8 (byt z 2)) (.int .u8 (byt z 3)) (.int .u8 (byt z 4)) (.int .u8 (byt z 5)) (.int .u8 (byt z 6)) (.int .u8 (byt z 7))⟩
        case rest =>
          obtain ⟨gz, rfl, rfl, hz, hgz, hbw⟩ := hcut
          obtain ⟨wx, hwb, hwx⟩ : ∃ wx, Below wr.heap.size wr wx ∧ wx = _ := ⟨_, hbw, rfl⟩
          subst hwx
          clear hwb
          have DZ := Lib.hid hz
          replace DX := Lib.hid (keepB hbw DX.out)
          replace DR := Lib.hid (keepB hbw DR.out)
          replace P := Lib.hid (P.out.ext hbw)
          replace B := Lib.hid (ext_trans B.out hbw)
          clear hz hbw
          go_upto_region 9 with fail
          refine wp_region_schedC (fun u => Below wx.heap.size wx u) [(true, 0), (true, 1), (true, 2), (true, 4), (false, 3), (true, 5), (true, 6), (true, 7), (true, 8), (true, 9), (true, 10), (true, 12), (false, 11), (true, 13), (true, 14), (true, 15), (true, 16), (true, 17), (true, 18), (true, 19), (true, 20), (true, 21), (true, 22), (true, 23), (true, 24), (true, 26), (false, 25), (true, 27), (true, 28)] (by kernel_rfl) rfl (by kernel_rfl) (by kernel_rfl) (fun _ _ d _ _ h => by cases d <;> exact h) (ext_drew wx) ?_
          intro J0 hJ0
          have Q : Hid (Below wx.heap.size wx wx.drew) := ext_drew wx
          iterate 4 (refine schedC_pure (v := ?_) rfl (by rfl) ?_ ?_; rotate_left; (focus (intro u hC; obtain ⟨a0, a1, a2, a3, a4, a5, a6, a7, _, _, _, _, _, _, _, _⟩ := full8 (keepB hC DX.out); obtain ⟨r0, r1, r2, r3, r4, r5, r6, r7, _, _, _, _, _, _, _, _⟩ := full8 (keepB hC DR.out); obtain ⟨z0, z1, z2, z3, z4, z5, z6, z7, _, _, _, _, _, _, _, _⟩ := full8 (keepB hC DZ.out); go_simp; try with_reducible rfl)); try go_simp)
          refine schedC_eff rfl ?_
          intro J hJ
          go_wp2_with fail
          rw [← show digV x = .agg #[.int .u8 (byt x 0), .int .u8 (byt x 1), .int .u8 (byt x 2), .int .u8 (byt x 3), .int .u8 (byt x 4), .int .u8 (byt x 5), .int .u8 (byt x 6), .int .u8 (byt x 7)] from rfl]
          refine (with_c _ i x lx A m c ps (Lib.hid (P.out.ext Q.out))).mono ?_
          rw [HC1.out]
          unfold digV
          rintro e v9 ⟨rfl, hb⟩
          have Q2 : Hid (Below wx.heap.size wx v9) := Lib.hid (ext_trans Q.out hb)
          clear hb Q
          go_wp2_with fail
          refine ⟨Q2.out, ?_⟩
          have Q := Q2
          clear Q2
          refine schedC_pure (v := .bool false) rfl (by rfl) (fun u hC => exec_run rfl rfl rfl (G1 _ _ u) (E1 u)) ?_
          try go_simp
          iterate 6 (refine schedC_pure (v := ?_) rfl (by rfl) ?_ ?_; rotate_left; (focus (intro u hC; obtain ⟨a0, a1, a2, a3, a4, a5, a6, a7, _, _, _, _, _, _, _, _⟩ := full8 (keepB hC DX.out); obtain ⟨r0, r1, r2, r3, r4, r5, r6, r7, _, _, _, _, _, _, _, _⟩ := full8 (keepB hC DR.out); obtain ⟨z0, z1, z2, z3, z4, z5, z6, z7, _, _, _, _, _, _, _, _⟩ := full8 (keepB hC DZ.out); go_simp; try with_reducible rfl)); try go_simp)
          refine schedC_eff rfl ?_
          intro J hJ
          go_wp2_with fail
          rw [← show digV x = .agg #[.int .u8 (byt x 0), .int .u8 (byt x 1), .int .u8 (byt x 2), .int .u8 (byt x 3), .int .u8 (byt x 4), .int .u8 (byt x 5), .int .u8 (byt x 6), .int .u8 (byt x 7)] from rfl, ← show digV y = .agg #[.int .u8 (byt y 0), .int .u8 (byt y 1), .int .u8 (byt y 2), .int .u8 (byt y 3), .int .u8 (byt y 4), .int .u8 (byt y 5), .int .u8 (byt y 6), .int .u8 (byt y 7)] from rfl]
          refine (check_c _ y ly i x lx A m c ps (Lib.hid (P.out.ext Q.out))).mono ?_
          rw [Y1.out]
          unfold digV
          rintro e v9 ⟨rfl, hb⟩
          have Q2 : Hid (Below wx.heap.size wx v9) := Lib.hid (ext_trans Q.out hb)
          clear hb Q
          go_wp2_with fail
          refine ⟨Q2.out, ?_⟩
          have Q := Q2
          clear Q2
          iterate 1 (refine schedC_pure (v := ?_) rfl (by rfl) ?_ ?_; rotate_left; (focus (intro u hC; obtain ⟨a0, a1, a2, a3, a4, a5, a6, a7, _, _, _, _, _, _, _, _⟩ := full8 (keepB hC DX.out); obtain ⟨r0, r1, r2, r3, r4, r5, r6, r7, _, _, _, _, _, _, _, _⟩ := full8 (keepB hC DR.out); obtain ⟨z0, z1, z2, z3, z4, z5, z6, z7, _, _, _, _, _, _, _, _⟩ := full8 (keepB hC DZ.out); go_simp; try with_reducible rfl)); try go_simp)
          cases ok
          · skip
            iterate 3 (refine schedC_skip2 rfl (by rfl) ?_; try go_simp)
            iterate 9 (refine schedC_pure (v := ?_) rfl (by rfl) ?_ ?_; rotate_left; (focus (intro u hC; obtain ⟨a0, a1, a2, a3, a4, a5, a6, a7, _, _, _, _, _, _, _, _⟩ := full8 (keepB hC DX.out); obtain ⟨r0, r1, r2, r3, r4, r5, r6, r7, _, _, _, _, _, _, _, _⟩ := full8 (keepB hC DR.out); obtain ⟨z0, z1, z2, z3, z4, z5, z6, z7, _, _, _, _, _, _, _, _⟩ := full8 (keepB hC DZ.out); go_simp; try with_reducible rfl)); try go_simp)
            refine schedC_eff rfl ?_
            intro J hJ
            go_wp2_with fail
            rw [← show digV x = .agg #[.int .u8 (byt x 0), .int .u8 (byt x 1), .int .u8 (byt x 2), .int .u8 (byt x 3), .int .u8 (byt x 4), .int .u8 (byt x 5), .int .u8 (byt x 6), .int .u8 (byt x 7)] from rfl, ← show digV z = .agg #[.int .u8 (byt z 0), .int .u8 (byt z 1), .int .u8 (byt z 2), .int .u8 (byt z 3), .int .u8 (byt z 4), .int .u8 (byt z 5), .int .u8 (byt z 6), .int .u8 (byt z 7)] from rfl]
            refine (check_c _ z lz i x lx A m c ps (Lib.hid (P.out.ext Q.out))).mono ?_
            rw [Y2.out]
            unfold digV
            rintro e v9 ⟨rfl, hb⟩
            have Q2 : Hid (Below wx.heap.size wx v9) := Lib.hid (ext_trans Q.out hb)
            clear hb Q
            go_wp2_with fail
            refine ⟨Q2.out, ?_⟩
            have Q := Q2
            clear Q2
            iterate 2 (refine schedC_pure (v := ?_) rfl (by rfl) ?_ ?_; rotate_left; (focus (intro u hC; obtain ⟨a0, a1, a2, a3, a4, a5, a6, a7, _, _, _, _, _, _, _, _⟩ := full8 (keepB hC DX.out); obtain ⟨r0, r1, r2, r3, r4, r5, r6, r7, _, _, _, _, _, _, _, _⟩ := full8 (keepB hC DR.out); obtain ⟨z0, z1, z2, z3, z4, z5, z6, z7, _, _, _, _, _, _, _, _⟩ := full8 (keepB hC DZ.out); go_simp; try with_reducible rfl)); try go_simp)
            refine schedC_nil (hJ0 _ _ ?_)
            clear hJ0
            go_wp2_with fail
            exact ⟨⟨k + 1, by omega, by go_num, keepB Q.out DX.out, keepB Q.out DR.out, P.out.ext Q.out, ext_trans B.out Q.out⟩, by simp [intOf] <;> omega⟩
          · skip
            iterate 2 (refine schedC_pure (v := ?_) rfl (by rfl) ?_ ?_; rotate_left; (focus (intro u hC; obtain ⟨a0, a1, a2, a3, a4, a5, a6, a7, _, _, _, _, _, _, _, _⟩ := full8 (keepB hC DX.out); obtain ⟨r0, r1, r2, r3, r4, r5, r6, r7, _, _, _, _, _, _, _, _⟩ := full8 (keepB hC DR.out); obtain ⟨z0, z1, z2, z3, z4, z5, z6, z7, _, _, _, _, _, _, _, _⟩ := full8 (keepB hC DZ.out); go_simp; try with_reducible rfl)); try go_simp)
            refine schedC_pure (v := .bool te) rfl (by rfl) (fun u hC => exec_run rfl rfl rfl (G2 _ _ u) (E2 u)) ?_
            try go_simp
            iterate 9 (refine schedC_pure (v := ?_) rfl (by rfl) ?_ ?_; rotate_left; (focus (intro u hC; obtain ⟨a0, a1, a2, a3, a4, a5, a6, a7, _, _, _, _, _, _, _, _⟩ := full8 (keepB hC DX.out); obtain ⟨r0, r1, r2, r3, r4, r5, r6, r7, _, _, _, _, _, _, _, _⟩ := full8 (keepB hC DR.out); obtain ⟨z0, z1, z2, z3, z4, z5, z6, z7, _, _, _, _, _, _, _, _⟩ := full8 (keepB hC DZ.out); go_simp; try with_reducible rfl)); try go_simp)
            refine schedC_eff rfl ?_
            intro J hJ
            go_wp2_with fail
            rw [← show digV x = .agg #[.int .u8 (byt x 0), .int .u8 (byt x 1), .int .u8 (byt x 2), .int .u8 (byt x 3), .int .u8 (byt x 4), .int .u8 (byt x 5), .int .u8 (byt x 6), .int .u8 (byt x 7)] from rfl, ← show digV z = .agg #[.int .u8 (byt z 0), .int .u8 (byt z 1), .int .u8 (byt z 2), .int .u8 (byt z 3), .int .u8 (byt z 4), .int .u8 (byt z 5), .int .u8 (byt z 6), .int .u8 (byt z 7)] from rfl]
            refine (check_c _ z lz i x lx A m c ps (Lib.hid (P.out.ext Q.out))).mono ?_
            rw [Y2.out]
            unfold digV
            rintro e v9 ⟨rfl, hb⟩
            have Q2 : Hid (Below wx.heap.size wx v9) := Lib.hid (ext_trans Q.out hb)
            clear hb Q
            go_wp2_with fail
            refine ⟨Q2.out, ?_⟩
            have Q := Q2
            clear Q2
            iterate 2 (refine schedC_pure (v := ?_) rfl (by rfl) ?_ ?_; rotate_left; (focus (intro u hC; obtain ⟨a0, a1, a2, a3, a4, a5, a6, a7, _, _, _, _, _, _, _, _⟩ := full8 (keepB hC DX.out); obtain ⟨r0, r1, r2, r3, r4, r5, r6, r7, _, _, _, _, _, _, _, _⟩ := full8 (keepB hC DR.out); obtain ⟨z0, z1, z2, z3, z4, z5, z6, z7, _, _, _, _, _, _, _, _⟩ := full8 (keepB hC DZ.out); go_simp; try with_reducible rfl)); try go_simp)
            refine schedC_nil (hJ0 _ _ ?_)
            clear hJ0
            go_wp2_with fail
            exact ⟨⟨k + 1, by omega, by go_num, keepB Q.out DX.out, keepB Q.out DR.out, P.out.ext Q.out, ext_trans B.out Q.out⟩, by simp [intOf] <;> omega⟩
    · obtain rfl : k = 2 := by omega
      go_wp2_with fail
      refine (told_c _).mono ?_
      rintro e w7 ⟨rfl, hb⟩
      replace B := Lib.hid (ext_trans B.out hb)
      clear hb
      go_wp2_with fail
      go_ret
      exact ⟨rfl, B.out⟩
#print axioms walkTreeWiths
end Go.Proofs.YtaokfpndplbedaaDoor
