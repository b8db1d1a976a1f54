/-
  TreeNones: the walk.
-/
import Derived.Test.YtaokfpndplbedaaDoorTNil
import Derived.Test.YtaokfpndplbedaaDoorWTreeOthers
namespace Go.Proofs.YtaokfpndplbedaaDoor
open Go.ChangeShapes Go.WideShapes Go.ChangeAt Go.RowKit Go.Deep

set_option maxRecDepth 100000 in
theorem open_u8 {H : Type} {enc : TypeId × Value → H} {t : TypeId} (ht : Tryd.prog.underlying t = some (.int .u8)) {W : World} {base : Nat} {v : Value} {d : DataW H} {p : List MemPlace}
    (hv : Value.okWide Tryd.prog W .any base t v) (h : DataW.Trod enc Tryd.prog W 0 (fun _ => true) true t v d p) : ∃ m : Nat, v = .int .u8 m ∧ m < 256 := by
  obtain ⟨k, rfl, rfl, rfl, hw⟩ := open_int ht hv h
  simp [Lit.wf, IntKind.min, IntKind.max, IntKind.signed, IntKind.bits] at hw
  exact ⟨k.toNat, by congr 1; omega, by omega⟩

set_option maxRecDepth 100000 in

theorem TrAt.keepFrom {w w' : World} {Lo T : Nat} {l : List Nat} (h : TrAt w Lo T l) (hk : ∀ k, Lo ≤ k → k < w.heap.size → w'.heap[k]? = w.heap[k]?) : TrAt w' Lo T l := by
  obtain ⟨cur, g0, c0, g, c, h1, h2, h3, h4, h5, h6, h7, h8⟩ := h.part.ex
  refine ⟨h.small, h.n1, h.n2, h.part.lo, fun e => e.elim, cur, g0, c0, g, c, (hk T h.part.lo h.part.tlt).trans h1, h2, h3, h4.keepFrom hk, h5, fun e => e.elim, fun j hj => ?_, h8⟩
  obtain ⟨q1, q2, q3, q4, _⟩ := h7 j hj
  exact ⟨q1, q2.keepFrom hk, q3, q4, fun e => e.elim⟩
theorem zeros_at (n i : Nat) (hi : i < n) : (madeCells (Value.agg #[.int .u8 0, .int .u8 0, .int .u8 0, .int .u8 0, .int .u8 0, .int .u8 0, .int .u8 0, .int .u8 0]).cells n)[i]? = some (.int .u8 0) := by
  unfold madeCells
  rw [Array.getElem?_map, Array.getElem?_range, if_pos hi, Option.map_some]
  have h8 : i % (Value.agg #[.int .u8 0, .int .u8 0, .int .u8 0, .int .u8 0, .int .u8 0, .int .u8 0, .int .u8 0, .int .u8 0]).cells.size < 8 := Nat.mod_lt _ (by show 0 < 8; omega)
  congr 1
  generalize i % (Value.agg #[.int .u8 0, .int .u8 0, .int .u8 0, .int .u8 0, .int .u8 0, .int .u8 0, .int .u8 0, .int .u8 0]).cells.size = j at h8
  match j, h8 with
  | 0, _ => rfl
  | 1, _ => rfl
  | 2, _ => rfl
  | 3, _ => rfl
  | 4, _ => rfl
  | 5, _ => rfl
  | 6, _ => rfl
  | 7, _ => rfl
  | j + 8, h => exact absurd h (by omega)
theorem byt_zero (i : Nat) : byt 0 i = 0 := by unfold byt; simp
/-- make([]D, n, n), its zeros told -/
theorem wpList_makeZ {w : World} {ops : Array Oper} {rest : List Oper} {o : Oper} {a : Act} {Q : Exit → Act → World → Prop} (hg : o.guard = none) (l k : Operand) (hop : o.op = Op.makeSlice 23 l k) (n : Nat)
    (hl : a.eval l = .int .i64 (n : Int)) (hc : a.eval k = .int .i64 (n : Int)) (hb : n ≤ 1000000000000)
    (h : ∀ w', RowK w' 26 w.heap.size n (fun _ => 0) n → Below w.heap.size w w' → wpList Tryd.prog ops Q rest (a.put o.dst (.slice (some ⟨w.heap.size, 0, none⟩) n n)) w') :
    wpList Tryd.prog ops Q (o :: rest) a w := by
  obtain ⟨i0, hi, hz0, hz1, hz2⟩ := info_parts infoD
  refine wpList_plain hg fun K hK' => ?_
  have hrun := run_make (P := Tryd.prog) w 23 26 i0 _ Tryd.underlying23 hi hz0 .i64 .i64 n n (by omega) (by omega) (by rw [hz2]; omega) (by omega)
  simp only [Int.toNat_natCast, hz1] at hrun
  unfold Oper.wp
  simp [execOp, hop, hl, hc, hrun, Result.andThen]
  refine hK' _ _ (h _ ⟨by omega, _, Go.heap_alloc_new w _, size_madeCells _ _, fun j hj i hi => ?_⟩ (ext_alloc _ _))
  rw [zeros_at _ _ (by omega), byt_zero]
  rfl
/-- bytes in a block, whatever they are -/
structure RowU (w : World) (g m : Nat) : Prop where
  blk : ∃ cur : Array Value, w.heap[g]? = some (.cells cur 26 (0, 0)) ∧ ∀ i, i < m * 8 → ∃ v : Int, cur[i]? = some (.int .u8 v)
theorem RowU.cell {w : World} {g m : Nat} (h : RowU w g m) {i : Nat} (hi : i < m * 8) : (∃ v : Int, w.cell? ⟨g, i, none⟩ = some (.int .u8 v)) ∧ w.frozen? ⟨g, i, none⟩ = false := by
  obtain ⟨cur, h1, h2⟩ := h.blk
  obtain ⟨v, hv⟩ := h2 i hi
  exact ⟨⟨v, by rw [cell_of_row w g i _ _ _ h1]; exact hv⟩, by simp [World.frozen?, h1]⟩
theorem RowU.lt {w : World} {g m : Nat} (h : RowU w g m) : g < w.heap.size := by
  obtain ⟨cur, h1, _⟩ := h.blk
  exact (Array.getElem?_eq_some_iff.1 h1).1
theorem RowU.ext {w w' : World} {g m : Nat} (h : RowU w g m) (hb : Below w.heap.size w w') : RowU w' g m := by
  obtain ⟨cur, h1, h2⟩ := h.blk
  exact ⟨cur, keepB hb h1, h2⟩
theorem RowU.set {w : World} {g m : Nat} (h : RowU w g m) (j : Nat) (u : Int) : RowU (w.setCell ⟨g, j, none⟩ (.int .u8 u)) g m := by
  obtain ⟨cur, h1, h2⟩ := h.blk
  refine ⟨cur.setIfInBounds j (.int .u8 u), heap_set_same _ h1, fun i hi => ?_⟩
  obtain ⟨v, hv⟩ := h2 i hi
  rw [Array.getElem?_setIfInBounds]
  split
  · split
    · exact ⟨u, rfl⟩
    · have := (Array.getElem?_eq_some_iff.1 hv).1; omega
  · exact ⟨v, hv⟩
theorem RowK.rowU {w : World} {b c : Nat} {f : Nat → Nat} {k : Nat} (h : RowK w 26 b c f k) : RowU w b k := by
  obtain ⟨cur, h1, h2, h3⟩ := h.blk
  refine ⟨cur, h1, fun i hi => ?_⟩
  have e := h3 (i / 8) (by omega) (i % 8) (by omega)
  rw [show i / 8 * 8 + i % 8 = i by omega] at e
  exact ⟨_, e⟩
theorem replicate_getD (n j : Nat) : (List.replicate n 0).getD j 0 = 0 := by
  by_cases h : j < n <;> simp [List.getD, h]

set_option maxRecDepth 100000 in
set_option maxHeartbeats 8000000 in
theorem walkTreeNones (w : World) (many : Int) (A : Option Addr) (n c : Nat) (f : Nat → Nat) (by_ : Nat) (_ : -9223372036854775808 ≤ many) (_ : many < 9223372036854775808) (h : RdX w A n c (fun j => .int .u16 (f j))) (hf : ∀ j, j < n → f j < 65536) (_ : by_ < 256) : Calls Tryd.prog 10 #[.int .i64 many, .slice A n c, .int .u8 by_] w (Holds w) := by
  obtain ⟨a, ha⟩ : ∃ a : Nat, IntKind.u64.wrap many = (a : Int) := ⟨(IntKind.u64.wrap many).toNat, by have := wrap_u64_nonneg many; omega⟩
  obtain ⟨r, hr⟩ : ∃ r, r = a % 12 := ⟨_, rfl⟩
  have lr : r < 12 := by rw [hr]; exact Nat.mod_lt _ (by omega)
  have v3 : (a : Int) % 12 = (r : Int) := by rw [hr]; exact (Int.natCast_emod _ _).symm
  have v4 : (a : Int).tmod 12 = (r : Int) := by rw [Int.tmod_eq_emod_of_nonneg (by omega)]; exact v3
  have v5 : IntKind.i64.wrap (r : Int) = (r : Int) := by rw [IntKind.wrap_i64]; omega
  clear hr
  obtain ⟨nn, hnn⟩ : ∃ nn, nn = 4090 + r := ⟨_, rfl⟩
  have e1 : (4090 : Int) + (r : Int) = (nn : Int) := by omega
  have nn1 : 4090 ≤ nn := by omega
  have nn2 : nn ≤ 4101 := by omega
  obtain ⟨m, hm⟩ : ∃ m, m = min n 10 := ⟨_, rfl⟩
  have m10 : m ≤ 10 := by omega
  obtain ⟨l, hl⟩ : ∃ l, l = leavesN f m := ⟨_, rfl⟩
  have SC := Lib.hid (fun v hv => some_c v A n c f 10 (Lib.hid (h.ext hv)) hf (by omega))
  rw [← hm, ← hl] at SC
  have EZ := neq_d (n := 0) (m := 0) (by omega) (by omega)
  rw [decide_eq_true rfl, Bool.not_true, ← dig_zero] at EZ
  have GZ := guard_d .neq 0 0
  rw [← dig_zero] at GZ
  clear hm hl h hf hnn
  go_enter Tryd.func10, Tryd.ntmps10
  go_wp2_with (refine wpList_makeZ (o := ⟨some 37, _, _, _, _, _⟩) rfl (.tmp 36) (.tmp 36) rfl nn (by rfl) (by rfl) (by omega) ?_; intro v1 hr hb; have RK := Lib.hid hr; have B := Lib.hid hb; clear hr hb; go_simp)
  have RZ : Hid (RdD v1 (some ⟨w.heap.size, 0, none⟩) nn nn (List.replicate nn 0)) := (RK.out.own (Nat.le_refl _) (Nat.zero_le _) (List.replicate nn 0) (by simp) (fun j _ => (replicate_getD nn j).symm) (fun z hz => by rw [List.eq_of_mem_replicate hz]; omega)).rd
  clear RK
  have R0 : treeN [] 0 = treeN [] 0 := rfl
  clear R0
  by_cases h4 : nn ≤ 4096
  · have h4I : (nn : Int) ≤ 4096 := by omega
    refine (new_ok v1 w.heap.size 0 nn nn _ RZ (by omega) h4).mono ?_
    rintro e v2 ⟨T0, rfl, hT0, hb⟩
    replace B := Lib.hid (ext_trans B.out hb)
    clear hb RZ hT0
    go_wp2_with fail
    refine (root_no _ none 0 0 (by omega) (by omega)).mono ?_
    unfold digV
    rintro e v3 ⟨rfl, hb⟩
    replace B := Lib.hid (ext_trans B.out hb)
    clear hb
    go_upto_region 4 with fail
    replace B : Hid (Below w.heap.size w (World.alloc v3 (.cells #[.int .u8 (byt 0 0), .int .u8 (byt 0 1), .int .u8 (byt 0 2), .int .u8 (byt 0 3), .int .u8 (byt 0 4), .int .u8 (byt 0 5), .int .u8 (byt 0 6), .int .u8 (byt 0 7)] 26))) := ext_trans B.out (ext_alloc _ _)
    generalize World.alloc v3 (.cells #[.int .u8 (byt 0 0), .int .u8 (byt 0 1), .int .u8 (byt 0 2), .int .u8 (byt 0 3), .int .u8 (byt 0 4), .int .u8 (byt 0 5), .int .u8 (byt 0 6), .int .u8 (byt 0 7)] 26) = V3 at *
    go_wp2_with fail
    refine (path_no _ none 0 0 0 (by omega) (by omega)).mono ?_
    rintro e v4 ⟨A4, c4, rfl, hO4, hb⟩
    replace B := Lib.hid (ext_trans B.out hb)
    clear hb hO4
    go_wp2_with fail
    refine (pathm_nil _ 0).mono ?_
    rintro e v5 ⟨A5, c5, rfl, hO5, hb⟩
    replace B := Lib.hid (ext_trans B.out hb)
    clear hb hO5
    go_wp2_with fail
    refine (leaf_nil _ 0).mono ?_
    unfold digV
    rintro e v6 ⟨rfl, hb⟩
    replace B := Lib.hid (ext_trans B.out hb)
    clear hb
    go_wp2_with fail
    refine (told_c _).mono ?_
    rintro e v7 ⟨rfl, hb⟩
    replace B : Hid (Below w.heap.size w (World.alloc v6 (.cells #[.int .u8 (byt 0 0), .int .u8 (byt 0 1), .int .u8 (byt 0 2), .int .u8 (byt 0 3), .int .u8 (byt 0 4), .int .u8 (byt 0 5), .int .u8 (byt 0 6), .int .u8 (byt 0 7)] 26))) := ext_trans B.out (ext_alloc _ _)
    replace B := Lib.hid (ext_trans B.out hb)
    clear hb
    go_wp2_with fail
    rw [dig_zero]
    refine (set_nil _ 0 0).mono ?_
    rw [← dig_zero]
    rintro e v8 ⟨rfl, hb⟩
    replace B := Lib.hid (ext_trans B.out hb)
    clear hb
    go_wp2_with fail
    refine (len_nil _).mono ?_
    rintro e v9 ⟨rfl, rfl⟩
    go_wp2_with fail
    refine (rootm_nil _).mono ?_
    rw [← dig_zero]
    rintro e v10 ⟨rfl, hb⟩
    replace B := Lib.hid (ext_trans B.out hb)
    clear hb
    go_wp2_with fail
    refine (clone_nil _).mono ?_
    rintro e v11 ⟨rfl, rfl⟩
    go_wp2_with fail
    refine (same_nil _).mono ?_
    rintro e v12 ⟨rfl, rfl⟩
    go_wp2_with fail
    refine (height_c _ nn (by omega)).mono ?_
    rintro e v13 ⟨rfl, rfl⟩
    go_wp2_with fail
    refine (rheight_c _ nn (by omega)).mono ?_
    rintro e v14 ⟨rfl, rfl⟩
    go_wp2_with fail
    refine (height_c _ 0 (by omega)).mono ?_
    rw [show heightI 0 = -1 from rfl]
    rintro e v15 ⟨rfl, rfl⟩
    go_wp2_with fail
    refine (SC.out _ B.out).mono ?_
    rintro e w1 ⟨A1, c1, rfl, hO, hb⟩
    have O := Lib.hid hO
    have B1s := Lib.hid B.out.size
    replace B := Lib.hid (ext_trans B.out hb)
    clear hO hb SC EZ GZ
    by_cases hm0 : m = 0
    · subst hm0
      go_wp2_with fail
      refine (new_no _ A1 0 c1 (by omega) (by omega)).mono ?_
      rintro e w2 ⟨rfl, rfl⟩
      go_wp2_with fail
      go_ret
      exact ⟨rfl, B.out⟩
    · have gm : 1 ≤ m := by omega
      obtain ⟨b, rfl, hbW, hb1, hmc⟩ := O.out.block (by omega)
      have hbw : w.heap.size ≤ b := Nat.le_trans B1s.out hbW
      have HLl := Lib.hid O.out.len
      obtain ⟨H, hH⟩ : ∃ H, H = hgt m := ⟨_, rfl⟩
      have HHg : Hid (hgt l.length = H) := by show _ = _; rw [HLl.out, hH]
      have H12 : H ≤ 12 := by rw [hH]; exact hgt_le (by omega)
      have HGE : m ≤ 2 ^ H := by rw [hH]; exact hgt_ge m
      have RU := Lib.hid O.out.rowK.1.rowU
      clear hH
      go_wp2_with fail
      refine (new_ok _ b 0 m c1 l (Lib.hid O.out.rd) (by omega) (by omega)).mono ?_
      rintro e w2 ⟨T, rfl, hT, hb⟩
      have TA := Lib.hid hT
      obtain ⟨Lo, hLo⟩ : ∃ Lo, Lo = w1.heap.size := ⟨_, rfl⟩
      rw [← hLo] at TA
      have bLo : b < Lo := by omega
      have LoW : w.heap.size ≤ Lo := by omega
      clear hLo
      replace RU := Lib.hid (RU.out.ext hb)
      replace B := Lib.hid (ext_trans B.out hb)
      clear hT hb O
      obtain ⟨y, hy⟩ : ∃ y, y = treeN l H := ⟨_, rfl⟩
      have HY := Lib.hid hy
      have HSm : Hid (Small l) := TA.out.small
      have ly : y < 18446744073709551616 := by rw [hy]; exact treeN_lt HSm.out _
      have E1 := eql_d ly ly
      rw [decide_eq_true rfl] at E1
      have G1 := guard_d .eql y y
      unfold digV at E1 G1
      obtain ⟨d, hd⟩ : ∃ d, d = l.getD 0 0 := ⟨_, rfl⟩
      have ld : d < 18446744073709551616 := by rw [hd]; exact small_getD HSm.out _
      obtain ⟨p, hp⟩ : ∃ p, p = pathN l 0 H := ⟨_, rfl⟩
      have HP := Lib.hid hp
      have HD := Lib.hid hd
      have HPL : Hid (p.length = H) := by show _ = _; rw [hp]; exact pathN_len _ _ _
      have Y1 : Hid (((comes 0 d p).2 && decide ((comes 0 d p).1 = y)) = true) := by
        show _ = _
        have e := comes_at (i := 0) (x := d) HPL.out H12 (Nat.pow_pos (by omega))
        rw [show ((0 : Nat) : Int) = 0 from rfl] at e
        have q := with_path (l := l) (i := 0) (H := H) (by rw [HLl.out]; omega) (by rw [HLl.out]; exact HGE)
        rw [e, hp, hd, q, hy]
        simp
      clear hy hd hp
      go_wp2_with fail
      refine (rootm_c _ Lo T l TA).mono ?_
      rw [HHg.out, ← HY.out]
      unfold digV
      rintro e w3 ⟨rfl, hb⟩
      replace TA := Lib.hid (TA.out.ext hb)
      replace RU := Lib.hid (RU.out.ext hb)
      replace B := Lib.hid (ext_trans B.out hb)
      clear hb
      go_upto_region 15 with fail
      obtain ⟨g, hg⟩ : ∃ g, g = w3.heap.size := ⟨_, rfl⟩
      have DY : Hid ((World.alloc w3 (.cells #[.int .u8 (byt y 0), .int .u8 (byt y 1), .int .u8 (byt y 2), .int .u8 (byt y 3), .int .u8 (byt y 4), .int .u8 (byt y 5), .int .u8 (byt y 6), .int .u8 (byt y 7)] 26)).heap[g]? = some (.cells #[.int .u8 (byt y 0), .int .u8 (byt y 1), .int .u8 (byt y 2), .int .u8 (byt y 3), .int .u8 (byt y 4), .int .u8 (byt y 5), .int .u8 (byt y 6), .int .u8 (byt y 7)] 26 (0, 0))) := by rw [hg]; exact Go.heap_alloc_new w3 _
      have gb : g ≠ b := by have := RU.out.lt; omega
      replace TA : Hid (TrAt (World.alloc w3 (.cells #[.int .u8 (byt y 0), .int .u8 (byt y 1), .int .u8 (byt y 2), .int .u8 (byt y 3), .int .u8 (byt y 4), .int .u8 (byt y 5), .int .u8 (byt y 6), .int .u8 (byt y 7)] 26)) Lo T l) := TA.out.ext (ext_alloc _ _)
      replace RU : Hid (RowU (World.alloc w3 (.cells #[.int .u8 (byt y 0), .int .u8 (byt y 1), .int .u8 (byt y 2), .int .u8 (byt y 3), .int .u8 (byt y 4), .int .u8 (byt y 5), .int .u8 (byt y 6), .int .u8 (byt y 7)] 26)) b m) := RU.out.ext (ext_alloc _ _)
      replace B : Hid (Below w.heap.size w (World.alloc w3 (.cells #[.int .u8 (byt y 0), .int .u8 (byt y 1), .int .u8 (byt y 2), .int .u8 (byt y 3), .int .u8 (byt y 4), .int .u8 (byt y 5), .int .u8 (byt y 6), .int .u8 (byt y 7)] 26))) := ext_trans B.out (ext_alloc _ _)
      rw [← hg]
      clear hg
      generalize World.alloc w3 (.cells #[.int .u8 (byt y 0), .int .u8 (byt y 1), .int .u8 (byt y 2), .int .u8 (byt y 3), .int .u8 (byt y 4), .int .u8 (byt y 5), .int .u8 (byt y 6), .int .u8 (byt y 7)] 26) = W at *
      obtain ⟨⟨cv, cc⟩, cf⟩ := RU.out.cell (i := 5) (by omega)
      have bl := RU.out.lt
      have CC := Lib.hid cc
      clear cc cf
      have m0I : (0 : Int) < (m : Int) := by omega
      have m0N : 0 < m := by omega
      obtain ⟨sv, hsv⟩ : ∃ s, IntKind.u8.wrap (cv + (by_ : Int)) = s := ⟨_, rfl⟩
      refine wp_region_schedF (fin := 9) (fun u => Below W.heap.size W u) [(true, 0), (true, 1), (true, 2), (true, 3), (true, 4), (true, 5), (true, 6), (false, 7), (true, 8), (false, 9)] (by kernel_rfl) rfl (by kernel_rfl) (by kernel_rfl) (by kernel_rfl) (fun _ _ d _ _ h => by cases d <;> exact h) (ext_drew W) ?_
      intro J0 hJ0
      iterate 7 (refine schedF_pure (v := ?_) rfl (by rfl) ?_ ?_; rotate_left; (focus (intro u hC; have c5 := (hC.cell (p := ⟨b, 5, none⟩) bl).trans CC.out; go_simp; try with_reducible rfl)); try go_simp)
      refine schedF_eff rfl ?_
      intro J hJ
      go_wp2_with fail
      refine ⟨fun _ => ext_drew W, ?_⟩
      iterate 1 (refine schedF_pure (v := ?_) rfl (by rfl) ?_ ?_; rotate_left; (focus (intro u hC; go_simp; try with_reducible rfl)); try go_simp)
      have Q : Hid (Below W.heap.size W W.drew) := Lib.hid (ext_drew W)
      obtain ⟨V, hV⟩ : ∃ V, V = W.drew := ⟨_, rfl⟩
      rw [← hV] at Q ⊢
      clear hV hsv
      replace TA := Lib.hid (TA.out.ext Q.out)
      replace RU := Lib.hid (RU.out.ext Q.out)
      replace DY := Lib.hid (keepB Q.out DY.out)
      replace B := Lib.hid (ext_trans B.out Q.out)
      obtain ⟨⟨cv2, cc2⟩, cf2⟩ := RU.out.cell (i := 5) (by omega)
      refine schedF_eff rfl ?_
      intro J hJ
      go_wp2_with fail
      first | refine hJ0 _ _ ?_ | (refine ⟨by first | exact fun h => absurd rfl h | trivial, ?_⟩; refine schedF_nil (hJ0 _ _ ?_))
      have TA1 : Hid (TrAt (V.setCell ⟨b, 5, none⟩ (.int .u8 sv)) Lo T l) := TA.out.keepFrom (fun k hk _ => Below.heap_setCell _ _ _ _ (show k ≠ b by omega))
      have DY1 : Hid ((V.setCell ⟨b, 5, none⟩ (.int .u8 sv)).heap[g]? = some (.cells #[.int .u8 (byt y 0), .int .u8 (byt y 1), .int .u8 (byt y 2), .int .u8 (byt y 3), .int .u8 (byt y 4), .int .u8 (byt y 5), .int .u8 (byt y 6), .int .u8 (byt y 7)] 26 (0, 0))) := (Below.heap_setCell _ _ _ _ gb).trans DY.out
      have BB1 : Hid (Below w.heap.size w (V.setCell ⟨b, 5, none⟩ (.int .u8 sv))) := below_set B.out (Nat.le_refl _) hbw
      clear hJ0 Q TA RU DY B cc2 cf2
      obtain ⟨X, hX⟩ : ∃ X, X = V.setCell ⟨b, 5, none⟩ (.int .u8 sv) := ⟨_, rfl⟩
      rw [← hX] at TA1 DY1 BB1 ⊢
      clear hX
      have l0 : 0 < l.length := by rw [HLl.out]; omega
      go_wp2_with fail
      refine (pathm_ok _ Lo T l 0 TA1 l0).mono ?_
      rw [HHg.out, ← HP.out]
      unfold Paths
      rw [HPL.out]
      rintro e w5 ⟨A6, c6, rfl, hO6, hb⟩
      have B6 := Lib.hid hb
      have G6 : Hid (0 < H → ∃ g7, A6 = some ⟨g7, 0, none⟩ ∧ X.heap.size ≤ g7 ∧ RowU w5 g7 H) := fun h0 => by
        obtain ⟨g7, rfl, k1, k2, k3⟩ := hO6.block h0
        exact ⟨g7, rfl, k1, hO6.rowK.1.rowU⟩
      clear hO6 hb
      go_wp2_with fail
      go_loopw [25] (fun iv wr => ∃ k : Nat, k ≤ H ∧ iv = .int .i64 k ∧ Hid (0 < H → ∃ g7, A6 = some ⟨g7, 0, none⟩ ∧ X.heap.size ≤ g7 ∧ RowU wr g7 H) ∧ Hid (Below X.heap.size X wr)) (fun iv _ => H - (intOf iv).toNat)
      case atStart => exact ⟨0, Nat.zero_le _, rfl, G6.out, B6.out⟩
      case round =>
        clear G6 B6
        obtain ⟨k, hk, rfl, G6, B6⟩ := hrel
        by_cases hlt : k < H
        · obtain ⟨g7, hA7, hg7, RU7'⟩ := G6.out (by omega)
          subst hA7
          have RU7 := Lib.hid RU7'
          obtain ⟨⟨v7, cc7⟩, _⟩ := RU7'.cell (i := k * 8) (by omega)
          have CC7 := Lib.hid cc7
          have gl7 := RU7'.lt
          have kI : (k : Int) < (H : Int) := by omega
          have kI0 : (0 : Int) ≤ (k : Int) := by omega
          obtain ⟨sv7, hsv7⟩ : ∃ s, IntKind.u8.wrap (v7 + (by_ : Int)) = s := ⟨_, rfl⟩
          clear cc7 RU7' G6
          go_upto_region 20 with fail
          refine wp_region_schedF (fin := 11) (fun u => Below wr.heap.size wr u) [(true, 0), (true, 1), (true, 2), (true, 3), (true, 4), (true, 5), (true, 6), (true, 7), (true, 8), (false, 9), (true, 10), (false, 11)] (by kernel_rfl) rfl (by kernel_rfl) (by kernel_rfl) (by kernel_rfl) (fun _ _ d _ _ h => by cases d <;> exact h) (ext_drew wr) ?_
          intro J0 hJ0
          iterate 9 (refine schedF_pure (v := ?_) rfl (by rfl) ?_ ?_; rotate_left; (focus (intro u hC; have c5 := (hC.cell (p := ⟨g7, k * 8, none⟩) gl7).trans CC7.out; go_simp; try with_reducible rfl)); try go_simp)
          refine schedF_eff rfl ?_
          intro J hJ
          go_wp2_with fail
          refine ⟨fun _ => ext_drew wr, ?_⟩
          iterate 1 (refine schedF_pure (v := ?_) rfl (by rfl) ?_ ?_; rotate_left; (focus (intro u hC; go_simp; try with_reducible rfl)); try go_simp)
          have Q : Hid (Below wr.heap.size wr wr.drew) := Lib.hid (ext_drew wr)
          obtain ⟨V7, hV⟩ : ∃ V, V = wr.drew := ⟨_, rfl⟩
          rw [← hV] at Q ⊢
          clear hV hsv7
          replace RU7 := Lib.hid (RU7.out.ext Q.out)
          replace B6 := Lib.hid (ext_trans B6.out Q.out)
          obtain ⟨⟨cv2, cc2⟩, cf2⟩ := RU7.out.cell (i := k * 8) (by omega)
          refine schedF_eff rfl ?_
          intro J hJ
          go_wp2_with fail
          first | refine hJ0 _ _ ?_ | (refine ⟨by first | exact fun h => absurd rfl h | trivial, ?_⟩; refine schedF_nil (hJ0 _ _ ?_))
          clear hJ0 cc2 cf2
          go_wp2_with fail
          exact ⟨⟨k + 1, by omega, by go_num, fun _ => ⟨g7, rfl, hg7, RU7.out.set _ _⟩, below_set B6.out (Nat.le_refl _) hg7⟩, by simp [intOf]; omega⟩
        · obtain rfl : k = H := by omega
          have hI : ¬ (k : Int) < (k : Int) := by omega
          have TA2 := Lib.hid (TA1.out.ext B6.out)
          have DY2 := Lib.hid (keepB B6.out DY1.out)
          have BB2 := Lib.hid (ext_trans BB1.out B6.out)
          clear TA1 DY1 BB1 G6 B6
          go_wp2_with fail
          refine (pathm_ok _ Lo T l 0 TA2 l0).mono ?_
          rw [HHg.out, ← HP.out]
          unfold Paths
          rw [HPL.out]
          rintro e w6 ⟨A8, c8, rfl, hO8, hb⟩
          have P8 := Lib.hid hO8.rd
          replace TA2 := Lib.hid (TA2.out.ext hb)
          replace DY2 := Lib.hid (keepB hb DY2.out)
          replace BB2 := Lib.hid (ext_trans BB2.out hb)
          clear hb hO8
          go_wp2_with fail
          refine (leaf_ok _ Lo T l 0 TA2 l0).mono ?_
          rw [← HD.out]
          unfold digV
          rintro e w7 ⟨rfl, hb⟩
          replace P8 := Lib.hid (P8.out.ext hb)
          replace TA2 := Lib.hid (TA2.out.ext hb)
          replace DY2 := Lib.hid (keepB hb DY2.out)
          replace BB2 := Lib.hid (ext_trans BB2.out hb)
          clear hb
          go_upto_region 23 with fail
          obtain ⟨gd, hgd⟩ : ∃ g, g = w7.heap.size := ⟨_, rfl⟩
          obtain ⟨U, hU⟩ : ∃ U, U = World.alloc w7 (.cells #[.int .u8 (byt d 0), .int .u8 (byt d 1), .int .u8 (byt d 2), .int .u8 (byt d 3), .int .u8 (byt d 4), .int .u8 (byt d 5), .int .u8 (byt d 6), .int .u8 (byt d 7)] 26) := ⟨_, rfl⟩
          have DD2 : Hid (U.heap[gd]? = some (.cells #[.int .u8 (byt d 0), .int .u8 (byt d 1), .int .u8 (byt d 2), .int .u8 (byt d 3), .int .u8 (byt d 4), .int .u8 (byt d 5), .int .u8 (byt d 6), .int .u8 (byt d 7)] 26 (0, 0))) := by rw [hU, hgd]; exact Go.heap_alloc_new w7 _
          have DYU : Hid (U.heap[g]? = some (.cells #[.int .u8 (byt y 0), .int .u8 (byt y 1), .int .u8 (byt y 2), .int .u8 (byt y 3), .int .u8 (byt y 4), .int .u8 (byt y 5), .int .u8 (byt y 6), .int .u8 (byt y 7)] 26 (0, 0))) := by rw [hU]; exact keepA DY2.out
          have TAU : Hid (TrAt U Lo T l) := by rw [hU]; exact TA2.out.ext (ext_alloc _ _)
          have PU : Hid (RdD U A8 k c8 p) := by rw [hU]; exact P8.out.ext (ext_alloc _ _)
          have BU : Hid (Below w.heap.size w U) := by rw [hU]; exact ext_trans BB2.out (ext_alloc _ _)
          rw [← hU, ← hgd]
          clear hU hgd P8 TA2 DY2 BB2
          refine wp_region_schedC (fun u => Below U.heap.size U u) [(true, 0), (true, 2), (false, 1), (true, 3), (true, 4), (true, 5), (true, 6), (true, 7), (false, 8), (true, 9), (true, 10)] (by kernel_rfl) rfl (by kernel_rfl) (by kernel_rfl) (fun _ _ d _ _ h => by cases d <;> exact h) (ext_drew U) ?_
          intro J0 hJ0
          have Q : Hid (Below U.heap.size U U.drew) := ext_drew U
          iterate 2 (refine schedC_pure (v := ?_) rfl (by rfl) ?_ ?_; rotate_left; (focus (intro u hC; obtain ⟨y0, y1, y2, y3, y4, y5, y6, y7, _, _, _, _, _, _, _, _⟩ := full8 (keepB hC DYU.out); obtain ⟨z0, z1, z2, z3, z4, z5, z6, z7, _, _, _, _, _, _, _, _⟩ := full8 (keepB hC DD2.out); go_simp; try with_reducible rfl)); try go_simp)
          refine schedC_eff rfl ?_
          intro J hJ
          go_wp2_with fail
          refine (rootm_c _ Lo T l (Lib.hid (TAU.out.ext Q.out))).mono ?_
          rw [HHg.out, ← HY.out]
          unfold digV
          rintro e v9 ⟨rfl, hb⟩
          have Q2 : Hid (Below U.heap.size U v9) := Lib.hid (ext_trans Q.out hb)
          clear hb Q
          go_wp2_with fail
          refine ⟨Q2.out, ?_⟩
          have Q := Q2
          clear Q2
          refine schedC_pure (v := .bool true) rfl (by rfl) (fun u hC => exec_run rfl rfl rfl (G1 _ _ u) (E1 u)) ?_
          try go_simp
          iterate 4 (refine schedC_pure (v := ?_) rfl (by rfl) ?_ ?_; rotate_left; (focus (intro u hC; obtain ⟨y0, y1, y2, y3, y4, y5, y6, y7, _, _, _, _, _, _, _, _⟩ := full8 (keepB hC DYU.out); obtain ⟨z0, z1, z2, z3, z4, z5, z6, z7, _, _, _, _, _, _, _, _⟩ := full8 (keepB hC DD2.out); go_simp; try with_reducible rfl)); try go_simp)
          refine schedC_eff rfl ?_
          intro J hJ
          go_wp2_with fail
          rw [← show digV y = .agg #[.int .u8 (byt y 0), .int .u8 (byt y 1), .int .u8 (byt y 2), .int .u8 (byt y 3), .int .u8 (byt y 4), .int .u8 (byt y 5), .int .u8 (byt y 6), .int .u8 (byt y 7)] from rfl, ← show digV d = .agg #[.int .u8 (byt d 0), .int .u8 (byt d 1), .int .u8 (byt d 2), .int .u8 (byt d 3), .int .u8 (byt d 4), .int .u8 (byt d 5), .int .u8 (byt d 6), .int .u8 (byt d 7)] from rfl]
          refine (check_c _ y ly 0 d ld A8 k c8 p (Lib.hid (PU.out.ext Q.out))).mono ?_
          rw [Y1.out]
          rintro e v9 ⟨rfl, hb⟩
          have Q2 : Hid (Below U.heap.size U v9) := Lib.hid (ext_trans Q.out hb)
          clear hb Q
          go_wp2_with fail
          refine ⟨Q2.out, ?_⟩
          have Q := Q2
          clear Q2
          iterate 2 (refine schedC_pure (v := ?_) rfl (by rfl) ?_ ?_; rotate_left; (focus (intro u hC; obtain ⟨y0, y1, y2, y3, y4, y5, y6, y7, _, _, _, _, _, _, _, _⟩ := full8 (keepB hC DYU.out); obtain ⟨z0, z1, z2, z3, z4, z5, z6, z7, _, _, _, _, _, _, _, _⟩ := full8 (keepB hC DD2.out); go_simp; try with_reducible rfl)); try go_simp)
          refine schedC_nil (hJ0 _ _ ?_)
          clear hJ0
          go_wp2_with fail
          go_ret
          exact ⟨rfl, ext_trans BU.out Q.out⟩
  · have h4I : ¬ (nn : Int) ≤ 4096 := by omega
    refine (new_no v1 _ nn nn (by omega) (by omega)).mono ?_
    rintro e v2 ⟨rfl, rfl⟩
    clear RZ
    go_wp2_with fail
    refine (root_no _ none 0 0 (by omega) (by omega)).mono ?_
    unfold digV
    rintro e v3 ⟨rfl, hb⟩
    replace B := Lib.hid (ext_trans B.out hb)
    clear hb
    go_upto_region 4 with fail
    replace B : Hid (Below w.heap.size w (World.alloc v3 (.cells #[.int .u8 (byt 0 0), .int .u8 (byt 0 1), .int .u8 (byt 0 2), .int .u8 (byt 0 3), .int .u8 (byt 0 4), .int .u8 (byt 0 5), .int .u8 (byt 0 6), .int .u8 (byt 0 7)] 26))) := ext_trans B.out (ext_alloc _ _)
    generalize World.alloc v3 (.cells #[.int .u8 (byt 0 0), .int .u8 (byt 0 1), .int .u8 (byt 0 2), .int .u8 (byt 0 3), .int .u8 (byt 0 4), .int .u8 (byt 0 5), .int .u8 (byt 0 6), .int .u8 (byt 0 7)] 26) = V3 at *
    go_wp2_with fail
    refine (path_no _ none 0 0 0 (by omega) (by omega)).mono ?_
    rintro e v4 ⟨A4, c4, rfl, hO4, hb⟩
    replace B := Lib.hid (ext_trans B.out hb)
    clear hb hO4
    go_wp2_with fail
    refine (pathm_nil _ 0).mono ?_
    rintro e v5 ⟨A5, c5, rfl, hO5, hb⟩
    replace B := Lib.hid (ext_trans B.out hb)
    clear hb hO5
    go_wp2_with fail
    refine (leaf_nil _ 0).mono ?_
    unfold digV
    rintro e v6 ⟨rfl, hb⟩
    replace B := Lib.hid (ext_trans B.out hb)
    clear hb
    go_wp2_with fail
    refine (told_c _).mono ?_
    rintro e v7 ⟨rfl, hb⟩
    replace B : Hid (Below w.heap.size w (World.alloc v6 (.cells #[.int .u8 (byt 0 0), .int .u8 (byt 0 1), .int .u8 (byt 0 2), .int .u8 (byt 0 3), .int .u8 (byt 0 4), .int .u8 (byt 0 5), .int .u8 (byt 0 6), .int .u8 (byt 0 7)] 26))) := ext_trans B.out (ext_alloc _ _)
    replace B := Lib.hid (ext_trans B.out hb)
    clear hb
    go_wp2_with fail
    rw [dig_zero]
    refine (set_nil _ 0 0).mono ?_
    rw [← dig_zero]
    rintro e v8 ⟨rfl, hb⟩
    replace B := Lib.hid (ext_trans B.out hb)
    clear hb
    go_wp2_with fail
    refine (len_nil _).mono ?_
    rintro e v9 ⟨rfl, rfl⟩
    go_wp2_with fail
    refine (rootm_nil _).mono ?_
    rw [← dig_zero]
    rintro e v10 ⟨rfl, hb⟩
    replace B := Lib.hid (ext_trans B.out hb)
    clear hb
    go_wp2_with fail
    refine (clone_nil _).mono ?_
    rintro e v11 ⟨rfl, rfl⟩
    go_wp2_with fail
    refine (same_nil _).mono ?_
    rintro e v12 ⟨rfl, rfl⟩
    go_wp2_with fail
    refine (height_c _ nn (by omega)).mono ?_
    rintro e v13 ⟨rfl, rfl⟩
    go_wp2_with fail
    refine (rheight_c _ nn (by omega)).mono ?_
    rintro e v14 ⟨rfl, rfl⟩
    go_wp2_with fail
    refine (height_c _ 0 (by omega)).mono ?_
    rw [show heightI 0 = -1 from rfl]
    rintro e v15 ⟨rfl, rfl⟩
    go_wp2_with fail
    refine (SC.out _ B.out).mono ?_
    rintro e w1 ⟨A1, c1, rfl, hO, hb⟩
    have O := Lib.hid hO
    have B1s := Lib.hid B.out.size
    replace B := Lib.hid (ext_trans B.out hb)
    clear hO hb SC EZ GZ
    by_cases hm0 : m = 0
    · subst hm0
      go_wp2_with fail
      refine (new_no _ A1 0 c1 (by omega) (by omega)).mono ?_
      rintro e w2 ⟨rfl, rfl⟩
      go_wp2_with fail
      go_ret
      exact ⟨rfl, B.out⟩
    · have gm : 1 ≤ m := by omega
      obtain ⟨b, rfl, hbW, hb1, hmc⟩ := O.out.block (by omega)
      have hbw : w.heap.size ≤ b := Nat.le_trans B1s.out hbW
      have HLl := Lib.hid O.out.len
      obtain ⟨H, hH⟩ : ∃ H, H = hgt m := ⟨_, rfl⟩
      have HHg : Hid (hgt l.length = H) := by show _ = _; rw [HLl.out, hH]
      have H12 : H ≤ 12 := by rw [hH]; exact hgt_le (by omega)
      have HGE : m ≤ 2 ^ H := by rw [hH]; exact hgt_ge m
      have RU := Lib.hid O.out.rowK.1.rowU
      clear hH
      go_wp2_with fail
      refine (new_ok _ b 0 m c1 l (Lib.hid O.out.rd) (by omega) (by omega)).mono ?_
      rintro e w2 ⟨T, rfl, hT, hb⟩
      have TA := Lib.hid hT
      obtain ⟨Lo, hLo⟩ : ∃ Lo, Lo = w1.heap.size := ⟨_, rfl⟩
      rw [← hLo] at TA
      have bLo : b < Lo := by omega
      have LoW : w.heap.size ≤ Lo := by omega
      clear hLo
      replace RU := Lib.hid (RU.out.ext hb)
      replace B := Lib.hid (ext_trans B.out hb)
      clear hT hb O
      obtain ⟨y, hy⟩ : ∃ y, y = treeN l H := ⟨_, rfl⟩
      have HY := Lib.hid hy
      have HSm : Hid (Small l) := TA.out.small
      have ly : y < 18446744073709551616 := by rw [hy]; exact treeN_lt HSm.out _
      have E1 := eql_d ly ly
      rw [decide_eq_true rfl] at E1
      have G1 := guard_d .eql y y
      unfold digV at E1 G1
      obtain ⟨d, hd⟩ : ∃ d, d = l.getD 0 0 := ⟨_, rfl⟩
      have ld : d < 18446744073709551616 := by rw [hd]; exact small_getD HSm.out _
      obtain ⟨p, hp⟩ : ∃ p, p = pathN l 0 H := ⟨_, rfl⟩
      have HP := Lib.hid hp
      have HD := Lib.hid hd
      have HPL : Hid (p.length = H) := by show _ = _; rw [hp]; exact pathN_len _ _ _
      have Y1 : Hid (((comes 0 d p).2 && decide ((comes 0 d p).1 = y)) = true) := by
        show _ = _
        have e := comes_at (i := 0) (x := d) HPL.out H12 (Nat.pow_pos (by omega))
        rw [show ((0 : Nat) : Int) = 0 from rfl] at e
        have q := with_path (l := l) (i := 0) (H := H) (by rw [HLl.out]; omega) (by rw [HLl.out]; exact HGE)
        rw [e, hp, hd, q, hy]
        simp
      clear hy hd hp
      go_wp2_with fail
      refine (rootm_c _ Lo T l TA).mono ?_
      rw [HHg.out, ← HY.out]
      unfold digV
      rintro e w3 ⟨rfl, hb⟩
      replace TA := Lib.hid (TA.out.ext hb)
      replace RU := Lib.hid (RU.out.ext hb)
      replace B := Lib.hid (ext_trans B.out hb)
      clear hb
      go_upto_region 15 with fail
      obtain ⟨g, hg⟩ : ∃ g, g = w3.heap.size := ⟨_, rfl⟩
      have DY : Hid ((World.alloc w3 (.cells #[.int .u8 (byt y 0), .int .u8 (byt y 1), .int .u8 (byt y 2), .int .u8 (byt y 3), .int .u8 (byt y 4), .int .u8 (byt y 5), .int .u8 (byt y 6), .int .u8 (byt y 7)] 26)).heap[g]? = some (.cells #[.int .u8 (byt y 0), .int .u8 (byt y 1), .int .u8 (byt y 2), .int .u8 (byt y 3), .int .u8 (byt y 4), .int .u8 (byt y 5), .int .u8 (byt y 6), .int .u8 (byt y 7)] 26 (0, 0))) := by rw [hg]; exact Go.heap_alloc_new w3 _
      have gb : g ≠ b := by have := RU.out.lt; omega
      replace TA : Hid (TrAt (World.alloc w3 (.cells #[.int .u8 (byt y 0), .int .u8 (byt y 1), .int .u8 (byt y 2), .int .u8 (byt y 3), .int .u8 (byt y 4), .int .u8 (byt y 5), .int .u8 (byt y 6), .int .u8 (byt y 7)] 26)) Lo T l) := TA.out.ext (ext_alloc _ _)
      replace RU : Hid (RowU (World.alloc w3 (.cells #[.int .u8 (byt y 0), .int .u8 (byt y 1), .int .u8 (byt y 2), .int .u8 (byt y 3), .int .u8 (byt y 4), .int .u8 (byt y 5), .int .u8 (byt y 6), .int .u8 (byt y 7)] 26)) b m) := RU.out.ext (ext_alloc _ _)
      replace B : Hid (Below w.heap.size w (World.alloc w3 (.cells #[.int .u8 (byt y 0), .int .u8 (byt y 1), .int .u8 (byt y 2), .int .u8 (byt y 3), .int .u8 (byt y 4), .int .u8 (byt y 5), .int .u8 (byt y 6), .int .u8 (byt y 7)] 26))) := ext_trans B.out (ext_alloc _ _)
      rw [← hg]
      clear hg
      generalize World.alloc w3 (.cells #[.int .u8 (byt y 0), .int .u8 (byt y 1), .int .u8 (byt y 2), .int .u8 (byt y 3), .int .u8 (byt y 4), .int .u8 (byt y 5), .int .u8 (byt y 6), .int .u8 (byt y 7)] 26) = W at *
      obtain ⟨⟨cv, cc⟩, cf⟩ := RU.out.cell (i := 5) (by omega)
      have bl := RU.out.lt
      have CC := Lib.hid cc
      clear cc cf
      have m0I : (0 : Int) < (m : Int) := by omega
      have m0N : 0 < m := by omega
      obtain ⟨sv, hsv⟩ : ∃ s, IntKind.u8.wrap (cv + (by_ : Int)) = s := ⟨_, rfl⟩
      refine wp_region_schedF (fin := 9) (fun u => Below W.heap.size W u) [(true, 0), (true, 1), (true, 2), (true, 3), (true, 4), (true, 5), (true, 6), (false, 7), (true, 8), (false, 9)] (by kernel_rfl) rfl (by kernel_rfl) (by kernel_rfl) (by kernel_rfl) (fun _ _ d _ _ h => by cases d <;> exact h) (ext_drew W) ?_
      intro J0 hJ0
      iterate 7 (refine schedF_pure (v := ?_) rfl (by rfl) ?_ ?_; rotate_left; (focus (intro u hC; have c5 := (hC.cell (p := ⟨b, 5, none⟩) bl).trans CC.out; go_simp; try with_reducible rfl)); try go_simp)
      refine schedF_eff rfl ?_
      intro J hJ
      go_wp2_with fail
      refine ⟨fun _ => ext_drew W, ?_⟩
      iterate 1 (refine schedF_pure (v := ?_) rfl (by rfl) ?_ ?_; rotate_left; (focus (intro u hC; go_simp; try with_reducible rfl)); try go_simp)
      have Q : Hid (Below W.heap.size W W.drew) := Lib.hid (ext_drew W)
      obtain ⟨V, hV⟩ : ∃ V, V = W.drew := ⟨_, rfl⟩
      rw [← hV] at Q ⊢
      clear hV hsv
      replace TA := Lib.hid (TA.out.ext Q.out)
      replace RU := Lib.hid (RU.out.ext Q.out)
      replace DY := Lib.hid (keepB Q.out DY.out)
      replace B := Lib.hid (ext_trans B.out Q.out)
      obtain ⟨⟨cv2, cc2⟩, cf2⟩ := RU.out.cell (i := 5) (by omega)
      refine schedF_eff rfl ?_
      intro J hJ
      go_wp2_with fail
      first | refine hJ0 _ _ ?_ | (refine ⟨by first | exact fun h => absurd rfl h | trivial, ?_⟩; refine schedF_nil (hJ0 _ _ ?_))
      have TA1 : Hid (TrAt (V.setCell ⟨b, 5, none⟩ (.int .u8 sv)) Lo T l) := TA.out.keepFrom (fun k hk _ => Below.heap_setCell _ _ _ _ (show k ≠ b by omega))
      have DY1 : Hid ((V.setCell ⟨b, 5, none⟩ (.int .u8 sv)).heap[g]? = some (.cells #[.int .u8 (byt y 0), .int .u8 (byt y 1), .int .u8 (byt y 2), .int .u8 (byt y 3), .int .u8 (byt y 4), .int .u8 (byt y 5), .int .u8 (byt y 6), .int .u8 (byt y 7)] 26 (0, 0))) := (Below.heap_setCell _ _ _ _ gb).trans DY.out
      have BB1 : Hid (Below w.heap.size w (V.setCell ⟨b, 5, none⟩ (.int .u8 sv))) := below_set B.out (Nat.le_refl _) hbw
      clear hJ0 Q TA RU DY B cc2 cf2
      obtain ⟨X, hX⟩ : ∃ X, X = V.setCell ⟨b, 5, none⟩ (.int .u8 sv) := ⟨_, rfl⟩
      rw [← hX] at TA1 DY1 BB1 ⊢
      clear hX
      have l0 : 0 < l.length := by rw [HLl.out]; omega
      go_wp2_with fail
      refine (pathm_ok _ Lo T l 0 TA1 l0).mono ?_
      rw [HHg.out, ← HP.out]
      unfold Paths
      rw [HPL.out]
      rintro e w5 ⟨A6, c6, rfl, hO6, hb⟩
      have B6 := Lib.hid hb
      have G6 : Hid (0 < H → ∃ g7, A6 = some ⟨g7, 0, none⟩ ∧ X.heap.size ≤ g7 ∧ RowU w5 g7 H) := fun h0 => by
        obtain ⟨g7, rfl, k1, k2, k3⟩ := hO6.block h0
        exact ⟨g7, rfl, k1, hO6.rowK.1.rowU⟩
      clear hO6 hb
      go_wp2_with fail
      go_loopw [25] (fun iv wr => ∃ k : Nat, k ≤ H ∧ iv = .int .i64 k ∧ Hid (0 < H → ∃ g7, A6 = some ⟨g7, 0, none⟩ ∧ X.heap.size ≤ g7 ∧ RowU wr g7 H) ∧ Hid (Below X.heap.size X wr)) (fun iv _ => H - (intOf iv).toNat)
      case atStart => exact ⟨0, Nat.zero_le _, rfl, G6.out, B6.out⟩
      case round =>
        clear G6 B6
        obtain ⟨k, hk, rfl, G6, B6⟩ := hrel
        by_cases hlt : k < H
        · obtain ⟨g7, hA7, hg7, RU7'⟩ := G6.out (by omega)
          subst hA7
          have RU7 := Lib.hid RU7'
          obtain ⟨⟨v7, cc7⟩, _⟩ := RU7'.cell (i := k * 8) (by omega)
          have CC7 := Lib.hid cc7
          have gl7 := RU7'.lt
          have kI : (k : Int) < (H : Int) := by omega
          have kI0 : (0 : Int) ≤ (k : Int) := by omega
          obtain ⟨sv7, hsv7⟩ : ∃ s, IntKind.u8.wrap (v7 + (by_ : Int)) = s := ⟨_, rfl⟩
          clear cc7 RU7' G6
          go_upto_region 20 with fail
          refine wp_region_schedF (fin := 11) (fun u => Below wr.heap.size wr u) [(true, 0), (true, 1), (true, 2), (true, 3), (true, 4), (true, 5), (true, 6), (true, 7), (true, 8), (false, 9), (true, 10), (false, 11)] (by kernel_rfl) rfl (by kernel_rfl) (by kernel_rfl) (by kernel_rfl) (fun _ _ d _ _ h => by cases d <;> exact h) (ext_drew wr) ?_
          intro J0 hJ0
          iterate 9 (refine schedF_pure (v := ?_) rfl (by rfl) ?_ ?_; rotate_left; (focus (intro u hC; have c5 := (hC.cell (p := ⟨g7, k * 8, none⟩) gl7).trans CC7.out; go_simp; try with_reducible rfl)); try go_simp)
          refine schedF_eff rfl ?_
          intro J hJ
          go_wp2_with fail
          refine ⟨fun _ => ext_drew wr, ?_⟩
          iterate 1 (refine schedF_pure (v := ?_) rfl (by rfl) ?_ ?_; rotate_left; (focus (intro u hC; go_simp; try with_reducible rfl)); try go_simp)
          have Q : Hid (Below wr.heap.size wr wr.drew) := Lib.hid (ext_drew wr)
          obtain ⟨V7, hV⟩ : ∃ V, V = wr.drew := ⟨_, rfl⟩
          rw [← hV] at Q ⊢
          clear hV hsv7
          replace RU7 := Lib.hid (RU7.out.ext Q.out)
          replace B6 := Lib.hid (ext_trans B6.out Q.out)
          obtain ⟨⟨cv2, cc2⟩, cf2⟩ := RU7.out.cell (i := k * 8) (by omega)
          refine schedF_eff rfl ?_
          intro J hJ
          go_wp2_with fail
          first | refine hJ0 _ _ ?_ | (refine ⟨by first | exact fun h => absurd rfl h | trivial, ?_⟩; refine schedF_nil (hJ0 _ _ ?_))
          clear hJ0 cc2 cf2
          go_wp2_with fail
          exact ⟨⟨k + 1, by omega, by go_num, fun _ => ⟨g7, rfl, hg7, RU7.out.set _ _⟩, below_set B6.out (Nat.le_refl _) hg7⟩, by simp [intOf]; omega⟩
        · obtain rfl : k = H := by omega
          have hI : ¬ (k : Int) < (k : Int) := by omega
          have TA2 := Lib.hid (TA1.out.ext B6.out)
          have DY2 := Lib.hid (keepB B6.out DY1.out)
          have BB2 := Lib.hid (ext_trans BB1.out B6.out)
          clear TA1 DY1 BB1 G6 B6
          go_wp2_with fail
          refine (pathm_ok _ Lo T l 0 TA2 l0).mono ?_
          rw [HHg.out, ← HP.out]
          unfold Paths
          rw [HPL.out]
          rintro e w6 ⟨A8, c8, rfl, hO8, hb⟩
          have P8 := Lib.hid hO8.rd
          replace TA2 := Lib.hid (TA2.out.ext hb)
          replace DY2 := Lib.hid (keepB hb DY2.out)
          replace BB2 := Lib.hid (ext_trans BB2.out hb)
          clear hb hO8
          go_wp2_with fail
          refine (leaf_ok _ Lo T l 0 TA2 l0).mono ?_
          rw [← HD.out]
          unfold digV
          rintro e w7 ⟨rfl, hb⟩
          replace P8 := Lib.hid (P8.out.ext hb)
          replace TA2 := Lib.hid (TA2.out.ext hb)
          replace DY2 := Lib.hid (keepB hb DY2.out)
          replace BB2 := Lib.hid (ext_trans BB2.out hb)
          clear hb
          go_upto_region 23 with fail
          obtain ⟨gd, hgd⟩ : ∃ g, g = w7.heap.size := ⟨_, rfl⟩
          obtain ⟨U, hU⟩ : ∃ U, U = World.alloc w7 (.cells #[.int .u8 (byt d 0), .int .u8 (byt d 1), .int .u8 (byt d 2), .int .u8 (byt d 3), .int .u8 (byt d 4), .int .u8 (byt d 5), .int .u8 (byt d 6), .int .u8 (byt d 7)] 26) := ⟨_, rfl⟩
          have DD2 : Hid (U.heap[gd]? = some (.cells #[.int .u8 (byt d 0), .int .u8 (byt d 1), .int .u8 (byt d 2), .int .u8 (byt d 3), .int .u8 (byt d 4), .int .u8 (byt d 5), .int .u8 (byt d 6), .int .u8 (byt d 7)] 26 (0, 0))) := by rw [hU, hgd]; exact Go.heap_alloc_new w7 _
          have DYU : Hid (U.heap[g]? = some (.cells #[.int .u8 (byt y 0), .int .u8 (byt y 1), .int .u8 (byt y 2), .int .u8 (byt y 3), .int .u8 (byt y 4), .int .u8 (byt y 5), .int .u8 (byt y 6), .int .u8 (byt y 7)] 26 (0, 0))) := by rw [hU]; exact keepA DY2.out
          have TAU : Hid (TrAt U Lo T l) := by rw [hU]; exact TA2.out.ext (ext_alloc _ _)
          have PU : Hid (RdD U A8 k c8 p) := by rw [hU]; exact P8.out.ext (ext_alloc _ _)
          have BU : Hid (Below w.heap.size w U) := by rw [hU]; exact ext_trans BB2.out (ext_alloc _ _)
          rw [← hU, ← hgd]
          clear hU hgd P8 TA2 DY2 BB2
          refine wp_region_schedC (fun u => Below U.heap.size U u) [(true, 0), (true, 2), (false, 1), (true, 3), (true, 4), (true, 5), (true, 6), (true, 7), (false, 8), (true, 9), (true, 10)] (by kernel_rfl) rfl (by kernel_rfl) (by kernel_rfl) (fun _ _ d _ _ h => by cases d <;> exact h) (ext_drew U) ?_
          intro J0 hJ0
          have Q : Hid (Below U.heap.size U U.drew) := ext_drew U
          iterate 2 (refine schedC_pure (v := ?_) rfl (by rfl) ?_ ?_; rotate_left; (focus (intro u hC; obtain ⟨y0, y1, y2, y3, y4, y5, y6, y7, _, _, _, _, _, _, _, _⟩ := full8 (keepB hC DYU.out); obtain ⟨z0, z1, z2, z3, z4, z5, z6, z7, _, _, _, _, _, _, _, _⟩ := full8 (keepB hC DD2.out); go_simp; try with_reducible rfl)); try go_simp)
          refine schedC_eff rfl ?_
          intro J hJ
          go_wp2_with fail
          refine (rootm_c _ Lo T l (Lib.hid (TAU.out.ext Q.out))).mono ?_
          rw [HHg.out, ← HY.out]
          unfold digV
          rintro e v9 ⟨rfl, hb⟩
          have Q2 : Hid (Below U.heap.size U v9) := Lib.hid (ext_trans Q.out hb)
          clear hb Q
          go_wp2_with fail
          refine ⟨Q2.out, ?_⟩
          have Q := Q2
          clear Q2
          refine schedC_pure (v := .bool true) rfl (by rfl) (fun u hC => exec_run rfl rfl rfl (G1 _ _ u) (E1 u)) ?_
          try go_simp
          iterate 4 (refine schedC_pure (v := ?_) rfl (by rfl) ?_ ?_; rotate_left; (focus (intro u hC; obtain ⟨y0, y1, y2, y3, y4, y5, y6, y7, _, _, _, _, _, _, _, _⟩ := full8 (keepB hC DYU.out); obtain ⟨z0, z1, z2, z3, z4, z5, z6, z7, _, _, _, _, _, _, _, _⟩ := full8 (keepB hC DD2.out); go_simp; try with_reducible rfl)); try go_simp)
          refine schedC_eff rfl ?_
          intro J hJ
          go_wp2_with fail
          rw [← show digV y = .agg #[.int .u8 (byt y 0), .int .u8 (byt y 1), .int .u8 (byt y 2), .int .u8 (byt y 3), .int .u8 (byt y 4), .int .u8 (byt y 5), .int .u8 (byt y 6), .int .u8 (byt y 7)] from rfl, ← show digV d = .agg #[.int .u8 (byt d 0), .int .u8 (byt d 1), .int .u8 (byt d 2), .int .u8 (byt d 3), .int .u8 (byt d 4), .int .u8 (byt d 5), .int .u8 (byt d 6), .int .u8 (byt d 7)] from rfl]
          refine (check_c _ y ly 0 d ld A8 k c8 p (Lib.hid (PU.out.ext Q.out))).mono ?_
          rw [Y1.out]
          rintro e v9 ⟨rfl, hb⟩
          have Q2 : Hid (Below U.heap.size U v9) := Lib.hid (ext_trans Q.out hb)
          clear hb Q
          go_wp2_with fail
          refine ⟨Q2.out, ?_⟩
          have Q := Q2
          clear Q2
          iterate 2 (refine schedC_pure (v := ?_) rfl (by rfl) ?_ ?_; rotate_left; (focus (intro u hC; obtain ⟨y0, y1, y2, y3, y4, y5, y6, y7, _, _, _, _, _, _, _, _⟩ := full8 (keepB hC DYU.out); obtain ⟨z0, z1, z2, z3, z4, z5, z6, z7, _, _, _, _, _, _, _, _⟩ := full8 (keepB hC DD2.out); go_simp; try with_reducible rfl)); try go_simp)
          refine schedC_nil (hJ0 _ _ ?_)
          clear hJ0
          go_wp2_with fail
          go_ret
          exact ⟨rfl, ext_trans BU.out Q.out⟩
#print axioms walkTreeNones
end Go.Proofs.YtaokfpndplbedaaDoor
