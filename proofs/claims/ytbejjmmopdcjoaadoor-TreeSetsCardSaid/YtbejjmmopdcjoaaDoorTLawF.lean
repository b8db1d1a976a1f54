/-
  tree: what the laws make of their arguments: some, plain.
-/
import Derived.Test.YtbejjmmopdcjoaaDoorTRow
import Derived.Test.YtbejjmmopdcjoaaDoorHFrame
namespace Go.Proofs.YtbejjmmopdcjoaaDoor
open Go.ChangeShapes Go.WideShapes Go.ChangeAt Go.RowKit Go.Deep

/-- a slice's cells, by index -/
structure RdX (w : World) (A : Option Addr) (n c : Nat) (f : Nat → Value) : Prop where
  le : n ≤ c
  max : c ≤ 9223372036854775807
  cells : 0 < n → ∃ b o, A = some ⟨b, o, none⟩ ∧ b < w.heap.size ∧ ∀ j, j < n → w.cell? ⟨b, o + j, none⟩ = some (f j)
theorem RdX.ext {w w' : World} {A : Option Addr} {n c : Nat} {f : Nat → Value} (h : RdX w A n c f) (k : Below w.heap.size w w') : RdX w' A n c f :=
  ⟨h.le, h.max, fun hn => by
    obtain ⟨b, o, hA, hb, hc⟩ := h.cells hn
    exact ⟨b, o, hA, Nat.lt_of_lt_of_le hb k.size, fun j hj => (k.cell (p := ⟨b, o + j, none⟩) hb).trans (hc j hj)⟩⟩
theorem RdX.front {w : World} {A : Option Addr} {n c : Nat} {f : Nat → Value} (h : RdX w A n c f) {m : Nat} (hm : m ≤ n) : RdX w A m c f :=
  ⟨Nat.le_trans hm h.le, h.max, fun h0 => by
    obtain ⟨b, o, hA, hb, hc⟩ := h.cells (by omega)
    exact ⟨b, o, hA, hb, fun j hj => hc j (by omega)⟩⟩

theorem RdX.at {w : World} {A : Option Addr} {n c : Nat} {f : Nat → Value} (h : RdX w A n c f) {k : Nat} (hk : k < n) : ∃ b o, A = some ⟨b, o, none⟩ ∧ b < w.heap.size ∧ w.cell? ⟨b, o + k, none⟩ = some (f k) := by
  obtain ⟨b, o, hA, hb, hc⟩ := h.cells (by omega)
  exact ⟨b, o, hA, hb, hc k hk⟩
section
variable {H : Type} {enc : TypeId × Value → H}

set_option maxRecDepth 100000 in
theorem open_u16s {t e : TypeId} (ht : Tryd.prog.underlying t = some (.slice e)) (he : Tryd.prog.underlying e = some (.int .u16)) (hc : Tryd.prog.cellsOf e = 1) {W : World} {base : Nat} {v : Value} {d : DataW H} {p : List MemPlace}
    (hv : Value.okWide Tryd.prog W .any base t v) (h : DataW.Trod enc Tryd.prog W 0 (fun _ => true) true t v d p) : ∃ A n c, ∃ f : Nat → Nat, v = .slice A n c ∧ RdX W A n c (fun j => .int .u16 (f j)) ∧ ∀ j, j < n → f j < 65536 := by
  obtain ⟨A, n, c, rfl⟩ := okWide_slice ht hv
  obtain ⟨fuel, hf⟩ := h
  rcases open_ints ht he hc hf with ⟨hcs, _⟩ | ⟨x, l, c', zs, hcs, _, hl, hm, hz, _, hcell, hwf⟩
  · simp [Value.cells] at hcs
    obtain ⟨rfl, rfl, rfl⟩ := hcs
    exact ⟨none, 0, 0, fun _ => 0, rfl, ⟨Nat.le_refl _, by omega, fun h => absurd h (by omega)⟩, fun j hj => absurd hj (by omega)⟩
  · simp [Value.cells] at hcs
    obtain ⟨rfl, rfl, rfl⟩ := hcs
    simp only [if_true] at hz
    have hm' : c ≤ 9223372036854775807 := by simp only [maxLen] at hm; omega
    have hr : ∀ j, j < n → (Lit.int .u16 (zs.getD j 0)).wf = true := fun j hj => hwf _ (by rw [show zs.getD j 0 = zs[j]'(by omega) by simp [show j < zs.length by omega]]; exact List.getElem_mem _)
    have hr2 : ∀ j, j < n → 0 ≤ zs.getD j 0 ∧ zs.getD j 0 < 65536 := fun j hj => by
      have := hr j hj
      obtain ⟨z, hz'⟩ : ∃ z, z = zs.getD j 0 := ⟨_, rfl⟩
      rw [← hz'] at this ⊢
      simp [Lit.wf, IntKind.min, IntKind.max, IntKind.signed, IntKind.bits] at this
      omega
    refine ⟨some x, n, c, fun j => (zs.getD j 0).toNat, rfl, ⟨hl, hm', fun h0 => ?_⟩, fun j hj => by have := hr2 j hj; show (zs.getD j 0).toNat < _; omega⟩
    obtain ⟨b, off, rfl, hc'⟩ := ints_at hcell (by omega)
    refine ⟨b, off, rfl, World.block_lt_of_cell? _ _ (hc' 0 (by omega)), fun j hj => ?_⟩
    rw [hc' j (by omega)]
    have := (hr2 j hj).1
    rw [Int.toNat_of_nonneg this]

set_option maxRecDepth 100000 in
theorem open_i64s {t e : TypeId} (ht : Tryd.prog.underlying t = some (.slice e)) (he : Tryd.prog.underlying e = some (.int .i64)) (hc : Tryd.prog.cellsOf e = 1) {W : World} {base : Nat} {v : Value} {d : DataW H} {p : List MemPlace}
    (hv : Value.okWide Tryd.prog W .any base t v) (h : DataW.Trod enc Tryd.prog W 0 (fun _ => true) true t v d p) : ∃ A n c, ∃ f : Nat → Int, v = .slice A n c ∧ RdX W A n c (fun j => .int .i64 (f j)) ∧ ∀ j, j < n → -9223372036854775808 ≤ f j ∧ f j < 9223372036854775808 := by
  obtain ⟨A, n, c, rfl⟩ := okWide_slice ht hv
  obtain ⟨fuel, hf⟩ := h
  rcases open_ints ht he hc hf with ⟨hcs, _⟩ | ⟨x, l, c', zs, hcs, _, hl, hm, hz, _, hcell, hwf⟩
  · simp [Value.cells] at hcs
    obtain ⟨rfl, rfl, rfl⟩ := hcs
    exact ⟨none, 0, 0, fun _ => 0, rfl, ⟨Nat.le_refl _, by omega, fun h => absurd h (by omega)⟩, fun j hj => absurd hj (by omega)⟩
  · simp [Value.cells] at hcs
    obtain ⟨rfl, rfl, rfl⟩ := hcs
    simp only [if_true] at hz
    have hm' : c ≤ 9223372036854775807 := by simp only [maxLen] at hm; omega
    have hr : ∀ j, j < n → (Lit.int .i64 (zs.getD j 0)).wf = true := fun j hj => hwf _ (by rw [show zs.getD j 0 = zs[j]'(by omega) by simp [show j < zs.length by omega]]; exact List.getElem_mem _)
    have hr2 : ∀ j, j < n → -9223372036854775808 ≤ zs.getD j 0 ∧ zs.getD j 0 < 9223372036854775808 := fun j hj => by
      have := hr j hj
      obtain ⟨z, hz'⟩ : ∃ z, z = zs.getD j 0 := ⟨_, rfl⟩
      rw [← hz'] at this ⊢
      simp [Lit.wf, IntKind.min, IntKind.max, IntKind.signed, IntKind.bits] at this
      omega
    refine ⟨some x, n, c, fun j => zs.getD j 0, rfl, ⟨hl, hm', fun h0 => ?_⟩, fun j hj => by have := hr2 j hj; exact this⟩
    obtain ⟨b, off, rfl, hc'⟩ := ints_at hcell (by omega)
    refine ⟨b, off, rfl, World.block_lt_of_cell? _ _ (hc' 0 (by omega)), fun j hj => ?_⟩
    rw [hc' j (by omega)]

end
/-- the digest of a number of two bytes, with a third one behind -/
def mark (t x : Nat) : Nat := x + t * 65536
theorem byt_add {x t : Nat} (hx : x < 65536) (ht : t < 256) : byt (mark t x) 0 = x % 256 ∧ byt (mark t x) 1 = x / 256 ∧ byt (mark t x) 2 = t ∧ byt (mark t x) 3 = 0 ∧ byt (mark t x) 4 = 0 ∧ byt (mark t x) 5 = 0 ∧ byt (mark t x) 6 = 0 ∧ byt (mark t x) 7 = 0 := by
  unfold mark
  simp only [byt]
  refine ⟨by omega, by omega, by omega, by omega, by omega, by omega, by omega, by omega⟩
theorem mark_lt {t x : Nat} (hx : x < 65536) (ht : t < 256) : mark t x < 18446744073709551616 := by unfold mark; omega
theorem mark_inj {t x y : Nat} (h : mark t x = mark t y) : x = y := by unfold mark at h; omega
/-- the leaves that the laws make of numbers -/
def leavesN (f : Nat → Nat) (m : Nat) : List Nat := (List.range m).map fun j => mark 3 (f j)
theorem leavesN_len (f : Nat → Nat) (m : Nat) : (leavesN f m).length = m := by simp [leavesN]
theorem leavesN_more (f : Nat → Nat) (m : Nat) : leavesN f (m + 1) = leavesN f m ++ [mark 3 (f m)] := by unfold leavesN; rw [List.range_succ, List.map_append]; rfl

set_option maxRecDepth 100000 in
set_option maxHeartbeats 2000000 in
theorem some_c (w : World) (A : Option Addr) (n c : Nat) (f : Nat → Nat) (most : Nat) (h : Hid (RdX w A n c (fun j => .int .u16 (f j)))) (hf : ∀ j, j < n → f j < 65536) (hm : most ≤ 1000) : Calls Tryd.prog 11 #[.slice A n c, .int .i64 most] w (fun e w' => ∃ A' c', e = .returned (.slice A' (min n most) c') ∧ OwnD w' 26 w.heap.size A' (min n most) c' (leavesN f (min n most)) ∧ Below w.heap.size w w') := by
  have hle := h.out.le
  have hmx := h.out.max
  obtain ⟨m, hmm⟩ : ∃ m, m = min n most := ⟨_, rfl⟩
  rw [← hmm]
  have m1 : m ≤ n := by omega
  have m2 : m ≤ most := by omega
  have HM : Hid (¬ (m < n ∧ m < most)) := by show ¬ _; omega
  have HF := Lib.hid hf
  clear hmm hf
  go_enter Tryd.func11, Tryd.ntmps11
  go_wp2_with fail
  go_loopw [5, 6] (fun ov iv wr => ∃ (k : Nat) (A1 : Option Addr) (c1 : Nat), k ≤ m ∧ iv = .int .i64 k ∧ ov = .slice A1 k c1 ∧ Hid (OwnD wr 26 w.heap.size A1 k c1 (leavesN f k)) ∧ Hid (Below w.heap.size w wr)) (fun _ iv _ => m - (intOf iv).toNat)
  case atStart => exact ⟨0, none, 0, Nat.zero_le _, rfl, rfl, OwnD.void _ _ _, Below.refl _ _⟩
  case round =>
    obtain ⟨k, A1, c1, hk, rfl, rfl, O, B⟩ := hrel
    by_cases hlt : k < m
    · obtain ⟨b, o, rfl, hb, hc⟩ := h.out.at (k := k) (by omega)
      have hc2 := (B.out.cell (p := ⟨b, o + k, none⟩) hb).trans hc
      obtain ⟨x, hx⟩ : ∃ x, x = f k := ⟨_, rfl⟩
      have lx : x < 65536 := by rw [hx]; exact HF.out k (by omega)
      simp only [← hx] at hc2
      obtain ⟨y, hy⟩ : ∃ y, y = mark 3 x := ⟨_, rfl⟩
      have ly : y < 18446744073709551616 := by rw [hy]; exact mark_lt lx (by omega)
      have HBY := Lib.hid (byt_add lx (show 3 < 256 by omega))
      rw [← hy] at HBY
      have HL : Hid (leavesN f (k + 1) = leavesN f k ++ [y]) := by show _ = _; rw [leavesN_more, hy, hx]
      have HC := Lib.hid hc2
      have kn : (k : Int) < (n : Int) := by omega
      have kn0 : (0 : Int) ≤ (k : Int) := by omega
      have km : (k : Int) < (most : Int) := by omega
      have q1 : (x : Int) % 256 = (byt y 0 : Int) := by have := HBY.out.1; omega
      have q2 : (x : Int) / 256 = (byt y 1 : Int) := by have := HBY.out.2.1; omega
      have q3 : (x : Int).tdiv 256 = (byt y 1 : Int) := by rw [Int.tdiv_eq_ediv_of_nonneg (by omega)]; exact q2
      have q4 := byt_lt y 1
      have W1 : IntKind.u8.wrap (x : Int) = (byt y 0 : Int) := by simp [IntKind.wrap, IntKind.bits, IntKind.signed]; omega
      have W2 : IntKind.u16.wrap ((byt y 1 : Nat) : Int) = (byt y 1 : Int) := by simp [IntKind.wrap, IntKind.bits, IntKind.signed]; omega
      have W3 : IntKind.u8.wrap ((byt y 1 : Nat) : Int) = (byt y 1 : Int) := by simp [IntKind.wrap, IntKind.bits, IntKind.signed]; omega
      have HCY : Hid ((.agg #[.int .u8 (byt y 0), .int .u8 (byt y 1), .int .u8 3, .int .u8 0, .int .u8 0, .int .u8 0, .int .u8 0, .int .u8 0] : Value) = .agg #[.int .u8 (byt y 0), .int .u8 (byt y 1), .int .u8 (byt y 2), .int .u8 (byt y 3), .int .u8 (byt y 4), .int .u8 (byt y 5), .int .u8 (byt y 6), .int .u8 (byt y 7)]) := by
        obtain ⟨_, _, k2, k3, k4, k5, k6, k7⟩ := HBY.out
        show _ = _
        rw [k2, k3, k4, k5, k6, k7]
        rfl
      clear q4
      have Bs := B.out.size
      clear hc hc2 hx hy
      go_upto_region 5 with fail
      refine wp_region_schedC (fun u => u.cell? ⟨b, o + k, none⟩ = some (.int .u16 x)) [(true, 0), (true, 1), (true, 2), (true, 3), (true, 4), (true, 5), (true, 6), (true, 7), (true, 8), (true, 9), (true, 10), (true, 11), (true, 12), (false, 13), (false, 14), (true, 15)] (by kernel_rfl) rfl (by kernel_rfl) (by kernel_rfl) (fun _ _ d _ _ h => by cases d <;> exact h) HC.out ?_
      intro J0 hJ0
      iterate 5 (refine schedC_pure (v := ?_) rfl (by rfl) ?_ ?_; rotate_left; (focus (intro u hC; go_simp; try with_reducible rfl)); try go_simp)
      refine schedC_pure (v := .int .u8 (byt y 0)) rfl (by rfl) (fun u hC => by go_simp) ?_
      try go_simp
      iterate 4 (refine schedC_pure (v := ?_) rfl (by rfl) ?_ ?_; rotate_left; (focus (intro u hC; go_simp; try with_reducible rfl)); try go_simp)
      refine schedC_pure (v := .int .u16 (byt y 1)) rfl (by rfl) (fun u hC => by go_simp) ?_
      try go_simp
      refine schedC_pure (v := .int .u8 (byt y 1)) rfl (by rfl) (fun u hC => by go_simp) ?_
      try go_simp
      refine schedC_pure (v := ?_) rfl (by rfl) ?_ ?_; rotate_left
      focus (intro u hC; go_simp; try with_reducible rfl)
      try go_simp
      rw [HCY.out]
      have O2 : Hid (OwnD wr.drew 26 w.heap.size A1 k c1 (leavesN f k)) := O.out.ext (ext_drew wr)
      have B2 : Hid (Below w.heap.size w wr.drew) := ext_trans B.out (ext_drew wr)
      have HC2 : Hid (wr.drew.cell? ⟨b, o + k, none⟩ = some (.int .u16 x)) := HC.out
      have Bs2 : w.heap.size ≤ wr.drew.heap.size := Bs
      have bl : b < wr.drew.heap.size := Nat.lt_of_lt_of_le hb Bs
      clear O B HC
      generalize wr.drew = V at *
      refine schedC_eff rfl ?_
      intro J hJ
      go_wp2_with fail
      refine ⟨((ext_alloc V _).cell (p := ⟨b, o + k, none⟩) bl).trans HC2.out, ?_⟩
      refine schedC_eff rfl ?_
      intro J hJ
      go_wp2_with (refine wpList_pushE (o := ⟨some 32, _, _, _, _, _⟩) rfl (.tmp 18) (.tmp 31) 23 26 rfl Tryd.underlying23 infoD w.heap.size A1 k c1 (leavesN f k) (by rfl) O2.out y ly (by rfl) (by omega) Bs2 ?_; intro A2 c2 v3 hO hb; have O3 := Lib.hid hO; have Q3 := Lib.hid hb; clear hO hb; go_simp)
      refine ⟨(Q3.out.cell (p := ⟨b, o + k, none⟩) hb).trans HC2.out, ?_⟩
      refine schedC_pure (v := ?_) rfl (by rfl) ?_ ?_; rotate_left
      focus (intro u hC; go_simp; try with_reducible rfl)
      try go_simp
      refine schedC_nil (hJ0 _ _ ?_)
      clear hJ0
      go_wp2_with fail
      exact ⟨⟨k + 1, A2, c2, by omega, by go_num, rfl, by rw [HL.out]; exact O3.out, B2.out.trans Q3.out⟩, by simp [intOf]; omega⟩
    · obtain rfl : k = m := by omega
      by_cases hn : k < n
      · have g1 : ¬ (k : Int) < (most : Int) := by have := HM.out; omega
        have g2 : (k : Int) < (n : Int) := by omega
        go_wp2_with fail
        go_ret
        exact ⟨A1, c1, rfl, O.out, B.out⟩
      · have g2 : ¬ (k : Int) < (n : Int) := by omega
        go_wp2_with fail
        go_ret
        exact ⟨A1, c1, rfl, O.out, B.out⟩
#print axioms some_c

set_option maxRecDepth 100000 in
set_option maxHeartbeats 2000000 in
theorem plain_c (w : World) (A : Option Addr) (n c : Nat) (xs : List Nat) (h : Hid (RdD w A n c xs)) (hn : n ≤ 100000) : Calls Tryd.prog 14 #[.slice A n c] w (fun e w' => ∃ A' c', e = .returned (.slice A' n c') ∧ OwnD w' 25 w.heap.size A' n c' xs ∧ Below w.heap.size w w') := by
  have hle := h.out.le
  have HL := Lib.hid h.out.len
  have HSm := Lib.hid h.out.small
  go_enter Tryd.func14, Tryd.ntmps14
  go_wp2_with fail
  go_loopw [3, 4] (fun ov iv wr => ∃ (k : Nat) (A1 : Option Addr) (c1 : Nat), k ≤ n ∧ iv = .int .i64 k ∧ ov = .slice A1 k c1 ∧ Hid (OwnD wr 25 w.heap.size A1 k c1 (xs.take k)) ∧ Hid (Below w.heap.size w wr)) (fun _ iv _ => n - (intOf iv).toNat)
  case atStart => exact ⟨0, none, 0, Nat.zero_le _, rfl, rfl, OwnD.void _ _ _, Below.refl _ _⟩
  case round =>
    obtain ⟨k, A1, c1, hk, rfl, rfl, O, B⟩ := hrel
    by_cases hlt : k < n
    · obtain ⟨b, o, rfl, hb, hc⟩ := (h.out.ext B.out).at hlt
      obtain ⟨y, hy⟩ : ∃ y, y = xs.getD k 0 := ⟨_, rfl⟩
      rw [← hy] at hc
      have ly : y < 18446744073709551616 := by rw [hy]; exact small_getD HSm.out _
      have HT : Hid (xs.take (k + 1) = xs.take k ++ [y]) := by show _ = _; rw [List.take_add_one, hy, show xs[k]? = some (xs.getD k 0) by simp [List.getD, show k < xs.length by rw [HL.out]; exact hlt]]; rfl
      obtain ⟨c0, c1', c2, c3, c4, c5, c6, c7⟩ := hc
      have kn : (k : Int) < (n : Int) := by omega
      have kn0 : (0 : Int) ≤ (k : Int) := by omega
      have Bs := B.out.size
      clear hy
      go_wp2_with (refine wpList_pushE (o := ⟨some 17, _, _, _, _, _⟩) rfl (.tmp 11) (.tmp 16) 32 25 rfl Tryd.underlying32 infoR w.heap.size A1 k c1 (xs.take k) (by rfl) O.out y ly (by rfl) (by omega) Bs ?_; intro A2 c2 v3 hO hb; have O3 := Lib.hid hO; have Q3 := Lib.hid hb; clear hO hb; go_simp)
      exact ⟨⟨k + 1, A2, c2, by omega, by go_num, rfl, by rw [HT.out]; exact O3.out, B.out.trans Q3.out⟩, by simp [intOf]; omega⟩
    · obtain rfl : k = n := by omega
      have hI : ¬ (k : Int) < (k : Int) := by omega
      have e : xs.take k = xs := List.take_of_length_le (by rw [HL.out]; exact Nat.le_refl _)
      have O3 : Hid (OwnD wr 25 w.heap.size A1 k c1 xs) := by have q := O.out; rw [e] at q; exact q
      clear e O
      go_wp2_with fail
      go_ret
      exact ⟨A1, c1, rfl, O3.out, B.out⟩
#print axioms plain_c
end Go.Proofs.YtbejjmmopdcjoaaDoor
