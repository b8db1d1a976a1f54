/-
  coin: the document's Pay of pots: contract.
-/
import Derived.Test.YthdnfnilckjldaaCRPot
namespace Go.Proofs.Ythdnfnilckjldaa
open Go.RowKit

/-- the call hands back a pot behind a payment of x to seat j -/
def RPays (w : World) (L : Int) (S : Nat) (xs : List Int) (j : Nat) (x : Int) (e : Ending) (w' : World) : Prop := ∃ A c, e = .returned (.tuple #[.agg #[.int .i64 L, .slice A S c], .int .i64 x]) ∧ OwnI w' 3 w.heap.size A S c (xs.set j (xs.getD j 0 + x)) ∧ Below w.heap.size w w'
/-- a new pot's struct, its row in a block of its own -/
def RMade (L : Int) (S : Nat) (xs : List Int) (W : World) (x : Value) (v : World) : Prop := ∃ p A c, x = .pointer (some ⟨p, 0, none⟩) ∧ W.heap.size ≤ p ∧ v.heap[p]? = some (.cells #[.int .i64 L, .slice A S c] 45 (0, 0)) ∧ OwnI v 3 W.heap.size A S c xs ∧ Below W.heap.size W v
theorem wpList_pushI_g {P : Program} {w : World} {ops : Array Oper} {rest : List Oper} {o : Oper} {a : Act} {Q : Exit → Act → World → Prop} (hgd : o.guard = none) (s x : Operand) (t tx : TypeId)
    (ho : o.op = .call { callee := .builtin .append, args := #[s, x], argTypes := #[t, tx] }) (E : TypeId) (ht : P.underlying t = some (.slice E)) (hinfo : (P.info? E).map (fun i => (i.zero, i.size, i.bytes)) = some (some (.int .i64 0), 1, 8))
    (B : Nat) (A : Option Addr) (n c : Nat) (bs : List Int) (hs : a.eval s = .slice A n c) (hown : OwnI w E B A n c bs) (y : Value) (m : Nat) (cs : List Int) (hx : a.eval x = y) (hsrc : Src P 1 tx y m (I64 cs) w)
    (hn : n + m ≤ 1000000000000) (hB : B ≤ w.heap.size)
    (h : ∀ A' c' w', OwnI w' E B A' (n + m) c' (bs ++ cs) → Below B w w' → w.grownBy w' (Value.slice A n c).ownBlock → wpList P ops Q rest (a.put o.dst (.slice A' (n + m) c')) w') : wpList P ops Q (o :: rest) a w := by
  obtain ⟨i0, hi, hz0, hz1, hz2⟩ := info_parts hinfo
  have hm : cs.length = m := by have := hsrc.newsLen; rw [I64_length] at this; omega
  refine wpList_append_own_src _ hgd s x t tx ho B E i0 (.int .i64 0) 8 ht hi hz0 hz1 hz2 rfl _ n (I64 bs) hs hown.row y m (I64 cs) hx hsrc (by omega) (by omega) hB ?_
  intro v' w' ho' hg'
  obtain ⟨A', c', rfl, _, _⟩ := ownsRow_form ho'
  have hc := ownsRow_cap ho'
  exact h A' c' w' ⟨by rw [List.length_append, hown.len, hm], hc.2, by rw [I64_append]; exact ho'⟩ ((Below.refl B w).grown hg' hB (fun k hk => (hown.row.lt k hk).1)) hg'
theorem OwnI.kept2 {w : World} {B : Nat} {A : Option Addr} {n c p : Nat} {bs : List Int} (h : OwnI w 3 B A n c bs) {vs : Array Value} (hp : w.heap[p]? = some (.cells vs 45 (0, 0))) (hn : 0 < n) (y0 y1 : Value) :
    OwnI ((w.setCell ⟨p, 0, Option.none⟩ y0).setCell ⟨p, 1, Option.none⟩ y1) 3 B A n c bs := by
  obtain ⟨g, rfl, _, _⟩ := h.blockless hn
  have hne := own_other h hn hp
  exact ⟨h.len, h.max, h.row.kept (World.grownBy.trans1 (grownBy_set' (b := p) (j := 0) y0) (grownBy_set' (b := p) (j := 1) y1)) (.inr fun e => hne (by injection e))⟩

set_option maxRecDepth 100000 in
set_option maxHeartbeats 4000000 in
theorem rpay_00 (w : World) (left : Int) (S : Nat) (A : Option Addr) (c : Nat) (xs : List Int) (h : Hid (RdI w A S c xs)) (h1 : 1 ≤ S) (h8 : S ≤ 8) (l0 : 0 ≤ left) (l1 : left ≤ 1125899906842624) (hx : Hid (∀ y ∈ xs, 0 ≤ y ∧ y + left ≤ 1125899906842624)) (sv : Int) (s1 : sv < 0) (ask : Int) (a1 : left < ask) (L : Int) (hL : L = left - left) :
    Calls Try.prog 25 #[.agg #[.int .i64 left, .slice A S c], .int .i64 sv, .int .i64 ask] w (RPays w L S xs 0 left) := by
  have hS0 : 0 < S := by omega
  have hle := h.out.le
  have hmax := h.out.max
  have hlen := h.out.len
  have a2 : ¬ left < 0 := by omega
  obtain ⟨y, hy⟩ : ∃ y, y = xs.getD 0 0 := ⟨_, rfl⟩
  have hym : y ∈ xs := by rw [hy, show xs.getD 0 0 = xs[0]'(by omega) by simp [show 0 < xs.length by omega]]; exact List.getElem_mem _
  obtain ⟨y0, y1⟩ := hx.out y hym
  have wr : IntKind.i64.wrap (left - left) = left - left := IntWalk.i64_in _ (by omega)
  have wr0 : IntKind.i64.wrap left = left := IntWalk.i64_in _ (by omega)
  have wr1 : IntKind.i64.wrap (y + left) = y + left := IntWalk.i64_in _ (by omega)
  have wr2 : IntKind.i64.wrap y = y := IntWalk.i64_in _ (by omega)
  have HY := Lib.hid hy
  clear hy hym
  go_enter Try.func25, Try.ntmps25
  go_upto_region 1 with fail
  generalize hW : World.alloc (World.alloc w (.cells #[.int .i64 left, .slice A S c] 45)) (.cells #[.int .i64 0, .slice none 0 0] 45) = W
  have D : Hid (W.heap[w.heap.size]? = some (.cells #[.int .i64 left, .slice A S c] 45 (0, 0))) := by rw [← hW]; exact keepA2 (Go.heap_alloc_new w _)
  have R : Hid (W.heap[w.heap.size + 1]? = some (.cells #[.int .i64 0, .slice none 0 0] 45 (0, 0))) := by rw [← hW, show w.heap.size + 1 = (World.alloc w (.cells #[.int .i64 left, .slice A S c] 45)).heap.size by simp]; exact Go.heap_alloc_new _ _
  have B : Hid (Below w.heap.size w W) := by rw [← hW]; exact ext_trans (ext_alloc _ _) (ext_alloc _ _)
  clear hW
  obtain ⟨d0, d1, _, _⟩ := full2f D.out
  go_upto_region 7 with fail
  clear d0 d1
  go_cut [8] (fun x wx => RMade 0 S xs W x wx)
  case first =>
    refine wp_region_tr (fin := 99) (fun v => Below W.heap.size W v) (.pure 0 (.pure 1 (.pure 2 (.pure 3 (.pure 5 (.pure 6 (.two 4 (.two 7 (.pure 8 (.eff 9 (.eff 10 .nil))) 9 (.eff 7 (.pure 8 (.eff 10 .nil)))) 9 (.eff 4 (.eff 7 (.pure 8 (.eff 10 .nil))))))))))) (by kernel_rfl) (by kernel_rfl) (by kernel_rfl) (fun _ _ d _ _ h => by cases d <;> exact h) (ext_drew W) ?_
    intro J0 hJ0
    iterate 6 (refine tr_pure (v := ?_) rfl (by rfl) ?_ ?_; rotate_left; (focus (intro v hC; obtain ⟨d0, d1, _, _⟩ := full2f (keepB hC D.out); go_simp; try with_reducible rfl)); try go_simp)
    have Q : Hid (Below W.heap.size W W.drew) := Lib.hid (ext_drew W)
    generalize W.drew = V0 at *
    refine tr_two rfl rfl ?_ ?_
    · intro J hJ
      go_wp2_with fail
      refine ⟨by first | exact ext_trans Q.out (ext_alloc _ _) | exact fun _ => ext_trans Q.out (ext_alloc _ _), ?_⟩
      obtain ⟨v1, hu⟩ : ∃ u, u = World.alloc V0 (.cells #[] 3) := ⟨_, rfl⟩
      rw [← hu]
      have OE : Hid (OwnI v1 3 V0.heap.size (some ⟨V0.heap.size, 0, none⟩) 0 0 []) := by rw [hu]; exact OwnI.empty _ _
      have BE : W.heap.size ≤ V0.heap.size := Q.out.size
      have SE : Hid (V0.heap.size < v1.heap.size) := by rw [hu]; show _ < _; simp
      have Q : Hid (Below W.heap.size W v1) := by rw [hu]; exact ext_trans Q.out (ext_alloc _ _)
      clear hu
      generalize V0.heap.size = e0 at *
      refine tr_two rfl rfl ?_ ?_
      · intro J hJ
        go_wp2_with (refine wpList_pushI_g (o := ⟨some 33, _, _, _, _, _⟩) rfl (.tmp 30) (.tmp 32) 22 22 rfl 3 Try.underlying22 infoI e0 _ _ _ [] (by rfl) OE.out _ S xs (by rfl) ((h.out.ext (B.out.trans (Q.out.mono B.out.size))).src Try.underlying22) (by omega) (Nat.le_of_lt SE.out) ?_; intro A7 c7 v2 ho hb hg; have O7 := Lib.hid ho; have HB := Lib.hid hb; have HG := Lib.hid hg; clear ho hb hg; go_simp)
        rw [List.nil_append, Nat.zero_add] at O7
        have Q : Hid (Below W.heap.size W v2) := Lib.hid (Q.out.trans (HB.out.mono BE))
        refine ⟨by first | exact Q.out | exact fun _ => Q.out, ?_⟩
        try rw [Nat.zero_add]
        refine tr_pure (v := .agg #[.int .i64 0, .slice A7 S c7]) rfl (by rfl) (fun v hC => ?_) ?_
        · go_simp
        try go_simp
        refine tr_eff rfl ?_
        intro J hJ
        go_wp2_with fail
        refine ⟨by first | exact ext_trans Q.out (ext_alloc _ _) | exact fun _ => ext_trans Q.out (ext_alloc _ _), ?_⟩
        obtain ⟨v3, hu⟩ : ∃ u, u = World.alloc v2 (.cells #[.int .i64 0, .slice none 0 0] 45) := ⟨_, rfl⟩
        rw [← hu]
        obtain ⟨p, hp⟩ : ∃ p, p = (v2).heap.size := ⟨_, rfl⟩
        have hpd : (v2).heap.size = p := hp.symm
        rw [hpd]
        have PA : Hid (v3.heap[p]? = some (.cells #[.int .i64 0, .slice none 0 0] 45 (0, 0))) := by rw [hu, hp]; exact Go.heap_alloc_new _ _
        have PZ : W.heap.size ≤ p := by rw [hp]; exact Q.out.size
        have O7 := Lib.hid (by rw [hu]; exact O7.out.ext (ext_alloc _ _) : OwnI v3 3 e0 A7 S c7 xs)
        have Q : Hid (Below W.heap.size W v3) := by rw [hu]; exact ext_trans Q.out (ext_alloc _ _)
        clear hu hp hpd
        refine tr_eff rfl ?_
        intro J hJ
        obtain ⟨c0, c1, f0, f1⟩ := full2f PA.out
        go_wp2_with fail
        refine ⟨by first | exact bel2 Q.out PZ _ _ | exact fun _ => bel2 Q.out PZ _ _, ?_⟩
        refine tr_nil (hJ0 _ _ ?_)
        go_wp2_with fail
        go_meet
        exact ⟨p, A7, c7, rfl, PZ, set2 PA.out _ _, (O7.out.kept2 PA.out hS0 _ _).base BE, bel2 Q.out PZ _ _⟩
      · intro J hJ
        go_wp2_with fail
        refine ⟨by first | exact ext_trans Q.out (ext_alloc _ _) | exact fun _ => ext_trans Q.out (ext_alloc _ _), ?_⟩
        obtain ⟨v4, hu⟩ : ∃ u, u = World.alloc v1 (.cells #[.int .i64 0, .slice none 0 0] 45) := ⟨_, rfl⟩
        rw [← hu]
        obtain ⟨p, hp⟩ : ∃ p, p = (v1).heap.size := ⟨_, rfl⟩
        have hpd : (v1).heap.size = p := hp.symm
        rw [hpd]
        have PA : Hid (v4.heap[p]? = some (.cells #[.int .i64 0, .slice none 0 0] 45 (0, 0))) := by rw [hu, hp]; exact Go.heap_alloc_new _ _
        have PZ : W.heap.size ≤ p := by rw [hp]; exact Q.out.size
        have OE := Lib.hid (by rw [hu]; exact OE.out.ext (ext_alloc _ _) : OwnI v4 3 e0 (some ⟨e0, 0, none⟩) 0 0 [])
        have SE0 := SE.out
        have PE : p ≠ e0 := by omega
        have SE : Hid (e0 < v4.heap.size) := by rw [hu]; exact Nat.lt_of_lt_of_le SE0 (ext_alloc _ _).size
        have Q : Hid (Below W.heap.size W v4) := by rw [hu]; exact ext_trans Q.out (ext_alloc _ _)
        clear hu hp hpd
        refine tr_eff rfl ?_
        intro J hJ
        go_wp2_with (refine wpList_pushI_g (o := ⟨some 33, _, _, _, _, _⟩) rfl (.tmp 30) (.tmp 32) 22 22 rfl 3 Try.underlying22 infoI e0 _ _ _ [] (by rfl) OE.out _ S xs (by rfl) ((h.out.ext (B.out.trans (Q.out.mono B.out.size))).src Try.underlying22) (by omega) (Nat.le_of_lt SE.out) ?_; intro A7 c7 v5 ho hb hg; have O7 := Lib.hid ho; have HB := Lib.hid hb; have HG := Lib.hid hg; clear ho hb hg; go_simp)
        rw [List.nil_append, Nat.zero_add] at O7
        have Q : Hid (Below W.heap.size W v5) := Lib.hid (Q.out.trans (HB.out.mono BE))
        refine ⟨by first | exact Q.out | exact fun _ => Q.out, ?_⟩
        try rw [Nat.zero_add]
        have PA := Lib.hid ((HG.out.block p (Array.getElem?_eq_some_iff.1 PA.out).1 (fun e => PE (Option.some.inj e))).trans PA.out)
        refine tr_pure (v := .agg #[.int .i64 0, .slice A7 S c7]) rfl (by rfl) (fun v hC => ?_) ?_
        · go_simp
        try go_simp
        refine tr_eff rfl ?_
        intro J hJ
        obtain ⟨c0, c1, f0, f1⟩ := full2f PA.out
        go_wp2_with fail
        refine ⟨by first | exact bel2 Q.out PZ _ _ | exact fun _ => bel2 Q.out PZ _ _, ?_⟩
        refine tr_nil (hJ0 _ _ ?_)
        go_wp2_with fail
        go_meet
        exact ⟨p, A7, c7, rfl, PZ, set2 PA.out _ _, (O7.out.kept2 PA.out hS0 _ _).base BE, bel2 Q.out PZ _ _⟩
    · intro J hJ
      go_wp2_with fail
      refine ⟨by first | exact ext_trans Q.out (ext_alloc _ _) | exact fun _ => ext_trans Q.out (ext_alloc _ _), ?_⟩
      obtain ⟨v6, hu⟩ : ∃ u, u = World.alloc V0 (.cells #[.int .i64 0, .slice none 0 0] 45) := ⟨_, rfl⟩
      rw [← hu]
      obtain ⟨p, hp⟩ : ∃ p, p = (V0).heap.size := ⟨_, rfl⟩
      have hpd : (V0).heap.size = p := hp.symm
      rw [hpd]
      have PA : Hid (v6.heap[p]? = some (.cells #[.int .i64 0, .slice none 0 0] 45 (0, 0))) := by rw [hu, hp]; exact Go.heap_alloc_new _ _
      have PZ : W.heap.size ≤ p := by rw [hp]; exact Q.out.size
      have Q : Hid (Below W.heap.size W v6) := by rw [hu]; exact ext_trans Q.out (ext_alloc _ _)
      clear hu hp hpd
      refine tr_eff rfl ?_
      intro J hJ
      go_wp2_with fail
      refine ⟨by first | exact ext_trans Q.out (ext_alloc _ _) | exact fun _ => ext_trans Q.out (ext_alloc _ _), ?_⟩
      obtain ⟨v7, hu⟩ : ∃ u, u = World.alloc v6 (.cells #[] 3) := ⟨_, rfl⟩
      rw [← hu]
      have OE : Hid (OwnI v7 3 v6.heap.size (some ⟨v6.heap.size, 0, none⟩) 0 0 []) := by rw [hu]; exact OwnI.empty _ _
      have BE : W.heap.size ≤ v6.heap.size := Q.out.size
      have SE : Hid (v6.heap.size < v7.heap.size) := by rw [hu]; show _ < _; simp
      have PE : p ≠ v6.heap.size := by have := (Array.getElem?_eq_some_iff.1 PA.out).1; omega
      have PA := Lib.hid (by rw [hu]; exact keepA2 PA.out : v7.heap[p]? = some (.cells #[.int .i64 0, .slice none 0 0] 45 (0, 0)))
      have Q : Hid (Below W.heap.size W v7) := by rw [hu]; exact ext_trans Q.out (ext_alloc _ _)
      clear hu
      generalize v6.heap.size = e0 at *
      refine tr_eff rfl ?_
      intro J hJ
      go_wp2_with (refine wpList_pushI_g (o := ⟨some 33, _, _, _, _, _⟩) rfl (.tmp 30) (.tmp 32) 22 22 rfl 3 Try.underlying22 infoI e0 _ _ _ [] (by rfl) OE.out _ S xs (by rfl) ((h.out.ext (B.out.trans (Q.out.mono B.out.size))).src Try.underlying22) (by omega) (Nat.le_of_lt SE.out) ?_; intro A7 c7 v8 ho hb hg; have O7 := Lib.hid ho; have HB := Lib.hid hb; have HG := Lib.hid hg; clear ho hb hg; go_simp)
      rw [List.nil_append, Nat.zero_add] at O7
      have Q : Hid (Below W.heap.size W v8) := Lib.hid (Q.out.trans (HB.out.mono BE))
      refine ⟨by first | exact Q.out | exact fun _ => Q.out, ?_⟩
      try rw [Nat.zero_add]
      have PA := Lib.hid ((HG.out.block p (Array.getElem?_eq_some_iff.1 PA.out).1 (fun e => PE (Option.some.inj e))).trans PA.out)
      refine tr_pure (v := .agg #[.int .i64 0, .slice A7 S c7]) rfl (by rfl) (fun v hC => ?_) ?_
      · go_simp
      try go_simp
      refine tr_eff rfl ?_
      intro J hJ
      obtain ⟨c0, c1, f0, f1⟩ := full2f PA.out
      go_wp2_with fail
      refine ⟨by first | exact bel2 Q.out PZ _ _ | exact fun _ => bel2 Q.out PZ _ _, ?_⟩
      refine tr_nil (hJ0 _ _ ?_)
      go_wp2_with fail
      go_meet
      exact ⟨p, A7, c7, rfl, PZ, set2 PA.out _ _, (O7.out.kept2 PA.out hS0 _ _).base BE, bel2 Q.out PZ _ _⟩
  case rest =>
    obtain ⟨p, A7, c7, rfl, zp, hp, ho, hbw⟩ := hcut
    rename World => V
    obtain ⟨g, rfl, zg, _⟩ := ho.blockless hS0
    have gp := own_other ho hS0 hp
    have P := Lib.hid hp
    have O := Lib.hid ho
    have wz : w.heap.size + 1 < W.heap.size := (Array.getElem?_eq_some_iff.1 R.out).1
    replace R := Lib.hid (keepB hbw R.out)
    replace B := Lib.hid (ext_trans B.out hbw)
    have zO := O.out.row_ge g rfl
    have cg := O.out.get (j := 0) hS0
    rw [← HY.out] at cg
    have fg := O.out.row.frozenAt 0
    have ST := Lib.hid (O.out.set 0 (y + left))
    have P2 : Hid ((V.setCell ⟨g, 0, none⟩ (.int .i64 (y + left))).drew.heap[p]? = some (.cells #[.int .i64 0, .slice (some ⟨g, 0, none⟩) S c7] 45 (0, 0))) := (Below.heap_setCell _ _ _ _ (fun e => gp e.symm)).trans P.out
    have R2 : Hid ((V.setCell ⟨g, 0, none⟩ (.int .i64 (y + left))).drew.heap[w.heap.size + 1]? = some (.cells #[.int .i64 0, .slice none 0 0] 45 (0, 0))) := (Below.heap_setCell _ _ _ _ (show w.heap.size + 1 ≠ g by omega)).trans R.out
    have B2 : Hid (Below w.heap.size w (V.setCell ⟨g, 0, none⟩ (.int .i64 (y + left))).drew) := Lib.hid (ext_trans (B.out.grown ST.out.2 B.out.size (fun k hk => by injection hk with hk; omega)) (ext_drew _))
    have zy : w.heap.size + 1 < V.heap.size := by omega
    have SO := Lib.hid (ST.out.1.ext (ext_drew _))
    clear hp ho hbw D h hx
    go_upto_region 8 with fail
    refine wp_region_schedF (fin := 11) (fun v => Below V.heap.size V v) [(true, 0), (true, 1), (true, 2), (true, 3), (true, 4), (true, 5), (true, 6), (true, 7), (true, 8), (true, 9), (true, 10), (false, 11)] (by kernel_rfl) rfl (by kernel_rfl) (by kernel_rfl) (by kernel_rfl) (fun _ _ d _ _ h => by cases d <;> exact h) (ext_drew V) ?_
    intro J0 hJ0
    iterate 11 (refine schedF_pure (v := ?_) rfl (by rfl) ?_ ?_; rotate_left; (focus (intro v hC; obtain ⟨d0, d1, _, _⟩ := full2f (keepB hC P.out); have dg := (hC.cell (p := ⟨g, 0, none⟩) zO.2).trans cg; go_simp; try with_reducible rfl)); try go_simp)
    refine schedF_eff rfl ?_
    intro J hJ
    have cg2 := (Below.cell (p := ⟨g, 0, none⟩) (ext_drew V) zO.2).trans cg
    have fg2 : V.drew.frozen? ⟨g, 0, none⟩ = false := fg
    go_wp2_with fail
    first | refine hJ0 _ _ ?_ | (refine ⟨by first | exact fun h => absurd rfl h | trivial, ?_⟩; refine schedF_nil (hJ0 _ _ ?_))
    clear hJ0 cg fg cg2 fg2 ST
    generalize (V.setCell ⟨g, 0, none⟩ (.int .i64 (y + left))).drew = V2 at *
    obtain ⟨d0, d1, _, _⟩ := full2f P2.out
    obtain ⟨r0, r1, r2, r3⟩ := full2f R2.out
    go_wp2_with fail
    have SS := set2 R2.out (.int .i64 0) (.slice (some ⟨g, 0, none⟩) S c7)
    obtain ⟨g0, g1, _, _⟩ := full2f SS
    refine bodyPost_ret (v := .tuple #[.agg #[.int .i64 0, .slice (some ⟨g, 0, none⟩) S c7], .int .i64 left]) (by simp only [results, Try.results25]; simp [go_sem, g0, g1]) rfl ?_
    refine ⟨_, _, by rw [show L = 0 by omega], ?_, bel2 B2.out (by omega) _ _⟩
    rw [← HY.out]
    exact (SO.out.kept (World.grownBy.trans1 (grownBy_set' (b := w.heap.size + 1) (j := 0) _) (grownBy_set' (b := w.heap.size + 1) (j := 1) _)) (fun k hk => by injection hk with hk; omega)).base (show w.heap.size ≤ W.heap.size by omega)


set_option maxRecDepth 100000 in
set_option maxHeartbeats 4000000 in
theorem rpay_01 (w : World) (left : Int) (S : Nat) (A : Option Addr) (c : Nat) (xs : List Int) (h : Hid (RdI w A S c xs)) (h1 : 1 ≤ S) (h8 : S ≤ 8) (l0 : 0 ≤ left) (l1 : left ≤ 1125899906842624) (hx : Hid (∀ y ∈ xs, 0 ≤ y ∧ y + left ≤ 1125899906842624)) (sv : Int) (s1 : sv < 0) (ask : Int) (a1 : ¬ left < ask) (a2 : ask < 0) (L : Int) (hL : L = left - 0) :
    Calls Try.prog 25 #[.agg #[.int .i64 left, .slice A S c], .int .i64 sv, .int .i64 ask] w (RPays w L S xs 0 0) := by
  have hS0 : 0 < S := by omega
  have hle := h.out.le
  have hmax := h.out.max
  have hlen := h.out.len
  obtain ⟨y, hy⟩ : ∃ y, y = xs.getD 0 0 := ⟨_, rfl⟩
  have hym : y ∈ xs := by rw [hy, show xs.getD 0 0 = xs[0]'(by omega) by simp [show 0 < xs.length by omega]]; exact List.getElem_mem _
  obtain ⟨y0, y1⟩ := hx.out y hym
  have wr : IntKind.i64.wrap (left - 0) = left - 0 := IntWalk.i64_in _ (by omega)
  have wr0 : IntKind.i64.wrap left = left := IntWalk.i64_in _ (by omega)
  have wr1 : IntKind.i64.wrap (y + 0) = y + 0 := IntWalk.i64_in _ (by omega)
  have wr2 : IntKind.i64.wrap y = y := IntWalk.i64_in _ (by omega)
  have HY := Lib.hid hy
  clear hy hym
  go_enter Try.func25, Try.ntmps25
  go_upto_region 1 with fail
  generalize hW : World.alloc (World.alloc w (.cells #[.int .i64 left, .slice A S c] 45)) (.cells #[.int .i64 0, .slice none 0 0] 45) = W
  have D : Hid (W.heap[w.heap.size]? = some (.cells #[.int .i64 left, .slice A S c] 45 (0, 0))) := by rw [← hW]; exact keepA2 (Go.heap_alloc_new w _)
  have R : Hid (W.heap[w.heap.size + 1]? = some (.cells #[.int .i64 0, .slice none 0 0] 45 (0, 0))) := by rw [← hW, show w.heap.size + 1 = (World.alloc w (.cells #[.int .i64 left, .slice A S c] 45)).heap.size by simp]; exact Go.heap_alloc_new _ _
  have B : Hid (Below w.heap.size w W) := by rw [← hW]; exact ext_trans (ext_alloc _ _) (ext_alloc _ _)
  clear hW
  obtain ⟨d0, d1, _, _⟩ := full2f D.out
  go_upto_region 7 with fail
  clear d0 d1
  go_cut [8] (fun x wx => RMade left S xs W x wx)
  case first =>
    refine wp_region_tr (fin := 99) (fun v => Below W.heap.size W v) (.pure 0 (.pure 1 (.pure 2 (.pure 3 (.pure 5 (.pure 6 (.two 4 (.two 7 (.pure 8 (.eff 9 (.eff 10 .nil))) 9 (.eff 7 (.pure 8 (.eff 10 .nil)))) 9 (.eff 4 (.eff 7 (.pure 8 (.eff 10 .nil))))))))))) (by kernel_rfl) (by kernel_rfl) (by kernel_rfl) (fun _ _ d _ _ h => by cases d <;> exact h) (ext_drew W) ?_
    intro J0 hJ0
    iterate 6 (refine tr_pure (v := ?_) rfl (by rfl) ?_ ?_; rotate_left; (focus (intro v hC; obtain ⟨d0, d1, _, _⟩ := full2f (keepB hC D.out); go_simp; try with_reducible rfl)); try go_simp)
    have Q : Hid (Below W.heap.size W W.drew) := Lib.hid (ext_drew W)
    generalize W.drew = V0 at *
    refine tr_two rfl rfl ?_ ?_
    · intro J hJ
      go_wp2_with fail
      refine ⟨by first | exact ext_trans Q.out (ext_alloc _ _) | exact fun _ => ext_trans Q.out (ext_alloc _ _), ?_⟩
      obtain ⟨v1, hu⟩ : ∃ u, u = World.alloc V0 (.cells #[] 3) := ⟨_, rfl⟩
      rw [← hu]
      have OE : Hid (OwnI v1 3 V0.heap.size (some ⟨V0.heap.size, 0, none⟩) 0 0 []) := by rw [hu]; exact OwnI.empty _ _
      have BE : W.heap.size ≤ V0.heap.size := Q.out.size
      have SE : Hid (V0.heap.size < v1.heap.size) := by rw [hu]; show _ < _; simp
      have Q : Hid (Below W.heap.size W v1) := by rw [hu]; exact ext_trans Q.out (ext_alloc _ _)
      clear hu
      generalize V0.heap.size = e0 at *
      refine tr_two rfl rfl ?_ ?_
      · intro J hJ
        go_wp2_with (refine wpList_pushI_g (o := ⟨some 33, _, _, _, _, _⟩) rfl (.tmp 30) (.tmp 32) 22 22 rfl 3 Try.underlying22 infoI e0 _ _ _ [] (by rfl) OE.out _ S xs (by rfl) ((h.out.ext (B.out.trans (Q.out.mono B.out.size))).src Try.underlying22) (by omega) (Nat.le_of_lt SE.out) ?_; intro A7 c7 v2 ho hb hg; have O7 := Lib.hid ho; have HB := Lib.hid hb; have HG := Lib.hid hg; clear ho hb hg; go_simp)
        rw [List.nil_append, Nat.zero_add] at O7
        have Q : Hid (Below W.heap.size W v2) := Lib.hid (Q.out.trans (HB.out.mono BE))
        refine ⟨by first | exact Q.out | exact fun _ => Q.out, ?_⟩
        try rw [Nat.zero_add]
        refine tr_pure (v := .agg #[.int .i64 left, .slice A7 S c7]) rfl (by rfl) (fun v hC => ?_) ?_
        · go_simp
        try go_simp
        refine tr_eff rfl ?_
        intro J hJ
        go_wp2_with fail
        refine ⟨by first | exact ext_trans Q.out (ext_alloc _ _) | exact fun _ => ext_trans Q.out (ext_alloc _ _), ?_⟩
        obtain ⟨v3, hu⟩ : ∃ u, u = World.alloc v2 (.cells #[.int .i64 0, .slice none 0 0] 45) := ⟨_, rfl⟩
        rw [← hu]
        obtain ⟨p, hp⟩ : ∃ p, p = (v2).heap.size := ⟨_, rfl⟩
        have hpd : (v2).heap.size = p := hp.symm
        rw [hpd]
        have PA : Hid (v3.heap[p]? = some (.cells #[.int .i64 0, .slice none 0 0] 45 (0, 0))) := by rw [hu, hp]; exact Go.heap_alloc_new _ _
        have PZ : W.heap.size ≤ p := by rw [hp]; exact Q.out.size
        have O7 := Lib.hid (by rw [hu]; exact O7.out.ext (ext_alloc _ _) : OwnI v3 3 e0 A7 S c7 xs)
        have Q : Hid (Below W.heap.size W v3) := by rw [hu]; exact ext_trans Q.out (ext_alloc _ _)
        clear hu hp hpd
        refine tr_eff rfl ?_
        intro J hJ
        obtain ⟨c0, c1, f0, f1⟩ := full2f PA.out
        go_wp2_with fail
        refine ⟨by first | exact bel2 Q.out PZ _ _ | exact fun _ => bel2 Q.out PZ _ _, ?_⟩
        refine tr_nil (hJ0 _ _ ?_)
        go_wp2_with fail
        go_meet
        exact ⟨p, A7, c7, rfl, PZ, set2 PA.out _ _, (O7.out.kept2 PA.out hS0 _ _).base BE, bel2 Q.out PZ _ _⟩
      · intro J hJ
        go_wp2_with fail
        refine ⟨by first | exact ext_trans Q.out (ext_alloc _ _) | exact fun _ => ext_trans Q.out (ext_alloc _ _), ?_⟩
        obtain ⟨v4, hu⟩ : ∃ u, u = World.alloc v1 (.cells #[.int .i64 0, .slice none 0 0] 45) := ⟨_, rfl⟩
        rw [← hu]
        obtain ⟨p, hp⟩ : ∃ p, p = (v1).heap.size := ⟨_, rfl⟩
        have hpd : (v1).heap.size = p := hp.symm
        rw [hpd]
        have PA : Hid (v4.heap[p]? = some (.cells #[.int .i64 0, .slice none 0 0] 45 (0, 0))) := by rw [hu, hp]; exact Go.heap_alloc_new _ _
        have PZ : W.heap.size ≤ p := by rw [hp]; exact Q.out.size
        have OE := Lib.hid (by rw [hu]; exact OE.out.ext (ext_alloc _ _) : OwnI v4 3 e0 (some ⟨e0, 0, none⟩) 0 0 [])
        have SE0 := SE.out
        have PE : p ≠ e0 := by omega
        have SE : Hid (e0 < v4.heap.size) := by rw [hu]; exact Nat.lt_of_lt_of_le SE0 (ext_alloc _ _).size
        have Q : Hid (Below W.heap.size W v4) := by rw [hu]; exact ext_trans Q.out (ext_alloc _ _)
        clear hu hp hpd
        refine tr_eff rfl ?_
        intro J hJ
        go_wp2_with (refine wpList_pushI_g (o := ⟨some 33, _, _, _, _, _⟩) rfl (.tmp 30) (.tmp 32) 22 22 rfl 3 Try.underlying22 infoI e0 _ _ _ [] (by rfl) OE.out _ S xs (by rfl) ((h.out.ext (B.out.trans (Q.out.mono B.out.size))).src Try.underlying22) (by omega) (Nat.le_of_lt SE.out) ?_; intro A7 c7 v5 ho hb hg; have O7 := Lib.hid ho; have HB := Lib.hid hb; have HG := Lib.hid hg; clear ho hb hg; go_simp)
        rw [List.nil_append, Nat.zero_add] at O7
        have Q : Hid (Below W.heap.size W v5) := Lib.hid (Q.out.trans (HB.out.mono BE))
        refine ⟨by first | exact Q.out | exact fun _ => Q.out, ?_⟩
        try rw [Nat.zero_add]
        have PA := Lib.hid ((HG.out.block p (Array.getElem?_eq_some_iff.1 PA.out).1 (fun e => PE (Option.some.inj e))).trans PA.out)
        refine tr_pure (v := .agg #[.int .i64 left, .slice A7 S c7]) rfl (by rfl) (fun v hC => ?_) ?_
        · go_simp
        try go_simp
        refine tr_eff rfl ?_
        intro J hJ
        obtain ⟨c0, c1, f0, f1⟩ := full2f PA.out
        go_wp2_with fail
        refine ⟨by first | exact bel2 Q.out PZ _ _ | exact fun _ => bel2 Q.out PZ _ _, ?_⟩
        refine tr_nil (hJ0 _ _ ?_)
        go_wp2_with fail
        go_meet
        exact ⟨p, A7, c7, rfl, PZ, set2 PA.out _ _, (O7.out.kept2 PA.out hS0 _ _).base BE, bel2 Q.out PZ _ _⟩
    · intro J hJ
      go_wp2_with fail
      refine ⟨by first | exact ext_trans Q.out (ext_alloc _ _) | exact fun _ => ext_trans Q.out (ext_alloc _ _), ?_⟩
      obtain ⟨v6, hu⟩ : ∃ u, u = World.alloc V0 (.cells #[.int .i64 0, .slice none 0 0] 45) := ⟨_, rfl⟩
      rw [← hu]
      obtain ⟨p, hp⟩ : ∃ p, p = (V0).heap.size := ⟨_, rfl⟩
      have hpd : (V0).heap.size = p := hp.symm
      rw [hpd]
      have PA : Hid (v6.heap[p]? = some (.cells #[.int .i64 0, .slice none 0 0] 45 (0, 0))) := by rw [hu, hp]; exact Go.heap_alloc_new _ _
      have PZ : W.heap.size ≤ p := by rw [hp]; exact Q.out.size
      have Q : Hid (Below W.heap.size W v6) := by rw [hu]; exact ext_trans Q.out (ext_alloc _ _)
      clear hu hp hpd
      refine tr_eff rfl ?_
      intro J hJ
      go_wp2_with fail
      refine ⟨by first | exact ext_trans Q.out (ext_alloc _ _) | exact fun _ => ext_trans Q.out (ext_alloc _ _), ?_⟩
      obtain ⟨v7, hu⟩ : ∃ u, u = World.alloc v6 (.cells #[] 3) := ⟨_, rfl⟩
      rw [← hu]
      have OE : Hid (OwnI v7 3 v6.heap.size (some ⟨v6.heap.size, 0, none⟩) 0 0 []) := by rw [hu]; exact OwnI.empty _ _
      have BE : W.heap.size ≤ v6.heap.size := Q.out.size
      have SE : Hid (v6.heap.size < v7.heap.size) := by rw [hu]; show _ < _; simp
      have PE : p ≠ v6.heap.size := by have := (Array.getElem?_eq_some_iff.1 PA.out).1; omega
      have PA := Lib.hid (by rw [hu]; exact keepA2 PA.out : v7.heap[p]? = some (.cells #[.int .i64 0, .slice none 0 0] 45 (0, 0)))
      have Q : Hid (Below W.heap.size W v7) := by rw [hu]; exact ext_trans Q.out (ext_alloc _ _)
      clear hu
      generalize v6.heap.size = e0 at *
      refine tr_eff rfl ?_
      intro J hJ
      go_wp2_with (refine wpList_pushI_g (o := ⟨some 33, _, _, _, _, _⟩) rfl (.tmp 30) (.tmp 32) 22 22 rfl 3 Try.underlying22 infoI e0 _ _ _ [] (by rfl) OE.out _ S xs (by rfl) ((h.out.ext (B.out.trans (Q.out.mono B.out.size))).src Try.underlying22) (by omega) (Nat.le_of_lt SE.out) ?_; intro A7 c7 v8 ho hb hg; have O7 := Lib.hid ho; have HB := Lib.hid hb; have HG := Lib.hid hg; clear ho hb hg; go_simp)
      rw [List.nil_append, Nat.zero_add] at O7
      have Q : Hid (Below W.heap.size W v8) := Lib.hid (Q.out.trans (HB.out.mono BE))
      refine ⟨by first | exact Q.out | exact fun _ => Q.out, ?_⟩
      try rw [Nat.zero_add]
      have PA := Lib.hid ((HG.out.block p (Array.getElem?_eq_some_iff.1 PA.out).1 (fun e => PE (Option.some.inj e))).trans PA.out)
      refine tr_pure (v := .agg #[.int .i64 left, .slice A7 S c7]) rfl (by rfl) (fun v hC => ?_) ?_
      · go_simp
      try go_simp
      refine tr_eff rfl ?_
      intro J hJ
      obtain ⟨c0, c1, f0, f1⟩ := full2f PA.out
      go_wp2_with fail
      refine ⟨by first | exact bel2 Q.out PZ _ _ | exact fun _ => bel2 Q.out PZ _ _, ?_⟩
      refine tr_nil (hJ0 _ _ ?_)
      go_wp2_with fail
      go_meet
      exact ⟨p, A7, c7, rfl, PZ, set2 PA.out _ _, (O7.out.kept2 PA.out hS0 _ _).base BE, bel2 Q.out PZ _ _⟩
  case rest =>
    obtain ⟨p, A7, c7, rfl, zp, hp, ho, hbw⟩ := hcut
    rename World => V
    obtain ⟨g, rfl, zg, _⟩ := ho.blockless hS0
    have gp := own_other ho hS0 hp
    have P := Lib.hid hp
    have O := Lib.hid ho
    have wz : w.heap.size + 1 < W.heap.size := (Array.getElem?_eq_some_iff.1 R.out).1
    replace R := Lib.hid (keepB hbw R.out)
    replace B := Lib.hid (ext_trans B.out hbw)
    have zO := O.out.row_ge g rfl
    have cg := O.out.get (j := 0) hS0
    rw [← HY.out] at cg
    have fg := O.out.row.frozenAt 0
    have ST := Lib.hid (O.out.set 0 y)
    have P2 : Hid ((V.setCell ⟨g, 0, none⟩ (.int .i64 y)).drew.heap[p]? = some (.cells #[.int .i64 left, .slice (some ⟨g, 0, none⟩) S c7] 45 (0, 0))) := (Below.heap_setCell _ _ _ _ (fun e => gp e.symm)).trans P.out
    have R2 : Hid ((V.setCell ⟨g, 0, none⟩ (.int .i64 y)).drew.heap[w.heap.size + 1]? = some (.cells #[.int .i64 0, .slice none 0 0] 45 (0, 0))) := (Below.heap_setCell _ _ _ _ (show w.heap.size + 1 ≠ g by omega)).trans R.out
    have B2 : Hid (Below w.heap.size w (V.setCell ⟨g, 0, none⟩ (.int .i64 y)).drew) := Lib.hid (ext_trans (B.out.grown ST.out.2 B.out.size (fun k hk => by injection hk with hk; omega)) (ext_drew _))
    have zy : w.heap.size + 1 < V.heap.size := by omega
    have SO := Lib.hid (ST.out.1.ext (ext_drew _))
    clear hp ho hbw D h hx
    go_upto_region 8 with fail
    refine wp_region_schedF (fin := 11) (fun v => Below V.heap.size V v) [(true, 0), (true, 1), (true, 2), (true, 3), (true, 4), (true, 5), (true, 6), (true, 7), (true, 8), (true, 9), (true, 10), (false, 11)] (by kernel_rfl) rfl (by kernel_rfl) (by kernel_rfl) (by kernel_rfl) (fun _ _ d _ _ h => by cases d <;> exact h) (ext_drew V) ?_
    intro J0 hJ0
    iterate 11 (refine schedF_pure (v := ?_) rfl (by rfl) ?_ ?_; rotate_left; (focus (intro v hC; obtain ⟨d0, d1, _, _⟩ := full2f (keepB hC P.out); have dg := (hC.cell (p := ⟨g, 0, none⟩) zO.2).trans cg; go_simp; try with_reducible rfl)); try go_simp)
    refine schedF_eff rfl ?_
    intro J hJ
    have cg2 := (Below.cell (p := ⟨g, 0, none⟩) (ext_drew V) zO.2).trans cg
    have fg2 : V.drew.frozen? ⟨g, 0, none⟩ = false := fg
    go_wp2_with fail
    first | refine hJ0 _ _ ?_ | (refine ⟨by first | exact fun h => absurd rfl h | trivial, ?_⟩; refine schedF_nil (hJ0 _ _ ?_))
    clear hJ0 cg fg cg2 fg2 ST
    generalize (V.setCell ⟨g, 0, none⟩ (.int .i64 y)).drew = V2 at *
    obtain ⟨d0, d1, _, _⟩ := full2f P2.out
    obtain ⟨r0, r1, r2, r3⟩ := full2f R2.out
    go_wp2_with fail
    have SS := set2 R2.out (.int .i64 left) (.slice (some ⟨g, 0, none⟩) S c7)
    obtain ⟨g0, g1, _, _⟩ := full2f SS
    refine bodyPost_ret (v := .tuple #[.agg #[.int .i64 left, .slice (some ⟨g, 0, none⟩) S c7], .int .i64 0]) (by simp only [results, Try.results25]; simp [go_sem, g0, g1]) rfl ?_
    refine ⟨_, _, by rw [show L = left by omega], ?_, bel2 B2.out (by omega) _ _⟩
    rw [← HY.out, Int.add_zero]
    exact (SO.out.kept (World.grownBy.trans1 (grownBy_set' (b := w.heap.size + 1) (j := 0) _) (grownBy_set' (b := w.heap.size + 1) (j := 1) _)) (fun k hk => by injection hk with hk; omega)).base (show w.heap.size ≤ W.heap.size by omega)


set_option maxRecDepth 100000 in
set_option maxHeartbeats 4000000 in
theorem rpay_02 (w : World) (left : Int) (S : Nat) (A : Option Addr) (c : Nat) (xs : List Int) (h : Hid (RdI w A S c xs)) (h1 : 1 ≤ S) (h8 : S ≤ 8) (l0 : 0 ≤ left) (l1 : left ≤ 1125899906842624) (hx : Hid (∀ y ∈ xs, 0 ≤ y ∧ y + left ≤ 1125899906842624)) (sv : Int) (s1 : sv < 0) (ask : Int) (a1 : ¬ left < ask) (a2 : ¬ ask < 0) (L : Int) (hL : L = left - ask) :
    Calls Try.prog 25 #[.agg #[.int .i64 left, .slice A S c], .int .i64 sv, .int .i64 ask] w (RPays w L S xs 0 ask) := by
  have hS0 : 0 < S := by omega
  have hle := h.out.le
  have hmax := h.out.max
  have hlen := h.out.len
  obtain ⟨y, hy⟩ : ∃ y, y = xs.getD 0 0 := ⟨_, rfl⟩
  have hym : y ∈ xs := by rw [hy, show xs.getD 0 0 = xs[0]'(by omega) by simp [show 0 < xs.length by omega]]; exact List.getElem_mem _
  obtain ⟨y0, y1⟩ := hx.out y hym
  have wr : IntKind.i64.wrap (left - ask) = left - ask := IntWalk.i64_in _ (by omega)
  have wr0 : IntKind.i64.wrap left = left := IntWalk.i64_in _ (by omega)
  have wr1 : IntKind.i64.wrap (y + ask) = y + ask := IntWalk.i64_in _ (by omega)
  have wr2 : IntKind.i64.wrap y = y := IntWalk.i64_in _ (by omega)
  have HY := Lib.hid hy
  clear hy hym
  go_enter Try.func25, Try.ntmps25
  go_upto_region 1 with fail
  generalize hW : World.alloc (World.alloc w (.cells #[.int .i64 left, .slice A S c] 45)) (.cells #[.int .i64 0, .slice none 0 0] 45) = W
  have D : Hid (W.heap[w.heap.size]? = some (.cells #[.int .i64 left, .slice A S c] 45 (0, 0))) := by rw [← hW]; exact keepA2 (Go.heap_alloc_new w _)
  have R : Hid (W.heap[w.heap.size + 1]? = some (.cells #[.int .i64 0, .slice none 0 0] 45 (0, 0))) := by rw [← hW, show w.heap.size + 1 = (World.alloc w (.cells #[.int .i64 left, .slice A S c] 45)).heap.size by simp]; exact Go.heap_alloc_new _ _
  have B : Hid (Below w.heap.size w W) := by rw [← hW]; exact ext_trans (ext_alloc _ _) (ext_alloc _ _)
  clear hW
  obtain ⟨d0, d1, _, _⟩ := full2f D.out
  go_upto_region 7 with fail
  clear d0 d1
  go_cut [8] (fun x wx => RMade (left - ask) S xs W x wx)
  case first =>
    refine wp_region_tr (fin := 99) (fun v => Below W.heap.size W v) (.pure 0 (.pure 1 (.pure 2 (.pure 3 (.pure 5 (.pure 6 (.two 4 (.two 7 (.pure 8 (.eff 9 (.eff 10 .nil))) 9 (.eff 7 (.pure 8 (.eff 10 .nil)))) 9 (.eff 4 (.eff 7 (.pure 8 (.eff 10 .nil))))))))))) (by kernel_rfl) (by kernel_rfl) (by kernel_rfl) (fun _ _ d _ _ h => by cases d <;> exact h) (ext_drew W) ?_
    intro J0 hJ0
    iterate 6 (refine tr_pure (v := ?_) rfl (by rfl) ?_ ?_; rotate_left; (focus (intro v hC; obtain ⟨d0, d1, _, _⟩ := full2f (keepB hC D.out); go_simp; try with_reducible rfl)); try go_simp)
    have Q : Hid (Below W.heap.size W W.drew) := Lib.hid (ext_drew W)
    generalize W.drew = V0 at *
    refine tr_two rfl rfl ?_ ?_
    · intro J hJ
      go_wp2_with fail
      refine ⟨by first | exact ext_trans Q.out (ext_alloc _ _) | exact fun _ => ext_trans Q.out (ext_alloc _ _), ?_⟩
      obtain ⟨v1, hu⟩ : ∃ u, u = World.alloc V0 (.cells #[] 3) := ⟨_, rfl⟩
      rw [← hu]
      have OE : Hid (OwnI v1 3 V0.heap.size (some ⟨V0.heap.size, 0, none⟩) 0 0 []) := by rw [hu]; exact OwnI.empty _ _
      have BE : W.heap.size ≤ V0.heap.size := Q.out.size
      have SE : Hid (V0.heap.size < v1.heap.size) := by rw [hu]; show _ < _; simp
      have Q : Hid (Below W.heap.size W v1) := by rw [hu]; exact ext_trans Q.out (ext_alloc _ _)
      clear hu
      generalize V0.heap.size = e0 at *
      refine tr_two rfl rfl ?_ ?_
      · intro J hJ
        go_wp2_with (refine wpList_pushI_g (o := ⟨some 33, _, _, _, _, _⟩) rfl (.tmp 30) (.tmp 32) 22 22 rfl 3 Try.underlying22 infoI e0 _ _ _ [] (by rfl) OE.out _ S xs (by rfl) ((h.out.ext (B.out.trans (Q.out.mono B.out.size))).src Try.underlying22) (by omega) (Nat.le_of_lt SE.out) ?_; intro A7 c7 v2 ho hb hg; have O7 := Lib.hid ho; have HB := Lib.hid hb; have HG := Lib.hid hg; clear ho hb hg; go_simp)
        rw [List.nil_append, Nat.zero_add] at O7
        have Q : Hid (Below W.heap.size W v2) := Lib.hid (Q.out.trans (HB.out.mono BE))
        refine ⟨by first | exact Q.out | exact fun _ => Q.out, ?_⟩
        try rw [Nat.zero_add]
        refine tr_pure (v := .agg #[.int .i64 (left - ask), .slice A7 S c7]) rfl (by rfl) (fun v hC => ?_) ?_
        · go_simp
        try go_simp
        refine tr_eff rfl ?_
        intro J hJ
        go_wp2_with fail
        refine ⟨by first | exact ext_trans Q.out (ext_alloc _ _) | exact fun _ => ext_trans Q.out (ext_alloc _ _), ?_⟩
        obtain ⟨v3, hu⟩ : ∃ u, u = World.alloc v2 (.cells #[.int .i64 0, .slice none 0 0] 45) := ⟨_, rfl⟩
        rw [← hu]
        obtain ⟨p, hp⟩ : ∃ p, p = (v2).heap.size := ⟨_, rfl⟩
        have hpd : (v2).heap.size = p := hp.symm
        rw [hpd]
        have PA : Hid (v3.heap[p]? = some (.cells #[.int .i64 0, .slice none 0 0] 45 (0, 0))) := by rw [hu, hp]; exact Go.heap_alloc_new _ _
        have PZ : W.heap.size ≤ p := by rw [hp]; exact Q.out.size
        have O7 := Lib.hid (by rw [hu]; exact O7.out.ext (ext_alloc _ _) : OwnI v3 3 e0 A7 S c7 xs)
        have Q : Hid (Below W.heap.size W v3) := by rw [hu]; exact ext_trans Q.out (ext_alloc _ _)
        clear hu hp hpd
        refine tr_eff rfl ?_
        intro J hJ
        obtain ⟨c0, c1, f0, f1⟩ := full2f PA.out
        go_wp2_with fail
        refine ⟨by first | exact bel2 Q.out PZ _ _ | exact fun _ => bel2 Q.out PZ _ _, ?_⟩
        refine tr_nil (hJ0 _ _ ?_)
        go_wp2_with fail
        go_meet
        exact ⟨p, A7, c7, rfl, PZ, set2 PA.out _ _, (O7.out.kept2 PA.out hS0 _ _).base BE, bel2 Q.out PZ _ _⟩
      · intro J hJ
        go_wp2_with fail
        refine ⟨by first | exact ext_trans Q.out (ext_alloc _ _) | exact fun _ => ext_trans Q.out (ext_alloc _ _), ?_⟩
        obtain ⟨v4, hu⟩ : ∃ u, u = World.alloc v1 (.cells #[.int .i64 0, .slice none 0 0] 45) := ⟨_, rfl⟩
        rw [← hu]
        obtain ⟨p, hp⟩ : ∃ p, p = (v1).heap.size := ⟨_, rfl⟩
        have hpd : (v1).heap.size = p := hp.symm
        rw [hpd]
        have PA : Hid (v4.heap[p]? = some (.cells #[.int .i64 0, .slice none 0 0] 45 (0, 0))) := by rw [hu, hp]; exact Go.heap_alloc_new _ _
        have PZ : W.heap.size ≤ p := by rw [hp]; exact Q.out.size
        have OE := Lib.hid (by rw [hu]; exact OE.out.ext (ext_alloc _ _) : OwnI v4 3 e0 (some ⟨e0, 0, none⟩) 0 0 [])
        have SE0 := SE.out
        have PE : p ≠ e0 := by omega
        have SE : Hid (e0 < v4.heap.size) := by rw [hu]; exact Nat.lt_of_lt_of_le SE0 (ext_alloc _ _).size
        have Q : Hid (Below W.heap.size W v4) := by rw [hu]; exact ext_trans Q.out (ext_alloc _ _)
        clear hu hp hpd
        refine tr_eff rfl ?_
        intro J hJ
        go_wp2_with (refine wpList_pushI_g (o := ⟨some 33, _, _, _, _, _⟩) rfl (.tmp 30) (.tmp 32) 22 22 rfl 3 Try.underlying22 infoI e0 _ _ _ [] (by rfl) OE.out _ S xs (by rfl) ((h.out.ext (B.out.trans (Q.out.mono B.out.size))).src Try.underlying22) (by omega) (Nat.le_of_lt SE.out) ?_; intro A7 c7 v5 ho hb hg; have O7 := Lib.hid ho; have HB := Lib.hid hb; have HG := Lib.hid hg; clear ho hb hg; go_simp)
        rw [List.nil_append, Nat.zero_add] at O7
        have Q : Hid (Below W.heap.size W v5) := Lib.hid (Q.out.trans (HB.out.mono BE))
        refine ⟨by first | exact Q.out | exact fun _ => Q.out, ?_⟩
        try rw [Nat.zero_add]
        have PA := Lib.hid ((HG.out.block p (Array.getElem?_eq_some_iff.1 PA.out).1 (fun e => PE (Option.some.inj e))).trans PA.out)
        refine tr_pure (v := .agg #[.int .i64 (left - ask), .slice A7 S c7]) rfl (by rfl) (fun v hC => ?_) ?_
        · go_simp
        try go_simp
        refine tr_eff rfl ?_
        intro J hJ
        obtain ⟨c0, c1, f0, f1⟩ := full2f PA.out
        go_wp2_with fail
        refine ⟨by first | exact bel2 Q.out PZ _ _ | exact fun _ => bel2 Q.out PZ _ _, ?_⟩
        refine tr_nil (hJ0 _ _ ?_)
        go_wp2_with fail
        go_meet
        exact ⟨p, A7, c7, rfl, PZ, set2 PA.out _ _, (O7.out.kept2 PA.out hS0 _ _).base BE, bel2 Q.out PZ _ _⟩
    · intro J hJ
      go_wp2_with fail
      refine ⟨by first | exact ext_trans Q.out (ext_alloc _ _) | exact fun _ => ext_trans Q.out (ext_alloc _ _), ?_⟩
      obtain ⟨v6, hu⟩ : ∃ u, u = World.alloc V0 (.cells #[.int .i64 0, .slice none 0 0] 45) := ⟨_, rfl⟩
      rw [← hu]
      obtain ⟨p, hp⟩ : ∃ p, p = (V0).heap.size := ⟨_, rfl⟩
      have hpd : (V0).heap.size = p := hp.symm
      rw [hpd]
      have PA : Hid (v6.heap[p]? = some (.cells #[.int .i64 0, .slice none 0 0] 45 (0, 0))) := by rw [hu, hp]; exact Go.heap_alloc_new _ _
      have PZ : W.heap.size ≤ p := by rw [hp]; exact Q.out.size
      have Q : Hid (Below W.heap.size W v6) := by rw [hu]; exact ext_trans Q.out (ext_alloc _ _)
      clear hu hp hpd
      refine tr_eff rfl ?_
      intro J hJ
      go_wp2_with fail
      refine ⟨by first | exact ext_trans Q.out (ext_alloc _ _) | exact fun _ => ext_trans Q.out (ext_alloc _ _), ?_⟩
      obtain ⟨v7, hu⟩ : ∃ u, u = World.alloc v6 (.cells #[] 3) := ⟨_, rfl⟩
      rw [← hu]
      have OE : Hid (OwnI v7 3 v6.heap.size (some ⟨v6.heap.size, 0, none⟩) 0 0 []) := by rw [hu]; exact OwnI.empty _ _
      have BE : W.heap.size ≤ v6.heap.size := Q.out.size
      have SE : Hid (v6.heap.size < v7.heap.size) := by rw [hu]; show _ < _; simp
      have PE : p ≠ v6.heap.size := by have := (Array.getElem?_eq_some_iff.1 PA.out).1; omega
      have PA := Lib.hid (by rw [hu]; exact keepA2 PA.out : v7.heap[p]? = some (.cells #[.int .i64 0, .slice none 0 0] 45 (0, 0)))
      have Q : Hid (Below W.heap.size W v7) := by rw [hu]; exact ext_trans Q.out (ext_alloc _ _)
      clear hu
      generalize v6.heap.size = e0 at *
      refine tr_eff rfl ?_
      intro J hJ
      go_wp2_with (refine wpList_pushI_g (o := ⟨some 33, _, _, _, _, _⟩) rfl (.tmp 30) (.tmp 32) 22 22 rfl 3 Try.underlying22 infoI e0 _ _ _ [] (by rfl) OE.out _ S xs (by rfl) ((h.out.ext (B.out.trans (Q.out.mono B.out.size))).src Try.underlying22) (by omega) (Nat.le_of_lt SE.out) ?_; intro A7 c7 v8 ho hb hg; have O7 := Lib.hid ho; have HB := Lib.hid hb; have HG := Lib.hid hg; clear ho hb hg; go_simp)
      rw [List.nil_append, Nat.zero_add] at O7
      have Q : Hid (Below W.heap.size W v8) := Lib.hid (Q.out.trans (HB.out.mono BE))
      refine ⟨by first | exact Q.out | exact fun _ => Q.out, ?_⟩
      try rw [Nat.zero_add]
      have PA := Lib.hid ((HG.out.block p (Array.getElem?_eq_some_iff.1 PA.out).1 (fun e => PE (Option.some.inj e))).trans PA.out)
      refine tr_pure (v := .agg #[.int .i64 (left - ask), .slice A7 S c7]) rfl (by rfl) (fun v hC => ?_) ?_
      · go_simp
      try go_simp
      refine tr_eff rfl ?_
      intro J hJ
      obtain ⟨c0, c1, f0, f1⟩ := full2f PA.out
      go_wp2_with fail
      refine ⟨by first | exact bel2 Q.out PZ _ _ | exact fun _ => bel2 Q.out PZ _ _, ?_⟩
      refine tr_nil (hJ0 _ _ ?_)
      go_wp2_with fail
      go_meet
      exact ⟨p, A7, c7, rfl, PZ, set2 PA.out _ _, (O7.out.kept2 PA.out hS0 _ _).base BE, bel2 Q.out PZ _ _⟩
  case rest =>
    obtain ⟨p, A7, c7, rfl, zp, hp, ho, hbw⟩ := hcut
    rename World => V
    obtain ⟨g, rfl, zg, _⟩ := ho.blockless hS0
    have gp := own_other ho hS0 hp
    have P := Lib.hid hp
    have O := Lib.hid ho
    have wz : w.heap.size + 1 < W.heap.size := (Array.getElem?_eq_some_iff.1 R.out).1
    replace R := Lib.hid (keepB hbw R.out)
    replace B := Lib.hid (ext_trans B.out hbw)
    have zO := O.out.row_ge g rfl
    have cg := O.out.get (j := 0) hS0
    rw [← HY.out] at cg
    have fg := O.out.row.frozenAt 0
    have ST := Lib.hid (O.out.set 0 (y + ask))
    have P2 : Hid ((V.setCell ⟨g, 0, none⟩ (.int .i64 (y + ask))).drew.heap[p]? = some (.cells #[.int .i64 (left - ask), .slice (some ⟨g, 0, none⟩) S c7] 45 (0, 0))) := (Below.heap_setCell _ _ _ _ (fun e => gp e.symm)).trans P.out
    have R2 : Hid ((V.setCell ⟨g, 0, none⟩ (.int .i64 (y + ask))).drew.heap[w.heap.size + 1]? = some (.cells #[.int .i64 0, .slice none 0 0] 45 (0, 0))) := (Below.heap_setCell _ _ _ _ (show w.heap.size + 1 ≠ g by omega)).trans R.out
    have B2 : Hid (Below w.heap.size w (V.setCell ⟨g, 0, none⟩ (.int .i64 (y + ask))).drew) := Lib.hid (ext_trans (B.out.grown ST.out.2 B.out.size (fun k hk => by injection hk with hk; omega)) (ext_drew _))
    have zy : w.heap.size + 1 < V.heap.size := by omega
    have SO := Lib.hid (ST.out.1.ext (ext_drew _))
    clear hp ho hbw D h hx
    go_upto_region 8 with fail
    refine wp_region_schedF (fin := 11) (fun v => Below V.heap.size V v) [(true, 0), (true, 1), (true, 2), (true, 3), (true, 4), (true, 5), (true, 6), (true, 7), (true, 8), (true, 9), (true, 10), (false, 11)] (by kernel_rfl) rfl (by kernel_rfl) (by kernel_rfl) (by kernel_rfl) (fun _ _ d _ _ h => by cases d <;> exact h) (ext_drew V) ?_
    intro J0 hJ0
    iterate 11 (refine schedF_pure (v := ?_) rfl (by rfl) ?_ ?_; rotate_left; (focus (intro v hC; obtain ⟨d0, d1, _, _⟩ := full2f (keepB hC P.out); have dg := (hC.cell (p := ⟨g, 0, none⟩) zO.2).trans cg; go_simp; try with_reducible rfl)); try go_simp)
    refine schedF_eff rfl ?_
    intro J hJ
    have cg2 := (Below.cell (p := ⟨g, 0, none⟩) (ext_drew V) zO.2).trans cg
    have fg2 : V.drew.frozen? ⟨g, 0, none⟩ = false := fg
    go_wp2_with fail
    first | refine hJ0 _ _ ?_ | (refine ⟨by first | exact fun h => absurd rfl h | trivial, ?_⟩; refine schedF_nil (hJ0 _ _ ?_))
    clear hJ0 cg fg cg2 fg2 ST
    generalize (V.setCell ⟨g, 0, none⟩ (.int .i64 (y + ask))).drew = V2 at *
    obtain ⟨d0, d1, _, _⟩ := full2f P2.out
    obtain ⟨r0, r1, r2, r3⟩ := full2f R2.out
    go_wp2_with fail
    have SS := set2 R2.out (.int .i64 (left - ask)) (.slice (some ⟨g, 0, none⟩) S c7)
    obtain ⟨g0, g1, _, _⟩ := full2f SS
    refine bodyPost_ret (v := .tuple #[.agg #[.int .i64 (left - ask), .slice (some ⟨g, 0, none⟩) S c7], .int .i64 ask]) (by simp only [results, Try.results25]; simp [go_sem, g0, g1]) rfl ?_
    refine ⟨_, _, by rw [show L = (left - ask) by omega], ?_, bel2 B2.out (by omega) _ _⟩
    rw [← HY.out]
    exact (SO.out.kept (World.grownBy.trans1 (grownBy_set' (b := w.heap.size + 1) (j := 0) _) (grownBy_set' (b := w.heap.size + 1) (j := 1) _)) (fun k hk => by injection hk with hk; omega)).base (show w.heap.size ≤ W.heap.size by omega)


set_option maxRecDepth 100000 in
set_option maxHeartbeats 4000000 in
theorem rpay_10 (w : World) (left : Int) (S : Nat) (A : Option Addr) (c : Nat) (xs : List Int) (h : Hid (RdI w A S c xs)) (h1 : 1 ≤ S) (h8 : S ≤ 8) (l0 : 0 ≤ left) (l1 : left ≤ 1125899906842624) (hx : Hid (∀ y ∈ xs, 0 ≤ y ∧ y + left ≤ 1125899906842624)) (sv : Int) (s1 : ¬ sv < 0) (s2 : (S : Int) ≤ sv) (ask : Int) (a1 : left < ask) (L : Int) (hL : L = left - left) :
    Calls Try.prog 25 #[.agg #[.int .i64 left, .slice A S c], .int .i64 sv, .int .i64 ask] w (RPays w L S xs 0 left) := by
  have hS0 : 0 < S := by omega
  have hle := h.out.le
  have hmax := h.out.max
  have hlen := h.out.len
  have a2 : ¬ left < 0 := by omega
  obtain ⟨y, hy⟩ : ∃ y, y = xs.getD 0 0 := ⟨_, rfl⟩
  have hym : y ∈ xs := by rw [hy, show xs.getD 0 0 = xs[0]'(by omega) by simp [show 0 < xs.length by omega]]; exact List.getElem_mem _
  obtain ⟨y0, y1⟩ := hx.out y hym
  have wr : IntKind.i64.wrap (left - left) = left - left := IntWalk.i64_in _ (by omega)
  have wr0 : IntKind.i64.wrap left = left := IntWalk.i64_in _ (by omega)
  have wr1 : IntKind.i64.wrap (y + left) = y + left := IntWalk.i64_in _ (by omega)
  have wr2 : IntKind.i64.wrap y = y := IntWalk.i64_in _ (by omega)
  have HY := Lib.hid hy
  clear hy hym
  go_enter Try.func25, Try.ntmps25
  go_upto_region 1 with fail
  generalize hW : World.alloc (World.alloc w (.cells #[.int .i64 left, .slice A S c] 45)) (.cells #[.int .i64 0, .slice none 0 0] 45) = W
  have D : Hid (W.heap[w.heap.size]? = some (.cells #[.int .i64 left, .slice A S c] 45 (0, 0))) := by rw [← hW]; exact keepA2 (Go.heap_alloc_new w _)
  have R : Hid (W.heap[w.heap.size + 1]? = some (.cells #[.int .i64 0, .slice none 0 0] 45 (0, 0))) := by rw [← hW, show w.heap.size + 1 = (World.alloc w (.cells #[.int .i64 left, .slice A S c] 45)).heap.size by simp]; exact Go.heap_alloc_new _ _
  have B : Hid (Below w.heap.size w W) := by rw [← hW]; exact ext_trans (ext_alloc _ _) (ext_alloc _ _)
  clear hW
  obtain ⟨d0, d1, _, _⟩ := full2f D.out
  go_upto_region 7 with fail
  clear d0 d1
  go_cut [8] (fun x wx => RMade 0 S xs W x wx)
  case first =>
    refine wp_region_tr (fin := 99) (fun v => Below W.heap.size W v) (.pure 0 (.pure 1 (.pure 2 (.pure 3 (.pure 5 (.pure 6 (.two 4 (.two 7 (.pure 8 (.eff 9 (.eff 10 .nil))) 9 (.eff 7 (.pure 8 (.eff 10 .nil)))) 9 (.eff 4 (.eff 7 (.pure 8 (.eff 10 .nil))))))))))) (by kernel_rfl) (by kernel_rfl) (by kernel_rfl) (fun _ _ d _ _ h => by cases d <;> exact h) (ext_drew W) ?_
    intro J0 hJ0
    iterate 6 (refine tr_pure (v := ?_) rfl (by rfl) ?_ ?_; rotate_left; (focus (intro v hC; obtain ⟨d0, d1, _, _⟩ := full2f (keepB hC D.out); go_simp; try with_reducible rfl)); try go_simp)
    have Q : Hid (Below W.heap.size W W.drew) := Lib.hid (ext_drew W)
    generalize W.drew = V0 at *
    refine tr_two rfl rfl ?_ ?_
    · intro J hJ
      go_wp2_with fail
      refine ⟨by first | exact ext_trans Q.out (ext_alloc _ _) | exact fun _ => ext_trans Q.out (ext_alloc _ _), ?_⟩
      obtain ⟨v1, hu⟩ : ∃ u, u = World.alloc V0 (.cells #[] 3) := ⟨_, rfl⟩
      rw [← hu]
      have OE : Hid (OwnI v1 3 V0.heap.size (some ⟨V0.heap.size, 0, none⟩) 0 0 []) := by rw [hu]; exact OwnI.empty _ _
      have BE : W.heap.size ≤ V0.heap.size := Q.out.size
      have SE : Hid (V0.heap.size < v1.heap.size) := by rw [hu]; show _ < _; simp
      have Q : Hid (Below W.heap.size W v1) := by rw [hu]; exact ext_trans Q.out (ext_alloc _ _)
      clear hu
      generalize V0.heap.size = e0 at *
      refine tr_two rfl rfl ?_ ?_
      · intro J hJ
        go_wp2_with (refine wpList_pushI_g (o := ⟨some 33, _, _, _, _, _⟩) rfl (.tmp 30) (.tmp 32) 22 22 rfl 3 Try.underlying22 infoI e0 _ _ _ [] (by rfl) OE.out _ S xs (by rfl) ((h.out.ext (B.out.trans (Q.out.mono B.out.size))).src Try.underlying22) (by omega) (Nat.le_of_lt SE.out) ?_; intro A7 c7 v2 ho hb hg; have O7 := Lib.hid ho; have HB := Lib.hid hb; have HG := Lib.hid hg; clear ho hb hg; go_simp)
        rw [List.nil_append, Nat.zero_add] at O7
        have Q : Hid (Below W.heap.size W v2) := Lib.hid (Q.out.trans (HB.out.mono BE))
        refine ⟨by first | exact Q.out | exact fun _ => Q.out, ?_⟩
        try rw [Nat.zero_add]
        refine tr_pure (v := .agg #[.int .i64 0, .slice A7 S c7]) rfl (by rfl) (fun v hC => ?_) ?_
        · go_simp
        try go_simp
        refine tr_eff rfl ?_
        intro J hJ
        go_wp2_with fail
        refine ⟨by first | exact ext_trans Q.out (ext_alloc _ _) | exact fun _ => ext_trans Q.out (ext_alloc _ _), ?_⟩
        obtain ⟨v3, hu⟩ : ∃ u, u = World.alloc v2 (.cells #[.int .i64 0, .slice none 0 0] 45) := ⟨_, rfl⟩
        rw [← hu]
        obtain ⟨p, hp⟩ : ∃ p, p = (v2).heap.size := ⟨_, rfl⟩
        have hpd : (v2).heap.size = p := hp.symm
        rw [hpd]
        have PA : Hid (v3.heap[p]? = some (.cells #[.int .i64 0, .slice none 0 0] 45 (0, 0))) := by rw [hu, hp]; exact Go.heap_alloc_new _ _
        have PZ : W.heap.size ≤ p := by rw [hp]; exact Q.out.size
        have O7 := Lib.hid (by rw [hu]; exact O7.out.ext (ext_alloc _ _) : OwnI v3 3 e0 A7 S c7 xs)
        have Q : Hid (Below W.heap.size W v3) := by rw [hu]; exact ext_trans Q.out (ext_alloc _ _)
        clear hu hp hpd
        refine tr_eff rfl ?_
        intro J hJ
        obtain ⟨c0, c1, f0, f1⟩ := full2f PA.out
        go_wp2_with fail
        refine ⟨by first | exact bel2 Q.out PZ _ _ | exact fun _ => bel2 Q.out PZ _ _, ?_⟩
        refine tr_nil (hJ0 _ _ ?_)
        go_wp2_with fail
        go_meet
        exact ⟨p, A7, c7, rfl, PZ, set2 PA.out _ _, (O7.out.kept2 PA.out hS0 _ _).base BE, bel2 Q.out PZ _ _⟩
      · intro J hJ
        go_wp2_with fail
        refine ⟨by first | exact ext_trans Q.out (ext_alloc _ _) | exact fun _ => ext_trans Q.out (ext_alloc _ _), ?_⟩
        obtain ⟨v4, hu⟩ : ∃ u, u = World.alloc v1 (.cells #[.int .i64 0, .slice none 0 0] 45) := ⟨_, rfl⟩
        rw [← hu]
        obtain ⟨p, hp⟩ : ∃ p, p = (v1).heap.size := ⟨_, rfl⟩
        have hpd : (v1).heap.size = p := hp.symm
        rw [hpd]
        have PA : Hid (v4.heap[p]? = some (.cells #[.int .i64 0, .slice none 0 0] 45 (0, 0))) := by rw [hu, hp]; exact Go.heap_alloc_new _ _
        have PZ : W.heap.size ≤ p := by rw [hp]; exact Q.out.size
        have OE := Lib.hid (by rw [hu]; exact OE.out.ext (ext_alloc _ _) : OwnI v4 3 e0 (some ⟨e0, 0, none⟩) 0 0 [])
        have SE0 := SE.out
        have PE : p ≠ e0 := by omega
        have SE : Hid (e0 < v4.heap.size) := by rw [hu]; exact Nat.lt_of_lt_of_le SE0 (ext_alloc _ _).size
        have Q : Hid (Below W.heap.size W v4) := by rw [hu]; exact ext_trans Q.out (ext_alloc _ _)
        clear hu hp hpd
        refine tr_eff rfl ?_
        intro J hJ
        go_wp2_with (refine wpList_pushI_g (o := ⟨some 33, _, _, _, _, _⟩) rfl (.tmp 30) (.tmp 32) 22 22 rfl 3 Try.underlying22 infoI e0 _ _ _ [] (by rfl) OE.out _ S xs (by rfl) ((h.out.ext (B.out.trans (Q.out.mono B.out.size))).src Try.underlying22) (by omega) (Nat.le_of_lt SE.out) ?_; intro A7 c7 v5 ho hb hg; have O7 := Lib.hid ho; have HB := Lib.hid hb; have HG := Lib.hid hg; clear ho hb hg; go_simp)
        rw [List.nil_append, Nat.zero_add] at O7
        have Q : Hid (Below W.heap.size W v5) := Lib.hid (Q.out.trans (HB.out.mono BE))
        refine ⟨by first | exact Q.out | exact fun _ => Q.out, ?_⟩
        try rw [Nat.zero_add]
        have PA := Lib.hid ((HG.out.block p (Array.getElem?_eq_some_iff.1 PA.out).1 (fun e => PE (Option.some.inj e))).trans PA.out)
        refine tr_pure (v := .agg #[.int .i64 0, .slice A7 S c7]) rfl (by rfl) (fun v hC => ?_) ?_
        · go_simp
        try go_simp
        refine tr_eff rfl ?_
        intro J hJ
        obtain ⟨c0, c1, f0, f1⟩ := full2f PA.out
        go_wp2_with fail
        refine ⟨by first | exact bel2 Q.out PZ _ _ | exact fun _ => bel2 Q.out PZ _ _, ?_⟩
        refine tr_nil (hJ0 _ _ ?_)
        go_wp2_with fail
        go_meet
        exact ⟨p, A7, c7, rfl, PZ, set2 PA.out _ _, (O7.out.kept2 PA.out hS0 _ _).base BE, bel2 Q.out PZ _ _⟩
    · intro J hJ
      go_wp2_with fail
      refine ⟨by first | exact ext_trans Q.out (ext_alloc _ _) | exact fun _ => ext_trans Q.out (ext_alloc _ _), ?_⟩
      obtain ⟨v6, hu⟩ : ∃ u, u = World.alloc V0 (.cells #[.int .i64 0, .slice none 0 0] 45) := ⟨_, rfl⟩
      rw [← hu]
      obtain ⟨p, hp⟩ : ∃ p, p = (V0).heap.size := ⟨_, rfl⟩
      have hpd : (V0).heap.size = p := hp.symm
      rw [hpd]
      have PA : Hid (v6.heap[p]? = some (.cells #[.int .i64 0, .slice none 0 0] 45 (0, 0))) := by rw [hu, hp]; exact Go.heap_alloc_new _ _
      have PZ : W.heap.size ≤ p := by rw [hp]; exact Q.out.size
      have Q : Hid (Below W.heap.size W v6) := by rw [hu]; exact ext_trans Q.out (ext_alloc _ _)
      clear hu hp hpd
      refine tr_eff rfl ?_
      intro J hJ
      go_wp2_with fail
      refine ⟨by first | exact ext_trans Q.out (ext_alloc _ _) | exact fun _ => ext_trans Q.out (ext_alloc _ _), ?_⟩
      obtain ⟨v7, hu⟩ : ∃ u, u = World.alloc v6 (.cells #[] 3) := ⟨_, rfl⟩
      rw [← hu]
      have OE : Hid (OwnI v7 3 v6.heap.size (some ⟨v6.heap.size, 0, none⟩) 0 0 []) := by rw [hu]; exact OwnI.empty _ _
      have BE : W.heap.size ≤ v6.heap.size := Q.out.size
      have SE : Hid (v6.heap.size < v7.heap.size) := by rw [hu]; show _ < _; simp
      have PE : p ≠ v6.heap.size := by have := (Array.getElem?_eq_some_iff.1 PA.out).1; omega
      have PA := Lib.hid (by rw [hu]; exact keepA2 PA.out : v7.heap[p]? = some (.cells #[.int .i64 0, .slice none 0 0] 45 (0, 0)))
      have Q : Hid (Below W.heap.size W v7) := by rw [hu]; exact ext_trans Q.out (ext_alloc _ _)
      clear hu
      generalize v6.heap.size = e0 at *
      refine tr_eff rfl ?_
      intro J hJ
      go_wp2_with (refine wpList_pushI_g (o := ⟨some 33, _, _, _, _, _⟩) rfl (.tmp 30) (.tmp 32) 22 22 rfl 3 Try.underlying22 infoI e0 _ _ _ [] (by rfl) OE.out _ S xs (by rfl) ((h.out.ext (B.out.trans (Q.out.mono B.out.size))).src Try.underlying22) (by omega) (Nat.le_of_lt SE.out) ?_; intro A7 c7 v8 ho hb hg; have O7 := Lib.hid ho; have HB := Lib.hid hb; have HG := Lib.hid hg; clear ho hb hg; go_simp)
      rw [List.nil_append, Nat.zero_add] at O7
      have Q : Hid (Below W.heap.size W v8) := Lib.hid (Q.out.trans (HB.out.mono BE))
      refine ⟨by first | exact Q.out | exact fun _ => Q.out, ?_⟩
      try rw [Nat.zero_add]
      have PA := Lib.hid ((HG.out.block p (Array.getElem?_eq_some_iff.1 PA.out).1 (fun e => PE (Option.some.inj e))).trans PA.out)
      refine tr_pure (v := .agg #[.int .i64 0, .slice A7 S c7]) rfl (by rfl) (fun v hC => ?_) ?_
      · go_simp
      try go_simp
      refine tr_eff rfl ?_
      intro J hJ
      obtain ⟨c0, c1, f0, f1⟩ := full2f PA.out
      go_wp2_with fail
      refine ⟨by first | exact bel2 Q.out PZ _ _ | exact fun _ => bel2 Q.out PZ _ _, ?_⟩
      refine tr_nil (hJ0 _ _ ?_)
      go_wp2_with fail
      go_meet
      exact ⟨p, A7, c7, rfl, PZ, set2 PA.out _ _, (O7.out.kept2 PA.out hS0 _ _).base BE, bel2 Q.out PZ _ _⟩
  case rest =>
    obtain ⟨p, A7, c7, rfl, zp, hp, ho, hbw⟩ := hcut
    rename World => V
    obtain ⟨g, rfl, zg, _⟩ := ho.blockless hS0
    have gp := own_other ho hS0 hp
    have P := Lib.hid hp
    have O := Lib.hid ho
    have wz : w.heap.size + 1 < W.heap.size := (Array.getElem?_eq_some_iff.1 R.out).1
    replace R := Lib.hid (keepB hbw R.out)
    replace B := Lib.hid (ext_trans B.out hbw)
    have zO := O.out.row_ge g rfl
    have cg := O.out.get (j := 0) hS0
    rw [← HY.out] at cg
    have fg := O.out.row.frozenAt 0
    have ST := Lib.hid (O.out.set 0 (y + left))
    have P2 : Hid ((V.setCell ⟨g, 0, none⟩ (.int .i64 (y + left))).drew.heap[p]? = some (.cells #[.int .i64 0, .slice (some ⟨g, 0, none⟩) S c7] 45 (0, 0))) := (Below.heap_setCell _ _ _ _ (fun e => gp e.symm)).trans P.out
    have R2 : Hid ((V.setCell ⟨g, 0, none⟩ (.int .i64 (y + left))).drew.heap[w.heap.size + 1]? = some (.cells #[.int .i64 0, .slice none 0 0] 45 (0, 0))) := (Below.heap_setCell _ _ _ _ (show w.heap.size + 1 ≠ g by omega)).trans R.out
    have B2 : Hid (Below w.heap.size w (V.setCell ⟨g, 0, none⟩ (.int .i64 (y + left))).drew) := Lib.hid (ext_trans (B.out.grown ST.out.2 B.out.size (fun k hk => by injection hk with hk; omega)) (ext_drew _))
    have zy : w.heap.size + 1 < V.heap.size := by omega
    have SO := Lib.hid (ST.out.1.ext (ext_drew _))
    clear hp ho hbw D h hx
    go_upto_region 8 with fail
    refine wp_region_schedF (fin := 11) (fun v => Below V.heap.size V v) [(true, 0), (true, 1), (true, 2), (true, 3), (true, 4), (true, 5), (true, 6), (true, 7), (true, 8), (true, 9), (true, 10), (false, 11)] (by kernel_rfl) rfl (by kernel_rfl) (by kernel_rfl) (by kernel_rfl) (fun _ _ d _ _ h => by cases d <;> exact h) (ext_drew V) ?_
    intro J0 hJ0
    iterate 11 (refine schedF_pure (v := ?_) rfl (by rfl) ?_ ?_; rotate_left; (focus (intro v hC; obtain ⟨d0, d1, _, _⟩ := full2f (keepB hC P.out); have dg := (hC.cell (p := ⟨g, 0, none⟩) zO.2).trans cg; go_simp; try with_reducible rfl)); try go_simp)
    refine schedF_eff rfl ?_
    intro J hJ
    have cg2 := (Below.cell (p := ⟨g, 0, none⟩) (ext_drew V) zO.2).trans cg
    have fg2 : V.drew.frozen? ⟨g, 0, none⟩ = false := fg
    go_wp2_with fail
    first | refine hJ0 _ _ ?_ | (refine ⟨by first | exact fun h => absurd rfl h | trivial, ?_⟩; refine schedF_nil (hJ0 _ _ ?_))
    clear hJ0 cg fg cg2 fg2 ST
    generalize (V.setCell ⟨g, 0, none⟩ (.int .i64 (y + left))).drew = V2 at *
    obtain ⟨d0, d1, _, _⟩ := full2f P2.out
    obtain ⟨r0, r1, r2, r3⟩ := full2f R2.out
    go_wp2_with fail
    have SS := set2 R2.out (.int .i64 0) (.slice (some ⟨g, 0, none⟩) S c7)
    obtain ⟨g0, g1, _, _⟩ := full2f SS
    refine bodyPost_ret (v := .tuple #[.agg #[.int .i64 0, .slice (some ⟨g, 0, none⟩) S c7], .int .i64 left]) (by simp only [results, Try.results25]; simp [go_sem, g0, g1]) rfl ?_
    refine ⟨_, _, by rw [show L = 0 by omega], ?_, bel2 B2.out (by omega) _ _⟩
    rw [← HY.out]
    exact (SO.out.kept (World.grownBy.trans1 (grownBy_set' (b := w.heap.size + 1) (j := 0) _) (grownBy_set' (b := w.heap.size + 1) (j := 1) _)) (fun k hk => by injection hk with hk; omega)).base (show w.heap.size ≤ W.heap.size by omega)


set_option maxRecDepth 100000 in
set_option maxHeartbeats 4000000 in
theorem rpay_11 (w : World) (left : Int) (S : Nat) (A : Option Addr) (c : Nat) (xs : List Int) (h : Hid (RdI w A S c xs)) (h1 : 1 ≤ S) (h8 : S ≤ 8) (l0 : 0 ≤ left) (l1 : left ≤ 1125899906842624) (hx : Hid (∀ y ∈ xs, 0 ≤ y ∧ y + left ≤ 1125899906842624)) (sv : Int) (s1 : ¬ sv < 0) (s2 : (S : Int) ≤ sv) (ask : Int) (a1 : ¬ left < ask) (a2 : ask < 0) (L : Int) (hL : L = left - 0) :
    Calls Try.prog 25 #[.agg #[.int .i64 left, .slice A S c], .int .i64 sv, .int .i64 ask] w (RPays w L S xs 0 0) := by
  have hS0 : 0 < S := by omega
  have hle := h.out.le
  have hmax := h.out.max
  have hlen := h.out.len
  obtain ⟨y, hy⟩ : ∃ y, y = xs.getD 0 0 := ⟨_, rfl⟩
  have hym : y ∈ xs := by rw [hy, show xs.getD 0 0 = xs[0]'(by omega) by simp [show 0 < xs.length by omega]]; exact List.getElem_mem _
  obtain ⟨y0, y1⟩ := hx.out y hym
  have wr : IntKind.i64.wrap (left - 0) = left - 0 := IntWalk.i64_in _ (by omega)
  have wr0 : IntKind.i64.wrap left = left := IntWalk.i64_in _ (by omega)
  have wr1 : IntKind.i64.wrap (y + 0) = y + 0 := IntWalk.i64_in _ (by omega)
  have wr2 : IntKind.i64.wrap y = y := IntWalk.i64_in _ (by omega)
  have HY := Lib.hid hy
  clear hy hym
  go_enter Try.func25, Try.ntmps25
  go_upto_region 1 with fail
  generalize hW : World.alloc (World.alloc w (.cells #[.int .i64 left, .slice A S c] 45)) (.cells #[.int .i64 0, .slice none 0 0] 45) = W
  have D : Hid (W.heap[w.heap.size]? = some (.cells #[.int .i64 left, .slice A S c] 45 (0, 0))) := by rw [← hW]; exact keepA2 (Go.heap_alloc_new w _)
  have R : Hid (W.heap[w.heap.size + 1]? = some (.cells #[.int .i64 0, .slice none 0 0] 45 (0, 0))) := by rw [← hW, show w.heap.size + 1 = (World.alloc w (.cells #[.int .i64 left, .slice A S c] 45)).heap.size by simp]; exact Go.heap_alloc_new _ _
  have B : Hid (Below w.heap.size w W) := by rw [← hW]; exact ext_trans (ext_alloc _ _) (ext_alloc _ _)
  clear hW
  obtain ⟨d0, d1, _, _⟩ := full2f D.out
  go_upto_region 7 with fail
  clear d0 d1
  go_cut [8] (fun x wx => RMade left S xs W x wx)
  case first =>
    refine wp_region_tr (fin := 99) (fun v => Below W.heap.size W v) (.pure 0 (.pure 1 (.pure 2 (.pure 3 (.pure 5 (.pure 6 (.two 4 (.two 7 (.pure 8 (.eff 9 (.eff 10 .nil))) 9 (.eff 7 (.pure 8 (.eff 10 .nil)))) 9 (.eff 4 (.eff 7 (.pure 8 (.eff 10 .nil))))))))))) (by kernel_rfl) (by kernel_rfl) (by kernel_rfl) (fun _ _ d _ _ h => by cases d <;> exact h) (ext_drew W) ?_
    intro J0 hJ0
    iterate 6 (refine tr_pure (v := ?_) rfl (by rfl) ?_ ?_; rotate_left; (focus (intro v hC; obtain ⟨d0, d1, _, _⟩ := full2f (keepB hC D.out); go_simp; try with_reducible rfl)); try go_simp)
    have Q : Hid (Below W.heap.size W W.drew) := Lib.hid (ext_drew W)
    generalize W.drew = V0 at *
    refine tr_two rfl rfl ?_ ?_
    · intro J hJ
      go_wp2_with fail
      refine ⟨by first | exact ext_trans Q.out (ext_alloc _ _) | exact fun _ => ext_trans Q.out (ext_alloc _ _), ?_⟩
      obtain ⟨v1, hu⟩ : ∃ u, u = World.alloc V0 (.cells #[] 3) := ⟨_, rfl⟩
      rw [← hu]
      have OE : Hid (OwnI v1 3 V0.heap.size (some ⟨V0.heap.size, 0, none⟩) 0 0 []) := by rw [hu]; exact OwnI.empty _ _
      have BE : W.heap.size ≤ V0.heap.size := Q.out.size
      have SE : Hid (V0.heap.size < v1.heap.size) := by rw [hu]; show _ < _; simp
      have Q : Hid (Below W.heap.size W v1) := by rw [hu]; exact ext_trans Q.out (ext_alloc _ _)
      clear hu
      generalize V0.heap.size = e0 at *
      refine tr_two rfl rfl ?_ ?_
      · intro J hJ
        go_wp2_with (refine wpList_pushI_g (o := ⟨some 33, _, _, _, _, _⟩) rfl (.tmp 30) (.tmp 32) 22 22 rfl 3 Try.underlying22 infoI e0 _ _ _ [] (by rfl) OE.out _ S xs (by rfl) ((h.out.ext (B.out.trans (Q.out.mono B.out.size))).src Try.underlying22) (by omega) (Nat.le_of_lt SE.out) ?_; intro A7 c7 v2 ho hb hg; have O7 := Lib.hid ho; have HB := Lib.hid hb; have HG := Lib.hid hg; clear ho hb hg; go_simp)
        rw [List.nil_append, Nat.zero_add] at O7
        have Q : Hid (Below W.heap.size W v2) := Lib.hid (Q.out.trans (HB.out.mono BE))
        refine ⟨by first | exact Q.out | exact fun _ => Q.out, ?_⟩
        try rw [Nat.zero_add]
        refine tr_pure (v := .agg #[.int .i64 left, .slice A7 S c7]) rfl (by rfl) (fun v hC => ?_) ?_
        · go_simp
        try go_simp
        refine tr_eff rfl ?_
        intro J hJ
        go_wp2_with fail
        refine ⟨by first | exact ext_trans Q.out (ext_alloc _ _) | exact fun _ => ext_trans Q.out (ext_alloc _ _), ?_⟩
        obtain ⟨v3, hu⟩ : ∃ u, u = World.alloc v2 (.cells #[.int .i64 0, .slice none 0 0] 45) := ⟨_, rfl⟩
        rw [← hu]
        obtain ⟨p, hp⟩ : ∃ p, p = (v2).heap.size := ⟨_, rfl⟩
        have hpd : (v2).heap.size = p := hp.symm
        rw [hpd]
        have PA : Hid (v3.heap[p]? = some (.cells #[.int .i64 0, .slice none 0 0] 45 (0, 0))) := by rw [hu, hp]; exact Go.heap_alloc_new _ _
        have PZ : W.heap.size ≤ p := by rw [hp]; exact Q.out.size
        have O7 := Lib.hid (by rw [hu]; exact O7.out.ext (ext_alloc _ _) : OwnI v3 3 e0 A7 S c7 xs)
        have Q : Hid (Below W.heap.size W v3) := by rw [hu]; exact ext_trans Q.out (ext_alloc _ _)
        clear hu hp hpd
        refine tr_eff rfl ?_
        intro J hJ
        obtain ⟨c0, c1, f0, f1⟩ := full2f PA.out
        go_wp2_with fail
        refine ⟨by first | exact bel2 Q.out PZ _ _ | exact fun _ => bel2 Q.out PZ _ _, ?_⟩
        refine tr_nil (hJ0 _ _ ?_)
        go_wp2_with fail
        go_meet
        exact ⟨p, A7, c7, rfl, PZ, set2 PA.out _ _, (O7.out.kept2 PA.out hS0 _ _).base BE, bel2 Q.out PZ _ _⟩
      · intro J hJ
        go_wp2_with fail
        refine ⟨by first | exact ext_trans Q.out (ext_alloc _ _) | exact fun _ => ext_trans Q.out (ext_alloc _ _), ?_⟩
        obtain ⟨v4, hu⟩ : ∃ u, u = World.alloc v1 (.cells #[.int .i64 0, .slice none 0 0] 45) := ⟨_, rfl⟩
        rw [← hu]
        obtain ⟨p, hp⟩ : ∃ p, p = (v1).heap.size := ⟨_, rfl⟩
        have hpd : (v1).heap.size = p := hp.symm
        rw [hpd]
        have PA : Hid (v4.heap[p]? = some (.cells #[.int .i64 0, .slice none 0 0] 45 (0, 0))) := by rw [hu, hp]; exact Go.heap_alloc_new _ _
        have PZ : W.heap.size ≤ p := by rw [hp]; exact Q.out.size
        have OE := Lib.hid (by rw [hu]; exact OE.out.ext (ext_alloc _ _) : OwnI v4 3 e0 (some ⟨e0, 0, none⟩) 0 0 [])
        have SE0 := SE.out
        have PE : p ≠ e0 := by omega
        have SE : Hid (e0 < v4.heap.size) := by rw [hu]; exact Nat.lt_of_lt_of_le SE0 (ext_alloc _ _).size
        have Q : Hid (Below W.heap.size W v4) := by rw [hu]; exact ext_trans Q.out (ext_alloc _ _)
        clear hu hp hpd
        refine tr_eff rfl ?_
        intro J hJ
        go_wp2_with (refine wpList_pushI_g (o := ⟨some 33, _, _, _, _, _⟩) rfl (.tmp 30) (.tmp 32) 22 22 rfl 3 Try.underlying22 infoI e0 _ _ _ [] (by rfl) OE.out _ S xs (by rfl) ((h.out.ext (B.out.trans (Q.out.mono B.out.size))).src Try.underlying22) (by omega) (Nat.le_of_lt SE.out) ?_; intro A7 c7 v5 ho hb hg; have O7 := Lib.hid ho; have HB := Lib.hid hb; have HG := Lib.hid hg; clear ho hb hg; go_simp)
        rw [List.nil_append, Nat.zero_add] at O7
        have Q : Hid (Below W.heap.size W v5) := Lib.hid (Q.out.trans (HB.out.mono BE))
        refine ⟨by first | exact Q.out | exact fun _ => Q.out, ?_⟩
        try rw [Nat.zero_add]
        have PA := Lib.hid ((HG.out.block p (Array.getElem?_eq_some_iff.1 PA.out).1 (fun e => PE (Option.some.inj e))).trans PA.out)
        refine tr_pure (v := .agg #[.int .i64 left, .slice A7 S c7]) rfl (by rfl) (fun v hC => ?_) ?_
        · go_simp
        try go_simp
        refine tr_eff rfl ?_
        intro J hJ
        obtain ⟨c0, c1, f0, f1⟩ := full2f PA.out
        go_wp2_with fail
        refine ⟨by first | exact bel2 Q.out PZ _ _ | exact fun _ => bel2 Q.out PZ _ _, ?_⟩
        refine tr_nil (hJ0 _ _ ?_)
        go_wp2_with fail
        go_meet
        exact ⟨p, A7, c7, rfl, PZ, set2 PA.out _ _, (O7.out.kept2 PA.out hS0 _ _).base BE, bel2 Q.out PZ _ _⟩
    · intro J hJ
      go_wp2_with fail
      refine ⟨by first | exact ext_trans Q.out (ext_alloc _ _) | exact fun _ => ext_trans Q.out (ext_alloc _ _), ?_⟩
      obtain ⟨v6, hu⟩ : ∃ u, u = World.alloc V0 (.cells #[.int .i64 0, .slice none 0 0] 45) := ⟨_, rfl⟩
      rw [← hu]
      obtain ⟨p, hp⟩ : ∃ p, p = (V0).heap.size := ⟨_, rfl⟩
      have hpd : (V0).heap.size = p := hp.symm
      rw [hpd]
      have PA : Hid (v6.heap[p]? = some (.cells #[.int .i64 0, .slice none 0 0] 45 (0, 0))) := by rw [hu, hp]; exact Go.heap_alloc_new _ _
      have PZ : W.heap.size ≤ p := by rw [hp]; exact Q.out.size
      have Q : Hid (Below W.heap.size W v6) := by rw [hu]; exact ext_trans Q.out (ext_alloc _ _)
      clear hu hp hpd
      refine tr_eff rfl ?_
      intro J hJ
      go_wp2_with fail
      refine ⟨by first | exact ext_trans Q.out (ext_alloc _ _) | exact fun _ => ext_trans Q.out (ext_alloc _ _), ?_⟩
      obtain ⟨v7, hu⟩ : ∃ u, u = World.alloc v6 (.cells #[] 3) := ⟨_, rfl⟩
      rw [← hu]
      have OE : Hid (OwnI v7 3 v6.heap.size (some ⟨v6.heap.size, 0, none⟩) 0 0 []) := by rw [hu]; exact OwnI.empty _ _
      have BE : W.heap.size ≤ v6.heap.size := Q.out.size
      have SE : Hid (v6.heap.size < v7.heap.size) := by rw [hu]; show _ < _; simp
      have PE : p ≠ v6.heap.size := by have := (Array.getElem?_eq_some_iff.1 PA.out).1; omega
      have PA := Lib.hid (by rw [hu]; exact keepA2 PA.out : v7.heap[p]? = some (.cells #[.int .i64 0, .slice none 0 0] 45 (0, 0)))
      have Q : Hid (Below W.heap.size W v7) := by rw [hu]; exact ext_trans Q.out (ext_alloc _ _)
      clear hu
      generalize v6.heap.size = e0 at *
      refine tr_eff rfl ?_
      intro J hJ
      go_wp2_with (refine wpList_pushI_g (o := ⟨some 33, _, _, _, _, _⟩) rfl (.tmp 30) (.tmp 32) 22 22 rfl 3 Try.underlying22 infoI e0 _ _ _ [] (by rfl) OE.out _ S xs (by rfl) ((h.out.ext (B.out.trans (Q.out.mono B.out.size))).src Try.underlying22) (by omega) (Nat.le_of_lt SE.out) ?_; intro A7 c7 v8 ho hb hg; have O7 := Lib.hid ho; have HB := Lib.hid hb; have HG := Lib.hid hg; clear ho hb hg; go_simp)
      rw [List.nil_append, Nat.zero_add] at O7
      have Q : Hid (Below W.heap.size W v8) := Lib.hid (Q.out.trans (HB.out.mono BE))
      refine ⟨by first | exact Q.out | exact fun _ => Q.out, ?_⟩
      try rw [Nat.zero_add]
      have PA := Lib.hid ((HG.out.block p (Array.getElem?_eq_some_iff.1 PA.out).1 (fun e => PE (Option.some.inj e))).trans PA.out)
      refine tr_pure (v := .agg #[.int .i64 left, .slice A7 S c7]) rfl (by rfl) (fun v hC => ?_) ?_
      · go_simp
      try go_simp
      refine tr_eff rfl ?_
      intro J hJ
      obtain ⟨c0, c1, f0, f1⟩ := full2f PA.out
      go_wp2_with fail
      refine ⟨by first | exact bel2 Q.out PZ _ _ | exact fun _ => bel2 Q.out PZ _ _, ?_⟩
      refine tr_nil (hJ0 _ _ ?_)
      go_wp2_with fail
      go_meet
      exact ⟨p, A7, c7, rfl, PZ, set2 PA.out _ _, (O7.out.kept2 PA.out hS0 _ _).base BE, bel2 Q.out PZ _ _⟩
  case rest =>
    obtain ⟨p, A7, c7, rfl, zp, hp, ho, hbw⟩ := hcut
    rename World => V
    obtain ⟨g, rfl, zg, _⟩ := ho.blockless hS0
    have gp := own_other ho hS0 hp
    have P := Lib.hid hp
    have O := Lib.hid ho
    have wz : w.heap.size + 1 < W.heap.size := (Array.getElem?_eq_some_iff.1 R.out).1
    replace R := Lib.hid (keepB hbw R.out)
    replace B := Lib.hid (ext_trans B.out hbw)
    have zO := O.out.row_ge g rfl
    have cg := O.out.get (j := 0) hS0
    rw [← HY.out] at cg
    have fg := O.out.row.frozenAt 0
    have ST := Lib.hid (O.out.set 0 y)
    have P2 : Hid ((V.setCell ⟨g, 0, none⟩ (.int .i64 y)).drew.heap[p]? = some (.cells #[.int .i64 left, .slice (some ⟨g, 0, none⟩) S c7] 45 (0, 0))) := (Below.heap_setCell _ _ _ _ (fun e => gp e.symm)).trans P.out
    have R2 : Hid ((V.setCell ⟨g, 0, none⟩ (.int .i64 y)).drew.heap[w.heap.size + 1]? = some (.cells #[.int .i64 0, .slice none 0 0] 45 (0, 0))) := (Below.heap_setCell _ _ _ _ (show w.heap.size + 1 ≠ g by omega)).trans R.out
    have B2 : Hid (Below w.heap.size w (V.setCell ⟨g, 0, none⟩ (.int .i64 y)).drew) := Lib.hid (ext_trans (B.out.grown ST.out.2 B.out.size (fun k hk => by injection hk with hk; omega)) (ext_drew _))
    have zy : w.heap.size + 1 < V.heap.size := by omega
    have SO := Lib.hid (ST.out.1.ext (ext_drew _))
    clear hp ho hbw D h hx
    go_upto_region 8 with fail
    refine wp_region_schedF (fin := 11) (fun v => Below V.heap.size V v) [(true, 0), (true, 1), (true, 2), (true, 3), (true, 4), (true, 5), (true, 6), (true, 7), (true, 8), (true, 9), (true, 10), (false, 11)] (by kernel_rfl) rfl (by kernel_rfl) (by kernel_rfl) (by kernel_rfl) (fun _ _ d _ _ h => by cases d <;> exact h) (ext_drew V) ?_
    intro J0 hJ0
    iterate 11 (refine schedF_pure (v := ?_) rfl (by rfl) ?_ ?_; rotate_left; (focus (intro v hC; obtain ⟨d0, d1, _, _⟩ := full2f (keepB hC P.out); have dg := (hC.cell (p := ⟨g, 0, none⟩) zO.2).trans cg; go_simp; try with_reducible rfl)); try go_simp)
    refine schedF_eff rfl ?_
    intro J hJ
    have cg2 := (Below.cell (p := ⟨g, 0, none⟩) (ext_drew V) zO.2).trans cg
    have fg2 : V.drew.frozen? ⟨g, 0, none⟩ = false := fg
    go_wp2_with fail
    first | refine hJ0 _ _ ?_ | (refine ⟨by first | exact fun h => absurd rfl h | trivial, ?_⟩; refine schedF_nil (hJ0 _ _ ?_))
    clear hJ0 cg fg cg2 fg2 ST
    generalize (V.setCell ⟨g, 0, none⟩ (.int .i64 y)).drew = V2 at *
    obtain ⟨d0, d1, _, _⟩ := full2f P2.out
    obtain ⟨r0, r1, r2, r3⟩ := full2f R2.out
    go_wp2_with fail
    have SS := set2 R2.out (.int .i64 left) (.slice (some ⟨g, 0, none⟩) S c7)
    obtain ⟨g0, g1, _, _⟩ := full2f SS
    refine bodyPost_ret (v := .tuple #[.agg #[.int .i64 left, .slice (some ⟨g, 0, none⟩) S c7], .int .i64 0]) (by simp only [results, Try.results25]; simp [go_sem, g0, g1]) rfl ?_
    refine ⟨_, _, by rw [show L = left by omega], ?_, bel2 B2.out (by omega) _ _⟩
    rw [← HY.out, Int.add_zero]
    exact (SO.out.kept (World.grownBy.trans1 (grownBy_set' (b := w.heap.size + 1) (j := 0) _) (grownBy_set' (b := w.heap.size + 1) (j := 1) _)) (fun k hk => by injection hk with hk; omega)).base (show w.heap.size ≤ W.heap.size by omega)


set_option maxRecDepth 100000 in
set_option maxHeartbeats 4000000 in
theorem rpay_12 (w : World) (left : Int) (S : Nat) (A : Option Addr) (c : Nat) (xs : List Int) (h : Hid (RdI w A S c xs)) (h1 : 1 ≤ S) (h8 : S ≤ 8) (l0 : 0 ≤ left) (l1 : left ≤ 1125899906842624) (hx : Hid (∀ y ∈ xs, 0 ≤ y ∧ y + left ≤ 1125899906842624)) (sv : Int) (s1 : ¬ sv < 0) (s2 : (S : Int) ≤ sv) (ask : Int) (a1 : ¬ left < ask) (a2 : ¬ ask < 0) (L : Int) (hL : L = left - ask) :
    Calls Try.prog 25 #[.agg #[.int .i64 left, .slice A S c], .int .i64 sv, .int .i64 ask] w (RPays w L S xs 0 ask) := by
  have hS0 : 0 < S := by omega
  have hle := h.out.le
  have hmax := h.out.max
  have hlen := h.out.len
  obtain ⟨y, hy⟩ : ∃ y, y = xs.getD 0 0 := ⟨_, rfl⟩
  have hym : y ∈ xs := by rw [hy, show xs.getD 0 0 = xs[0]'(by omega) by simp [show 0 < xs.length by omega]]; exact List.getElem_mem _
  obtain ⟨y0, y1⟩ := hx.out y hym
  have wr : IntKind.i64.wrap (left - ask) = left - ask := IntWalk.i64_in _ (by omega)
  have wr0 : IntKind.i64.wrap left = left := IntWalk.i64_in _ (by omega)
  have wr1 : IntKind.i64.wrap (y + ask) = y + ask := IntWalk.i64_in _ (by omega)
  have wr2 : IntKind.i64.wrap y = y := IntWalk.i64_in _ (by omega)
  have HY := Lib.hid hy
  clear hy hym
  go_enter Try.func25, Try.ntmps25
  go_upto_region 1 with fail
  generalize hW : World.alloc (World.alloc w (.cells #[.int .i64 left, .slice A S c] 45)) (.cells #[.int .i64 0, .slice none 0 0] 45) = W
  have D : Hid (W.heap[w.heap.size]? = some (.cells #[.int .i64 left, .slice A S c] 45 (0, 0))) := by rw [← hW]; exact keepA2 (Go.heap_alloc_new w _)
  have R : Hid (W.heap[w.heap.size + 1]? = some (.cells #[.int .i64 0, .slice none 0 0] 45 (0, 0))) := by rw [← hW, show w.heap.size + 1 = (World.alloc w (.cells #[.int .i64 left, .slice A S c] 45)).heap.size by simp]; exact Go.heap_alloc_new _ _
  have B : Hid (Below w.heap.size w W) := by rw [← hW]; exact ext_trans (ext_alloc _ _) (ext_alloc _ _)
  clear hW
  obtain ⟨d0, d1, _, _⟩ := full2f D.out
  go_upto_region 7 with fail
  clear d0 d1
  go_cut [8] (fun x wx => RMade (left - ask) S xs W x wx)
  case first =>
    refine wp_region_tr (fin := 99) (fun v => Below W.heap.size W v) (.pure 0 (.pure 1 (.pure 2 (.pure 3 (.pure 5 (.pure 6 (.two 4 (.two 7 (.pure 8 (.eff 9 (.eff 10 .nil))) 9 (.eff 7 (.pure 8 (.eff 10 .nil)))) 9 (.eff 4 (.eff 7 (.pure 8 (.eff 10 .nil))))))))))) (by kernel_rfl) (by kernel_rfl) (by kernel_rfl) (fun _ _ d _ _ h => by cases d <;> exact h) (ext_drew W) ?_
    intro J0 hJ0
    iterate 6 (refine tr_pure (v := ?_) rfl (by rfl) ?_ ?_; rotate_left; (focus (intro v hC; obtain ⟨d0, d1, _, _⟩ := full2f (keepB hC D.out); go_simp; try with_reducible rfl)); try go_simp)
    have Q : Hid (Below W.heap.size W W.drew) := Lib.hid (ext_drew W)
    generalize W.drew = V0 at *
    refine tr_two rfl rfl ?_ ?_
    · intro J hJ
      go_wp2_with fail
      refine ⟨by first | exact ext_trans Q.out (ext_alloc _ _) | exact fun _ => ext_trans Q.out (ext_alloc _ _), ?_⟩
      obtain ⟨v1, hu⟩ : ∃ u, u = World.alloc V0 (.cells #[] 3) := ⟨_, rfl⟩
      rw [← hu]
      have OE : Hid (OwnI v1 3 V0.heap.size (some ⟨V0.heap.size, 0, none⟩) 0 0 []) := by rw [hu]; exact OwnI.empty _ _
      have BE : W.heap.size ≤ V0.heap.size := Q.out.size
      have SE : Hid (V0.heap.size < v1.heap.size) := by rw [hu]; show _ < _; simp
      have Q : Hid (Below W.heap.size W v1) := by rw [hu]; exact ext_trans Q.out (ext_alloc _ _)
      clear hu
      generalize V0.heap.size = e0 at *
      refine tr_two rfl rfl ?_ ?_
      · intro J hJ
        go_wp2_with (refine wpList_pushI_g (o := ⟨some 33, _, _, _, _, _⟩) rfl (.tmp 30) (.tmp 32) 22 22 rfl 3 Try.underlying22 infoI e0 _ _ _ [] (by rfl) OE.out _ S xs (by rfl) ((h.out.ext (B.out.trans (Q.out.mono B.out.size))).src Try.underlying22) (by omega) (Nat.le_of_lt SE.out) ?_; intro A7 c7 v2 ho hb hg; have O7 := Lib.hid ho; have HB := Lib.hid hb; have HG := Lib.hid hg; clear ho hb hg; go_simp)
        rw [List.nil_append, Nat.zero_add] at O7
        have Q : Hid (Below W.heap.size W v2) := Lib.hid (Q.out.trans (HB.out.mono BE))
        refine ⟨by first | exact Q.out | exact fun _ => Q.out, ?_⟩
        try rw [Nat.zero_add]
        refine tr_pure (v := .agg #[.int .i64 (left - ask), .slice A7 S c7]) rfl (by rfl) (fun v hC => ?_) ?_
        · go_simp
        try go_simp
        refine tr_eff rfl ?_
        intro J hJ
        go_wp2_with fail
        refine ⟨by first | exact ext_trans Q.out (ext_alloc _ _) | exact fun _ => ext_trans Q.out (ext_alloc _ _), ?_⟩
        obtain ⟨v3, hu⟩ : ∃ u, u = World.alloc v2 (.cells #[.int .i64 0, .slice none 0 0] 45) := ⟨_, rfl⟩
        rw [← hu]
        obtain ⟨p, hp⟩ : ∃ p, p = (v2).heap.size := ⟨_, rfl⟩
        have hpd : (v2).heap.size = p := hp.symm
        rw [hpd]
        have PA : Hid (v3.heap[p]? = some (.cells #[.int .i64 0, .slice none 0 0] 45 (0, 0))) := by rw [hu, hp]; exact Go.heap_alloc_new _ _
        have PZ : W.heap.size ≤ p := by rw [hp]; exact Q.out.size
        have O7 := Lib.hid (by rw [hu]; exact O7.out.ext (ext_alloc _ _) : OwnI v3 3 e0 A7 S c7 xs)
        have Q : Hid (Below W.heap.size W v3) := by rw [hu]; exact ext_trans Q.out (ext_alloc _ _)
        clear hu hp hpd
        refine tr_eff rfl ?_
        intro J hJ
        obtain ⟨c0, c1, f0, f1⟩ := full2f PA.out
        go_wp2_with fail
        refine ⟨by first | exact bel2 Q.out PZ _ _ | exact fun _ => bel2 Q.out PZ _ _, ?_⟩
        refine tr_nil (hJ0 _ _ ?_)
        go_wp2_with fail
        go_meet
        exact ⟨p, A7, c7, rfl, PZ, set2 PA.out _ _, (O7.out.kept2 PA.out hS0 _ _).base BE, bel2 Q.out PZ _ _⟩
      · intro J hJ
        go_wp2_with fail
        refine ⟨by first | exact ext_trans Q.out (ext_alloc _ _) | exact fun _ => ext_trans Q.out (ext_alloc _ _), ?_⟩
        obtain ⟨v4, hu⟩ : ∃ u, u = World.alloc v1 (.cells #[.int .i64 0, .slice none 0 0] 45) := ⟨_, rfl⟩
        rw [← hu]
        obtain ⟨p, hp⟩ : ∃ p, p = (v1).heap.size := ⟨_, rfl⟩
        have hpd : (v1).heap.size = p := hp.symm
        rw [hpd]
        have PA : Hid (v4.heap[p]? = some (.cells #[.int .i64 0, .slice none 0 0] 45 (0, 0))) := by rw [hu, hp]; exact Go.heap_alloc_new _ _
        have PZ : W.heap.size ≤ p := by rw [hp]; exact Q.out.size
        have OE := Lib.hid (by rw [hu]; exact OE.out.ext (ext_alloc _ _) : OwnI v4 3 e0 (some ⟨e0, 0, none⟩) 0 0 [])
        have SE0 := SE.out
        have PE : p ≠ e0 := by omega
        have SE : Hid (e0 < v4.heap.size) := by rw [hu]; exact Nat.lt_of_lt_of_le SE0 (ext_alloc _ _).size
        have Q : Hid (Below W.heap.size W v4) := by rw [hu]; exact ext_trans Q.out (ext_alloc _ _)
        clear hu hp hpd
        refine tr_eff rfl ?_
        intro J hJ
        go_wp2_with (refine wpList_pushI_g (o := ⟨some 33, _, _, _, _, _⟩) rfl (.tmp 30) (.tmp 32) 22 22 rfl 3 Try.underlying22 infoI e0 _ _ _ [] (by rfl) OE.out _ S xs (by rfl) ((h.out.ext (B.out.trans (Q.out.mono B.out.size))).src Try.underlying22) (by omega) (Nat.le_of_lt SE.out) ?_; intro A7 c7 v5 ho hb hg; have O7 := Lib.hid ho; have HB := Lib.hid hb; have HG := Lib.hid hg; clear ho hb hg; go_simp)
        rw [List.nil_append, Nat.zero_add] at O7
        have Q : Hid (Below W.heap.size W v5) := Lib.hid (Q.out.trans (HB.out.mono BE))
        refine ⟨by first | exact Q.out | exact fun _ => Q.out, ?_⟩
        try rw [Nat.zero_add]
        have PA := Lib.hid ((HG.out.block p (Array.getElem?_eq_some_iff.1 PA.out).1 (fun e => PE (Option.some.inj e))).trans PA.out)
        refine tr_pure (v := .agg #[.int .i64 (left - ask), .slice A7 S c7]) rfl (by rfl) (fun v hC => ?_) ?_
        · go_simp
        try go_simp
        refine tr_eff rfl ?_
        intro J hJ
        obtain ⟨c0, c1, f0, f1⟩ := full2f PA.out
        go_wp2_with fail
        refine ⟨by first | exact bel2 Q.out PZ _ _ | exact fun _ => bel2 Q.out PZ _ _, ?_⟩
        refine tr_nil (hJ0 _ _ ?_)
        go_wp2_with fail
        go_meet
        exact ⟨p, A7, c7, rfl, PZ, set2 PA.out _ _, (O7.out.kept2 PA.out hS0 _ _).base BE, bel2 Q.out PZ _ _⟩
    · intro J hJ
      go_wp2_with fail
      refine ⟨by first | exact ext_trans Q.out (ext_alloc _ _) | exact fun _ => ext_trans Q.out (ext_alloc _ _), ?_⟩
      obtain ⟨v6, hu⟩ : ∃ u, u = World.alloc V0 (.cells #[.int .i64 0, .slice none 0 0] 45) := ⟨_, rfl⟩
      rw [← hu]
      obtain ⟨p, hp⟩ : ∃ p, p = (V0).heap.size := ⟨_, rfl⟩
      have hpd : (V0).heap.size = p := hp.symm
      rw [hpd]
      have PA : Hid (v6.heap[p]? = some (.cells #[.int .i64 0, .slice none 0 0] 45 (0, 0))) := by rw [hu, hp]; exact Go.heap_alloc_new _ _
      have PZ : W.heap.size ≤ p := by rw [hp]; exact Q.out.size
      have Q : Hid (Below W.heap.size W v6) := by rw [hu]; exact ext_trans Q.out (ext_alloc _ _)
      clear hu hp hpd
      refine tr_eff rfl ?_
      intro J hJ
      go_wp2_with fail
      refine ⟨by first | exact ext_trans Q.out (ext_alloc _ _) | exact fun _ => ext_trans Q.out (ext_alloc _ _), ?_⟩
      obtain ⟨v7, hu⟩ : ∃ u, u = World.alloc v6 (.cells #[] 3) := ⟨_, rfl⟩
      rw [← hu]
      have OE : Hid (OwnI v7 3 v6.heap.size (some ⟨v6.heap.size, 0, none⟩) 0 0 []) := by rw [hu]; exact OwnI.empty _ _
      have BE : W.heap.size ≤ v6.heap.size := Q.out.size
      have SE : Hid (v6.heap.size < v7.heap.size) := by rw [hu]; show _ < _; simp
      have PE : p ≠ v6.heap.size := by have := (Array.getElem?_eq_some_iff.1 PA.out).1; omega
      have PA := Lib.hid (by rw [hu]; exact keepA2 PA.out : v7.heap[p]? = some (.cells #[.int .i64 0, .slice none 0 0] 45 (0, 0)))
      have Q : Hid (Below W.heap.size W v7) := by rw [hu]; exact ext_trans Q.out (ext_alloc _ _)
      clear hu
      generalize v6.heap.size = e0 at *
      refine tr_eff rfl ?_
      intro J hJ
      go_wp2_with (refine wpList_pushI_g (o := ⟨some 33, _, _, _, _, _⟩) rfl (.tmp 30) (.tmp 32) 22 22 rfl 3 Try.underlying22 infoI e0 _ _ _ [] (by rfl) OE.out _ S xs (by rfl) ((h.out.ext (B.out.trans (Q.out.mono B.out.size))).src Try.underlying22) (by omega) (Nat.le_of_lt SE.out) ?_; intro A7 c7 v8 ho hb hg; have O7 := Lib.hid ho; have HB := Lib.hid hb; have HG := Lib.hid hg; clear ho hb hg; go_simp)
      rw [List.nil_append, Nat.zero_add] at O7
      have Q : Hid (Below W.heap.size W v8) := Lib.hid (Q.out.trans (HB.out.mono BE))
      refine ⟨by first | exact Q.out | exact fun _ => Q.out, ?_⟩
      try rw [Nat.zero_add]
      have PA := Lib.hid ((HG.out.block p (Array.getElem?_eq_some_iff.1 PA.out).1 (fun e => PE (Option.some.inj e))).trans PA.out)
      refine tr_pure (v := .agg #[.int .i64 (left - ask), .slice A7 S c7]) rfl (by rfl) (fun v hC => ?_) ?_
      · go_simp
      try go_simp
      refine tr_eff rfl ?_
      intro J hJ
      obtain ⟨c0, c1, f0, f1⟩ := full2f PA.out
      go_wp2_with fail
      refine ⟨by first | exact bel2 Q.out PZ _ _ | exact fun _ => bel2 Q.out PZ _ _, ?_⟩
      refine tr_nil (hJ0 _ _ ?_)
      go_wp2_with fail
      go_meet
      exact ⟨p, A7, c7, rfl, PZ, set2 PA.out _ _, (O7.out.kept2 PA.out hS0 _ _).base BE, bel2 Q.out PZ _ _⟩
  case rest =>
    obtain ⟨p, A7, c7, rfl, zp, hp, ho, hbw⟩ := hcut
    rename World => V
    obtain ⟨g, rfl, zg, _⟩ := ho.blockless hS0
    have gp := own_other ho hS0 hp
    have P := Lib.hid hp
    have O := Lib.hid ho
    have wz : w.heap.size + 1 < W.heap.size := (Array.getElem?_eq_some_iff.1 R.out).1
    replace R := Lib.hid (keepB hbw R.out)
    replace B := Lib.hid (ext_trans B.out hbw)
    have zO := O.out.row_ge g rfl
    have cg := O.out.get (j := 0) hS0
    rw [← HY.out] at cg
    have fg := O.out.row.frozenAt 0
    have ST := Lib.hid (O.out.set 0 (y + ask))
    have P2 : Hid ((V.setCell ⟨g, 0, none⟩ (.int .i64 (y + ask))).drew.heap[p]? = some (.cells #[.int .i64 (left - ask), .slice (some ⟨g, 0, none⟩) S c7] 45 (0, 0))) := (Below.heap_setCell _ _ _ _ (fun e => gp e.symm)).trans P.out
    have R2 : Hid ((V.setCell ⟨g, 0, none⟩ (.int .i64 (y + ask))).drew.heap[w.heap.size + 1]? = some (.cells #[.int .i64 0, .slice none 0 0] 45 (0, 0))) := (Below.heap_setCell _ _ _ _ (show w.heap.size + 1 ≠ g by omega)).trans R.out
    have B2 : Hid (Below w.heap.size w (V.setCell ⟨g, 0, none⟩ (.int .i64 (y + ask))).drew) := Lib.hid (ext_trans (B.out.grown ST.out.2 B.out.size (fun k hk => by injection hk with hk; omega)) (ext_drew _))
    have zy : w.heap.size + 1 < V.heap.size := by omega
    have SO := Lib.hid (ST.out.1.ext (ext_drew _))
    clear hp ho hbw D h hx
    go_upto_region 8 with fail
    refine wp_region_schedF (fin := 11) (fun v => Below V.heap.size V v) [(true, 0), (true, 1), (true, 2), (true, 3), (true, 4), (true, 5), (true, 6), (true, 7), (true, 8), (true, 9), (true, 10), (false, 11)] (by kernel_rfl) rfl (by kernel_rfl) (by kernel_rfl) (by kernel_rfl) (fun _ _ d _ _ h => by cases d <;> exact h) (ext_drew V) ?_
    intro J0 hJ0
    iterate 11 (refine schedF_pure (v := ?_) rfl (by rfl) ?_ ?_; rotate_left; (focus (intro v hC; obtain ⟨d0, d1, _, _⟩ := full2f (keepB hC P.out); have dg := (hC.cell (p := ⟨g, 0, none⟩) zO.2).trans cg; go_simp; try with_reducible rfl)); try go_simp)
    refine schedF_eff rfl ?_
    intro J hJ
    have cg2 := (Below.cell (p := ⟨g, 0, none⟩) (ext_drew V) zO.2).trans cg
    have fg2 : V.drew.frozen? ⟨g, 0, none⟩ = false := fg
    go_wp2_with fail
    first | refine hJ0 _ _ ?_ | (refine ⟨by first | exact fun h => absurd rfl h | trivial, ?_⟩; refine schedF_nil (hJ0 _ _ ?_))
    clear hJ0 cg fg cg2 fg2 ST
    generalize (V.setCell ⟨g, 0, none⟩ (.int .i64 (y + ask))).drew = V2 at *
    obtain ⟨d0, d1, _, _⟩ := full2f P2.out
    obtain ⟨r0, r1, r2, r3⟩ := full2f R2.out
    go_wp2_with fail
    have SS := set2 R2.out (.int .i64 (left - ask)) (.slice (some ⟨g, 0, none⟩) S c7)
    obtain ⟨g0, g1, _, _⟩ := full2f SS
    refine bodyPost_ret (v := .tuple #[.agg #[.int .i64 (left - ask), .slice (some ⟨g, 0, none⟩) S c7], .int .i64 ask]) (by simp only [results, Try.results25]; simp [go_sem, g0, g1]) rfl ?_
    refine ⟨_, _, by rw [show L = (left - ask) by omega], ?_, bel2 B2.out (by omega) _ _⟩
    rw [← HY.out]
    exact (SO.out.kept (World.grownBy.trans1 (grownBy_set' (b := w.heap.size + 1) (j := 0) _) (grownBy_set' (b := w.heap.size + 1) (j := 1) _)) (fun k hk => by injection hk with hk; omega)).base (show w.heap.size ≤ W.heap.size by omega)


set_option maxRecDepth 100000 in
set_option maxHeartbeats 4000000 in
theorem rpay_20 (w : World) (left : Int) (S : Nat) (A : Option Addr) (c : Nat) (xs : List Int) (h : Hid (RdI w A S c xs)) (h1 : 1 ≤ S) (h8 : S ≤ 8) (l0 : 0 ≤ left) (l1 : left ≤ 1125899906842624) (hx : Hid (∀ y ∈ xs, 0 ≤ y ∧ y + left ≤ 1125899906842624)) (j : Nat) (s2 : j < S) (ask : Int) (a1 : left < ask) (L : Int) (hL : L = left - left) :
    Calls Try.prog 25 #[.agg #[.int .i64 left, .slice A S c], .int .i64 j, .int .i64 ask] w (RPays w L S xs j left) := by
  have hS0 : 0 < S := by omega
  have hle := h.out.le
  have hmax := h.out.max
  have hlen := h.out.len
  have s1 : ¬ (j : Int) < 0 := by omega
  have s3 : ¬ (S : Int) ≤ (j : Int) := by omega
  have a2 : ¬ left < 0 := by omega
  obtain ⟨y, hy⟩ : ∃ y, y = xs.getD j 0 := ⟨_, rfl⟩
  have hym : y ∈ xs := by rw [hy, show xs.getD j 0 = xs[j]'(by omega) by simp [show j < xs.length by omega]]; exact List.getElem_mem _
  obtain ⟨y0, y1⟩ := hx.out y hym
  have wr : IntKind.i64.wrap (left - left) = left - left := IntWalk.i64_in _ (by omega)
  have wr0 : IntKind.i64.wrap left = left := IntWalk.i64_in _ (by omega)
  have wr1 : IntKind.i64.wrap (y + left) = y + left := IntWalk.i64_in _ (by omega)
  have wr2 : IntKind.i64.wrap y = y := IntWalk.i64_in _ (by omega)
  have HY := Lib.hid hy
  clear hy hym
  go_enter Try.func25, Try.ntmps25
  go_upto_region 1 with fail
  generalize hW : World.alloc (World.alloc w (.cells #[.int .i64 left, .slice A S c] 45)) (.cells #[.int .i64 0, .slice none 0 0] 45) = W
  have D : Hid (W.heap[w.heap.size]? = some (.cells #[.int .i64 left, .slice A S c] 45 (0, 0))) := by rw [← hW]; exact keepA2 (Go.heap_alloc_new w _)
  have R : Hid (W.heap[w.heap.size + 1]? = some (.cells #[.int .i64 0, .slice none 0 0] 45 (0, 0))) := by rw [← hW, show w.heap.size + 1 = (World.alloc w (.cells #[.int .i64 left, .slice A S c] 45)).heap.size by simp]; exact Go.heap_alloc_new _ _
  have B : Hid (Below w.heap.size w W) := by rw [← hW]; exact ext_trans (ext_alloc _ _) (ext_alloc _ _)
  clear hW
  obtain ⟨d0, d1, _, _⟩ := full2f D.out
  go_upto_region 7 with fail
  clear d0 d1
  go_cut [8] (fun x wx => RMade 0 S xs W x wx)
  case first =>
    refine wp_region_tr (fin := 99) (fun v => Below W.heap.size W v) (.pure 0 (.pure 1 (.pure 2 (.pure 3 (.pure 5 (.pure 6 (.two 4 (.two 7 (.pure 8 (.eff 9 (.eff 10 .nil))) 9 (.eff 7 (.pure 8 (.eff 10 .nil)))) 9 (.eff 4 (.eff 7 (.pure 8 (.eff 10 .nil))))))))))) (by kernel_rfl) (by kernel_rfl) (by kernel_rfl) (fun _ _ d _ _ h => by cases d <;> exact h) (ext_drew W) ?_
    intro J0 hJ0
    iterate 6 (refine tr_pure (v := ?_) rfl (by rfl) ?_ ?_; rotate_left; (focus (intro v hC; obtain ⟨d0, d1, _, _⟩ := full2f (keepB hC D.out); go_simp; try with_reducible rfl)); try go_simp)
    have Q : Hid (Below W.heap.size W W.drew) := Lib.hid (ext_drew W)
    generalize W.drew = V0 at *
    refine tr_two rfl rfl ?_ ?_
    · intro J hJ
      go_wp2_with fail
      refine ⟨by first | exact ext_trans Q.out (ext_alloc _ _) | exact fun _ => ext_trans Q.out (ext_alloc _ _), ?_⟩
      obtain ⟨v1, hu⟩ : ∃ u, u = World.alloc V0 (.cells #[] 3) := ⟨_, rfl⟩
      rw [← hu]
      have OE : Hid (OwnI v1 3 V0.heap.size (some ⟨V0.heap.size, 0, none⟩) 0 0 []) := by rw [hu]; exact OwnI.empty _ _
      have BE : W.heap.size ≤ V0.heap.size := Q.out.size
      have SE : Hid (V0.heap.size < v1.heap.size) := by rw [hu]; show _ < _; simp
      have Q : Hid (Below W.heap.size W v1) := by rw [hu]; exact ext_trans Q.out (ext_alloc _ _)
      clear hu
      generalize V0.heap.size = e0 at *
      refine tr_two rfl rfl ?_ ?_
      · intro J hJ
        go_wp2_with (refine wpList_pushI_g (o := ⟨some 33, _, _, _, _, _⟩) rfl (.tmp 30) (.tmp 32) 22 22 rfl 3 Try.underlying22 infoI e0 _ _ _ [] (by rfl) OE.out _ S xs (by rfl) ((h.out.ext (B.out.trans (Q.out.mono B.out.size))).src Try.underlying22) (by omega) (Nat.le_of_lt SE.out) ?_; intro A7 c7 v2 ho hb hg; have O7 := Lib.hid ho; have HB := Lib.hid hb; have HG := Lib.hid hg; clear ho hb hg; go_simp)
        rw [List.nil_append, Nat.zero_add] at O7
        have Q : Hid (Below W.heap.size W v2) := Lib.hid (Q.out.trans (HB.out.mono BE))
        refine ⟨by first | exact Q.out | exact fun _ => Q.out, ?_⟩
        try rw [Nat.zero_add]
        refine tr_pure (v := .agg #[.int .i64 0, .slice A7 S c7]) rfl (by rfl) (fun v hC => ?_) ?_
        · go_simp
        try go_simp
        refine tr_eff rfl ?_
        intro J hJ
        go_wp2_with fail
        refine ⟨by first | exact ext_trans Q.out (ext_alloc _ _) | exact fun _ => ext_trans Q.out (ext_alloc _ _), ?_⟩
        obtain ⟨v3, hu⟩ : ∃ u, u = World.alloc v2 (.cells #[.int .i64 0, .slice none 0 0] 45) := ⟨_, rfl⟩
        rw [← hu]
        obtain ⟨p, hp⟩ : ∃ p, p = (v2).heap.size := ⟨_, rfl⟩
        have hpd : (v2).heap.size = p := hp.symm
        rw [hpd]
        have PA : Hid (v3.heap[p]? = some (.cells #[.int .i64 0, .slice none 0 0] 45 (0, 0))) := by rw [hu, hp]; exact Go.heap_alloc_new _ _
        have PZ : W.heap.size ≤ p := by rw [hp]; exact Q.out.size
        have O7 := Lib.hid (by rw [hu]; exact O7.out.ext (ext_alloc _ _) : OwnI v3 3 e0 A7 S c7 xs)
        have Q : Hid (Below W.heap.size W v3) := by rw [hu]; exact ext_trans Q.out (ext_alloc _ _)
        clear hu hp hpd
        refine tr_eff rfl ?_
        intro J hJ
        obtain ⟨c0, c1, f0, f1⟩ := full2f PA.out
        go_wp2_with fail
        refine ⟨by first | exact bel2 Q.out PZ _ _ | exact fun _ => bel2 Q.out PZ _ _, ?_⟩
        refine tr_nil (hJ0 _ _ ?_)
        go_wp2_with fail
        go_meet
        exact ⟨p, A7, c7, rfl, PZ, set2 PA.out _ _, (O7.out.kept2 PA.out hS0 _ _).base BE, bel2 Q.out PZ _ _⟩
      · intro J hJ
        go_wp2_with fail
        refine ⟨by first | exact ext_trans Q.out (ext_alloc _ _) | exact fun _ => ext_trans Q.out (ext_alloc _ _), ?_⟩
        obtain ⟨v4, hu⟩ : ∃ u, u = World.alloc v1 (.cells #[.int .i64 0, .slice none 0 0] 45) := ⟨_, rfl⟩
        rw [← hu]
        obtain ⟨p, hp⟩ : ∃ p, p = (v1).heap.size := ⟨_, rfl⟩
        have hpd : (v1).heap.size = p := hp.symm
        rw [hpd]
        have PA : Hid (v4.heap[p]? = some (.cells #[.int .i64 0, .slice none 0 0] 45 (0, 0))) := by rw [hu, hp]; exact Go.heap_alloc_new _ _
        have PZ : W.heap.size ≤ p := by rw [hp]; exact Q.out.size
        have OE := Lib.hid (by rw [hu]; exact OE.out.ext (ext_alloc _ _) : OwnI v4 3 e0 (some ⟨e0, 0, none⟩) 0 0 [])
        have SE0 := SE.out
        have PE : p ≠ e0 := by omega
        have SE : Hid (e0 < v4.heap.size) := by rw [hu]; exact Nat.lt_of_lt_of_le SE0 (ext_alloc _ _).size
        have Q : Hid (Below W.heap.size W v4) := by rw [hu]; exact ext_trans Q.out (ext_alloc _ _)
        clear hu hp hpd
        refine tr_eff rfl ?_
        intro J hJ
        go_wp2_with (refine wpList_pushI_g (o := ⟨some 33, _, _, _, _, _⟩) rfl (.tmp 30) (.tmp 32) 22 22 rfl 3 Try.underlying22 infoI e0 _ _ _ [] (by rfl) OE.out _ S xs (by rfl) ((h.out.ext (B.out.trans (Q.out.mono B.out.size))).src Try.underlying22) (by omega) (Nat.le_of_lt SE.out) ?_; intro A7 c7 v5 ho hb hg; have O7 := Lib.hid ho; have HB := Lib.hid hb; have HG := Lib.hid hg; clear ho hb hg; go_simp)
        rw [List.nil_append, Nat.zero_add] at O7
        have Q : Hid (Below W.heap.size W v5) := Lib.hid (Q.out.trans (HB.out.mono BE))
        refine ⟨by first | exact Q.out | exact fun _ => Q.out, ?_⟩
        try rw [Nat.zero_add]
        have PA := Lib.hid ((HG.out.block p (Array.getElem?_eq_some_iff.1 PA.out).1 (fun e => PE (Option.some.inj e))).trans PA.out)
        refine tr_pure (v := .agg #[.int .i64 0, .slice A7 S c7]) rfl (by rfl) (fun v hC => ?_) ?_
        · go_simp
        try go_simp
        refine tr_eff rfl ?_
        intro J hJ
        obtain ⟨c0, c1, f0, f1⟩ := full2f PA.out
        go_wp2_with fail
        refine ⟨by first | exact bel2 Q.out PZ _ _ | exact fun _ => bel2 Q.out PZ _ _, ?_⟩
        refine tr_nil (hJ0 _ _ ?_)
        go_wp2_with fail
        go_meet
        exact ⟨p, A7, c7, rfl, PZ, set2 PA.out _ _, (O7.out.kept2 PA.out hS0 _ _).base BE, bel2 Q.out PZ _ _⟩
    · intro J hJ
      go_wp2_with fail
      refine ⟨by first | exact ext_trans Q.out (ext_alloc _ _) | exact fun _ => ext_trans Q.out (ext_alloc _ _), ?_⟩
      obtain ⟨v6, hu⟩ : ∃ u, u = World.alloc V0 (.cells #[.int .i64 0, .slice none 0 0] 45) := ⟨_, rfl⟩
      rw [← hu]
      obtain ⟨p, hp⟩ : ∃ p, p = (V0).heap.size := ⟨_, rfl⟩
      have hpd : (V0).heap.size = p := hp.symm
      rw [hpd]
      have PA : Hid (v6.heap[p]? = some (.cells #[.int .i64 0, .slice none 0 0] 45 (0, 0))) := by rw [hu, hp]; exact Go.heap_alloc_new _ _
      have PZ : W.heap.size ≤ p := by rw [hp]; exact Q.out.size
      have Q : Hid (Below W.heap.size W v6) := by rw [hu]; exact ext_trans Q.out (ext_alloc _ _)
      clear hu hp hpd
      refine tr_eff rfl ?_
      intro J hJ
      go_wp2_with fail
      refine ⟨by first | exact ext_trans Q.out (ext_alloc _ _) | exact fun _ => ext_trans Q.out (ext_alloc _ _), ?_⟩
      obtain ⟨v7, hu⟩ : ∃ u, u = World.alloc v6 (.cells #[] 3) := ⟨_, rfl⟩
      rw [← hu]
      have OE : Hid (OwnI v7 3 v6.heap.size (some ⟨v6.heap.size, 0, none⟩) 0 0 []) := by rw [hu]; exact OwnI.empty _ _
      have BE : W.heap.size ≤ v6.heap.size := Q.out.size
      have SE : Hid (v6.heap.size < v7.heap.size) := by rw [hu]; show _ < _; simp
      have PE : p ≠ v6.heap.size := by have := (Array.getElem?_eq_some_iff.1 PA.out).1; omega
      have PA := Lib.hid (by rw [hu]; exact keepA2 PA.out : v7.heap[p]? = some (.cells #[.int .i64 0, .slice none 0 0] 45 (0, 0)))
      have Q : Hid (Below W.heap.size W v7) := by rw [hu]; exact ext_trans Q.out (ext_alloc _ _)
      clear hu
      generalize v6.heap.size = e0 at *
      refine tr_eff rfl ?_
      intro J hJ
      go_wp2_with (refine wpList_pushI_g (o := ⟨some 33, _, _, _, _, _⟩) rfl (.tmp 30) (.tmp 32) 22 22 rfl 3 Try.underlying22 infoI e0 _ _ _ [] (by rfl) OE.out _ S xs (by rfl) ((h.out.ext (B.out.trans (Q.out.mono B.out.size))).src Try.underlying22) (by omega) (Nat.le_of_lt SE.out) ?_; intro A7 c7 v8 ho hb hg; have O7 := Lib.hid ho; have HB := Lib.hid hb; have HG := Lib.hid hg; clear ho hb hg; go_simp)
      rw [List.nil_append, Nat.zero_add] at O7
      have Q : Hid (Below W.heap.size W v8) := Lib.hid (Q.out.trans (HB.out.mono BE))
      refine ⟨by first | exact Q.out | exact fun _ => Q.out, ?_⟩
      try rw [Nat.zero_add]
      have PA := Lib.hid ((HG.out.block p (Array.getElem?_eq_some_iff.1 PA.out).1 (fun e => PE (Option.some.inj e))).trans PA.out)
      refine tr_pure (v := .agg #[.int .i64 0, .slice A7 S c7]) rfl (by rfl) (fun v hC => ?_) ?_
      · go_simp
      try go_simp
      refine tr_eff rfl ?_
      intro J hJ
      obtain ⟨c0, c1, f0, f1⟩ := full2f PA.out
      go_wp2_with fail
      refine ⟨by first | exact bel2 Q.out PZ _ _ | exact fun _ => bel2 Q.out PZ _ _, ?_⟩
      refine tr_nil (hJ0 _ _ ?_)
      go_wp2_with fail
      go_meet
      exact ⟨p, A7, c7, rfl, PZ, set2 PA.out _ _, (O7.out.kept2 PA.out hS0 _ _).base BE, bel2 Q.out PZ _ _⟩
  case rest =>
    obtain ⟨p, A7, c7, rfl, zp, hp, ho, hbw⟩ := hcut
    rename World => V
    obtain ⟨g, rfl, zg, _⟩ := ho.blockless hS0
    have gp := own_other ho hS0 hp
    have P := Lib.hid hp
    have O := Lib.hid ho
    have wz : w.heap.size + 1 < W.heap.size := (Array.getElem?_eq_some_iff.1 R.out).1
    replace R := Lib.hid (keepB hbw R.out)
    replace B := Lib.hid (ext_trans B.out hbw)
    have zO := O.out.row_ge g rfl
    have cg := O.out.get (j := j) s2
    rw [← HY.out] at cg
    have fg := O.out.row.frozenAt j
    have ST := Lib.hid (O.out.set j (y + left))
    have P2 : Hid ((V.setCell ⟨g, j, none⟩ (.int .i64 (y + left))).drew.heap[p]? = some (.cells #[.int .i64 0, .slice (some ⟨g, 0, none⟩) S c7] 45 (0, 0))) := (Below.heap_setCell _ _ _ _ (fun e => gp e.symm)).trans P.out
    have R2 : Hid ((V.setCell ⟨g, j, none⟩ (.int .i64 (y + left))).drew.heap[w.heap.size + 1]? = some (.cells #[.int .i64 0, .slice none 0 0] 45 (0, 0))) := (Below.heap_setCell _ _ _ _ (show w.heap.size + 1 ≠ g by omega)).trans R.out
    have B2 : Hid (Below w.heap.size w (V.setCell ⟨g, j, none⟩ (.int .i64 (y + left))).drew) := Lib.hid (ext_trans (B.out.grown ST.out.2 B.out.size (fun k hk => by injection hk with hk; omega)) (ext_drew _))
    have zy : w.heap.size + 1 < V.heap.size := by omega
    have SO := Lib.hid (ST.out.1.ext (ext_drew _))
    clear hp ho hbw D h hx
    go_upto_region 8 with fail
    refine wp_region_schedF (fin := 11) (fun v => Below V.heap.size V v) [(true, 0), (true, 1), (true, 2), (true, 3), (true, 4), (true, 5), (true, 6), (true, 7), (true, 8), (true, 9), (true, 10), (false, 11)] (by kernel_rfl) rfl (by kernel_rfl) (by kernel_rfl) (by kernel_rfl) (fun _ _ d _ _ h => by cases d <;> exact h) (ext_drew V) ?_
    intro J0 hJ0
    iterate 11 (refine schedF_pure (v := ?_) rfl (by rfl) ?_ ?_; rotate_left; (focus (intro v hC; obtain ⟨d0, d1, _, _⟩ := full2f (keepB hC P.out); have dg := (hC.cell (p := ⟨g, j, none⟩) zO.2).trans cg; go_simp; try with_reducible rfl)); try go_simp)
    refine schedF_eff rfl ?_
    intro J hJ
    have cg2 := (Below.cell (p := ⟨g, j, none⟩) (ext_drew V) zO.2).trans cg
    have fg2 : V.drew.frozen? ⟨g, j, none⟩ = false := fg
    go_wp2_with fail
    first | refine hJ0 _ _ ?_ | (refine ⟨by first | exact fun h => absurd rfl h | trivial, ?_⟩; refine schedF_nil (hJ0 _ _ ?_))
    clear hJ0 cg fg cg2 fg2 ST
    generalize (V.setCell ⟨g, j, none⟩ (.int .i64 (y + left))).drew = V2 at *
    obtain ⟨d0, d1, _, _⟩ := full2f P2.out
    obtain ⟨r0, r1, r2, r3⟩ := full2f R2.out
    go_wp2_with fail
    have SS := set2 R2.out (.int .i64 0) (.slice (some ⟨g, 0, none⟩) S c7)
    obtain ⟨g0, g1, _, _⟩ := full2f SS
    refine bodyPost_ret (v := .tuple #[.agg #[.int .i64 0, .slice (some ⟨g, 0, none⟩) S c7], .int .i64 left]) (by simp only [results, Try.results25]; simp [go_sem, g0, g1]) rfl ?_
    refine ⟨_, _, by rw [show L = 0 by omega], ?_, bel2 B2.out (by omega) _ _⟩
    rw [← HY.out]
    exact (SO.out.kept (World.grownBy.trans1 (grownBy_set' (b := w.heap.size + 1) (j := 0) _) (grownBy_set' (b := w.heap.size + 1) (j := 1) _)) (fun k hk => by injection hk with hk; omega)).base (show w.heap.size ≤ W.heap.size by omega)


set_option maxRecDepth 100000 in
set_option maxHeartbeats 4000000 in
theorem rpay_21 (w : World) (left : Int) (S : Nat) (A : Option Addr) (c : Nat) (xs : List Int) (h : Hid (RdI w A S c xs)) (h1 : 1 ≤ S) (h8 : S ≤ 8) (l0 : 0 ≤ left) (l1 : left ≤ 1125899906842624) (hx : Hid (∀ y ∈ xs, 0 ≤ y ∧ y + left ≤ 1125899906842624)) (j : Nat) (s2 : j < S) (ask : Int) (a1 : ¬ left < ask) (a2 : ask < 0) (L : Int) (hL : L = left - 0) :
    Calls Try.prog 25 #[.agg #[.int .i64 left, .slice A S c], .int .i64 j, .int .i64 ask] w (RPays w L S xs j 0) := by
  have hS0 : 0 < S := by omega
  have hle := h.out.le
  have hmax := h.out.max
  have hlen := h.out.len
  have s1 : ¬ (j : Int) < 0 := by omega
  have s3 : ¬ (S : Int) ≤ (j : Int) := by omega
  obtain ⟨y, hy⟩ : ∃ y, y = xs.getD j 0 := ⟨_, rfl⟩
  have hym : y ∈ xs := by rw [hy, show xs.getD j 0 = xs[j]'(by omega) by simp [show j < xs.length by omega]]; exact List.getElem_mem _
  obtain ⟨y0, y1⟩ := hx.out y hym
  have wr : IntKind.i64.wrap (left - 0) = left - 0 := IntWalk.i64_in _ (by omega)
  have wr0 : IntKind.i64.wrap left = left := IntWalk.i64_in _ (by omega)
  have wr1 : IntKind.i64.wrap (y + 0) = y + 0 := IntWalk.i64_in _ (by omega)
  have wr2 : IntKind.i64.wrap y = y := IntWalk.i64_in _ (by omega)
  have HY := Lib.hid hy
  clear hy hym
  go_enter Try.func25, Try.ntmps25
  go_upto_region 1 with fail
  generalize hW : World.alloc (World.alloc w (.cells #[.int .i64 left, .slice A S c] 45)) (.cells #[.int .i64 0, .slice none 0 0] 45) = W
  have D : Hid (W.heap[w.heap.size]? = some (.cells #[.int .i64 left, .slice A S c] 45 (0, 0))) := by rw [← hW]; exact keepA2 (Go.heap_alloc_new w _)
  have R : Hid (W.heap[w.heap.size + 1]? = some (.cells #[.int .i64 0, .slice none 0 0] 45 (0, 0))) := by rw [← hW, show w.heap.size + 1 = (World.alloc w (.cells #[.int .i64 left, .slice A S c] 45)).heap.size by simp]; exact Go.heap_alloc_new _ _
  have B : Hid (Below w.heap.size w W) := by rw [← hW]; exact ext_trans (ext_alloc _ _) (ext_alloc _ _)
  clear hW
  obtain ⟨d0, d1, _, _⟩ := full2f D.out
  go_upto_region 7 with fail
  clear d0 d1
  go_cut [8] (fun x wx => RMade left S xs W x wx)
  case first =>
    refine wp_region_tr (fin := 99) (fun v => Below W.heap.size W v) (.pure 0 (.pure 1 (.pure 2 (.pure 3 (.pure 5 (.pure 6 (.two 4 (.two 7 (.pure 8 (.eff 9 (.eff 10 .nil))) 9 (.eff 7 (.pure 8 (.eff 10 .nil)))) 9 (.eff 4 (.eff 7 (.pure 8 (.eff 10 .nil))))))))))) (by kernel_rfl) (by kernel_rfl) (by kernel_rfl) (fun _ _ d _ _ h => by cases d <;> exact h) (ext_drew W) ?_
    intro J0 hJ0
    iterate 6 (refine tr_pure (v := ?_) rfl (by rfl) ?_ ?_; rotate_left; (focus (intro v hC; obtain ⟨d0, d1, _, _⟩ := full2f (keepB hC D.out); go_simp; try with_reducible rfl)); try go_simp)
    have Q : Hid (Below W.heap.size W W.drew) := Lib.hid (ext_drew W)
    generalize W.drew = V0 at *
    refine tr_two rfl rfl ?_ ?_
    · intro J hJ
      go_wp2_with fail
      refine ⟨by first | exact ext_trans Q.out (ext_alloc _ _) | exact fun _ => ext_trans Q.out (ext_alloc _ _), ?_⟩
      obtain ⟨v1, hu⟩ : ∃ u, u = World.alloc V0 (.cells #[] 3) := ⟨_, rfl⟩
      rw [← hu]
      have OE : Hid (OwnI v1 3 V0.heap.size (some ⟨V0.heap.size, 0, none⟩) 0 0 []) := by rw [hu]; exact OwnI.empty _ _
      have BE : W.heap.size ≤ V0.heap.size := Q.out.size
      have SE : Hid (V0.heap.size < v1.heap.size) := by rw [hu]; show _ < _; simp
      have Q : Hid (Below W.heap.size W v1) := by rw [hu]; exact ext_trans Q.out (ext_alloc _ _)
      clear hu
      generalize V0.heap.size = e0 at *
      refine tr_two rfl rfl ?_ ?_
      · intro J hJ
        go_wp2_with (refine wpList_pushI_g (o := ⟨some 33, _, _, _, _, _⟩) rfl (.tmp 30) (.tmp 32) 22 22 rfl 3 Try.underlying22 infoI e0 _ _ _ [] (by rfl) OE.out _ S xs (by rfl) ((h.out.ext (B.out.trans (Q.out.mono B.out.size))).src Try.underlying22) (by omega) (Nat.le_of_lt SE.out) ?_; intro A7 c7 v2 ho hb hg; have O7 := Lib.hid ho; have HB := Lib.hid hb; have HG := Lib.hid hg; clear ho hb hg; go_simp)
        rw [List.nil_append, Nat.zero_add] at O7
        have Q : Hid (Below W.heap.size W v2) := Lib.hid (Q.out.trans (HB.out.mono BE))
        refine ⟨by first | exact Q.out | exact fun _ => Q.out, ?_⟩
        try rw [Nat.zero_add]
        refine tr_pure (v := .agg #[.int .i64 left, .slice A7 S c7]) rfl (by rfl) (fun v hC => ?_) ?_
        · go_simp
        try go_simp
        refine tr_eff rfl ?_
        intro J hJ
        go_wp2_with fail
        refine ⟨by first | exact ext_trans Q.out (ext_alloc _ _) | exact fun _ => ext_trans Q.out (ext_alloc _ _), ?_⟩
        obtain ⟨v3, hu⟩ : ∃ u, u = World.alloc v2 (.cells #[.int .i64 0, .slice none 0 0] 45) := ⟨_, rfl⟩
        rw [← hu]
        obtain ⟨p, hp⟩ : ∃ p, p = (v2).heap.size := ⟨_, rfl⟩
        have hpd : (v2).heap.size = p := hp.symm
        rw [hpd]
        have PA : Hid (v3.heap[p]? = some (.cells #[.int .i64 0, .slice none 0 0] 45 (0, 0))) := by rw [hu, hp]; exact Go.heap_alloc_new _ _
        have PZ : W.heap.size ≤ p := by rw [hp]; exact Q.out.size
        have O7 := Lib.hid (by rw [hu]; exact O7.out.ext (ext_alloc _ _) : OwnI v3 3 e0 A7 S c7 xs)
        have Q : Hid (Below W.heap.size W v3) := by rw [hu]; exact ext_trans Q.out (ext_alloc _ _)
        clear hu hp hpd
        refine tr_eff rfl ?_
        intro J hJ
        obtain ⟨c0, c1, f0, f1⟩ := full2f PA.out
        go_wp2_with fail
        refine ⟨by first | exact bel2 Q.out PZ _ _ | exact fun _ => bel2 Q.out PZ _ _, ?_⟩
        refine tr_nil (hJ0 _ _ ?_)
        go_wp2_with fail
        go_meet
        exact ⟨p, A7, c7, rfl, PZ, set2 PA.out _ _, (O7.out.kept2 PA.out hS0 _ _).base BE, bel2 Q.out PZ _ _⟩
      · intro J hJ
        go_wp2_with fail
        refine ⟨by first | exact ext_trans Q.out (ext_alloc _ _) | exact fun _ => ext_trans Q.out (ext_alloc _ _), ?_⟩
        obtain ⟨v4, hu⟩ : ∃ u, u = World.alloc v1 (.cells #[.int .i64 0, .slice none 0 0] 45) := ⟨_, rfl⟩
        rw [← hu]
        obtain ⟨p, hp⟩ : ∃ p, p = (v1).heap.size := ⟨_, rfl⟩
        have hpd : (v1).heap.size = p := hp.symm
        rw [hpd]
        have PA : Hid (v4.heap[p]? = some (.cells #[.int .i64 0, .slice none 0 0] 45 (0, 0))) := by rw [hu, hp]; exact Go.heap_alloc_new _ _
        have PZ : W.heap.size ≤ p := by rw [hp]; exact Q.out.size
        have OE := Lib.hid (by rw [hu]; exact OE.out.ext (ext_alloc _ _) : OwnI v4 3 e0 (some ⟨e0, 0, none⟩) 0 0 [])
        have SE0 := SE.out
        have PE : p ≠ e0 := by omega
        have SE : Hid (e0 < v4.heap.size) := by rw [hu]; exact Nat.lt_of_lt_of_le SE0 (ext_alloc _ _).size
        have Q : Hid (Below W.heap.size W v4) := by rw [hu]; exact ext_trans Q.out (ext_alloc _ _)
        clear hu hp hpd
        refine tr_eff rfl ?_
        intro J hJ
        go_wp2_with (refine wpList_pushI_g (o := ⟨some 33, _, _, _, _, _⟩) rfl (.tmp 30) (.tmp 32) 22 22 rfl 3 Try.underlying22 infoI e0 _ _ _ [] (by rfl) OE.out _ S xs (by rfl) ((h.out.ext (B.out.trans (Q.out.mono B.out.size))).src Try.underlying22) (by omega) (Nat.le_of_lt SE.out) ?_; intro A7 c7 v5 ho hb hg; have O7 := Lib.hid ho; have HB := Lib.hid hb; have HG := Lib.hid hg; clear ho hb hg; go_simp)
        rw [List.nil_append, Nat.zero_add] at O7
        have Q : Hid (Below W.heap.size W v5) := Lib.hid (Q.out.trans (HB.out.mono BE))
        refine ⟨by first | exact Q.out | exact fun _ => Q.out, ?_⟩
        try rw [Nat.zero_add]
        have PA := Lib.hid ((HG.out.block p (Array.getElem?_eq_some_iff.1 PA.out).1 (fun e => PE (Option.some.inj e))).trans PA.out)
        refine tr_pure (v := .agg #[.int .i64 left, .slice A7 S c7]) rfl (by rfl) (fun v hC => ?_) ?_
        · go_simp
        try go_simp
        refine tr_eff rfl ?_
        intro J hJ
        obtain ⟨c0, c1, f0, f1⟩ := full2f PA.out
        go_wp2_with fail
        refine ⟨by first | exact bel2 Q.out PZ _ _ | exact fun _ => bel2 Q.out PZ _ _, ?_⟩
        refine tr_nil (hJ0 _ _ ?_)
        go_wp2_with fail
        go_meet
        exact ⟨p, A7, c7, rfl, PZ, set2 PA.out _ _, (O7.out.kept2 PA.out hS0 _ _).base BE, bel2 Q.out PZ _ _⟩
    · intro J hJ
      go_wp2_with fail
      refine ⟨by first | exact ext_trans Q.out (ext_alloc _ _) | exact fun _ => ext_trans Q.out (ext_alloc _ _), ?_⟩
      obtain ⟨v6, hu⟩ : ∃ u, u = World.alloc V0 (.cells #[.int .i64 0, .slice none 0 0] 45) := ⟨_, rfl⟩
      rw [← hu]
      obtain ⟨p, hp⟩ : ∃ p, p = (V0).heap.size := ⟨_, rfl⟩
      have hpd : (V0).heap.size = p := hp.symm
      rw [hpd]
      have PA : Hid (v6.heap[p]? = some (.cells #[.int .i64 0, .slice none 0 0] 45 (0, 0))) := by rw [hu, hp]; exact Go.heap_alloc_new _ _
      have PZ : W.heap.size ≤ p := by rw [hp]; exact Q.out.size
      have Q : Hid (Below W.heap.size W v6) := by rw [hu]; exact ext_trans Q.out (ext_alloc _ _)
      clear hu hp hpd
      refine tr_eff rfl ?_
      intro J hJ
      go_wp2_with fail
      refine ⟨by first | exact ext_trans Q.out (ext_alloc _ _) | exact fun _ => ext_trans Q.out (ext_alloc _ _), ?_⟩
      obtain ⟨v7, hu⟩ : ∃ u, u = World.alloc v6 (.cells #[] 3) := ⟨_, rfl⟩
      rw [← hu]
      have OE : Hid (OwnI v7 3 v6.heap.size (some ⟨v6.heap.size, 0, none⟩) 0 0 []) := by rw [hu]; exact OwnI.empty _ _
      have BE : W.heap.size ≤ v6.heap.size := Q.out.size
      have SE : Hid (v6.heap.size < v7.heap.size) := by rw [hu]; show _ < _; simp
      have PE : p ≠ v6.heap.size := by have := (Array.getElem?_eq_some_iff.1 PA.out).1; omega
      have PA := Lib.hid (by rw [hu]; exact keepA2 PA.out : v7.heap[p]? = some (.cells #[.int .i64 0, .slice none 0 0] 45 (0, 0)))
      have Q : Hid (Below W.heap.size W v7) := by rw [hu]; exact ext_trans Q.out (ext_alloc _ _)
      clear hu
      generalize v6.heap.size = e0 at *
      refine tr_eff rfl ?_
      intro J hJ
      go_wp2_with (refine wpList_pushI_g (o := ⟨some 33, _, _, _, _, _⟩) rfl (.tmp 30) (.tmp 32) 22 22 rfl 3 Try.underlying22 infoI e0 _ _ _ [] (by rfl) OE.out _ S xs (by rfl) ((h.out.ext (B.out.trans (Q.out.mono B.out.size))).src Try.underlying22) (by omega) (Nat.le_of_lt SE.out) ?_; intro A7 c7 v8 ho hb hg; have O7 := Lib.hid ho; have HB := Lib.hid hb; have HG := Lib.hid hg; clear ho hb hg; go_simp)
      rw [List.nil_append, Nat.zero_add] at O7
      have Q : Hid (Below W.heap.size W v8) := Lib.hid (Q.out.trans (HB.out.mono BE))
      refine ⟨by first | exact Q.out | exact fun _ => Q.out, ?_⟩
      try rw [Nat.zero_add]
      have PA := Lib.hid ((HG.out.block p (Array.getElem?_eq_some_iff.1 PA.out).1 (fun e => PE (Option.some.inj e))).trans PA.out)
      refine tr_pure (v := .agg #[.int .i64 left, .slice A7 S c7]) rfl (by rfl) (fun v hC => ?_) ?_
      · go_simp
      try go_simp
      refine tr_eff rfl ?_
      intro J hJ
      obtain ⟨c0, c1, f0, f1⟩ := full2f PA.out
      go_wp2_with fail
      refine ⟨by first | exact bel2 Q.out PZ _ _ | exact fun _ => bel2 Q.out PZ _ _, ?_⟩
      refine tr_nil (hJ0 _ _ ?_)
      go_wp2_with fail
      go_meet
      exact ⟨p, A7, c7, rfl, PZ, set2 PA.out _ _, (O7.out.kept2 PA.out hS0 _ _).base BE, bel2 Q.out PZ _ _⟩
  case rest =>
    obtain ⟨p, A7, c7, rfl, zp, hp, ho, hbw⟩ := hcut
    rename World => V
    obtain ⟨g, rfl, zg, _⟩ := ho.blockless hS0
    have gp := own_other ho hS0 hp
    have P := Lib.hid hp
    have O := Lib.hid ho
    have wz : w.heap.size + 1 < W.heap.size := (Array.getElem?_eq_some_iff.1 R.out).1
    replace R := Lib.hid (keepB hbw R.out)
    replace B := Lib.hid (ext_trans B.out hbw)
    have zO := O.out.row_ge g rfl
    have cg := O.out.get (j := j) s2
    rw [← HY.out] at cg
    have fg := O.out.row.frozenAt j
    have ST := Lib.hid (O.out.set j y)
    have P2 : Hid ((V.setCell ⟨g, j, none⟩ (.int .i64 y)).drew.heap[p]? = some (.cells #[.int .i64 left, .slice (some ⟨g, 0, none⟩) S c7] 45 (0, 0))) := (Below.heap_setCell _ _ _ _ (fun e => gp e.symm)).trans P.out
    have R2 : Hid ((V.setCell ⟨g, j, none⟩ (.int .i64 y)).drew.heap[w.heap.size + 1]? = some (.cells #[.int .i64 0, .slice none 0 0] 45 (0, 0))) := (Below.heap_setCell _ _ _ _ (show w.heap.size + 1 ≠ g by omega)).trans R.out
    have B2 : Hid (Below w.heap.size w (V.setCell ⟨g, j, none⟩ (.int .i64 y)).drew) := Lib.hid (ext_trans (B.out.grown ST.out.2 B.out.size (fun k hk => by injection hk with hk; omega)) (ext_drew _))
    have zy : w.heap.size + 1 < V.heap.size := by omega
    have SO := Lib.hid (ST.out.1.ext (ext_drew _))
    clear hp ho hbw D h hx
    go_upto_region 8 with fail
    refine wp_region_schedF (fin := 11) (fun v => Below V.heap.size V v) [(true, 0), (true, 1), (true, 2), (true, 3), (true, 4), (true, 5), (true, 6), (true, 7), (true, 8), (true, 9), (true, 10), (false, 11)] (by kernel_rfl) rfl (by kernel_rfl) (by kernel_rfl) (by kernel_rfl) (fun _ _ d _ _ h => by cases d <;> exact h) (ext_drew V) ?_
    intro J0 hJ0
    iterate 11 (refine schedF_pure (v := ?_) rfl (by rfl) ?_ ?_; rotate_left; (focus (intro v hC; obtain ⟨d0, d1, _, _⟩ := full2f (keepB hC P.out); have dg := (hC.cell (p := ⟨g, j, none⟩) zO.2).trans cg; go_simp; try with_reducible rfl)); try go_simp)
    refine schedF_eff rfl ?_
    intro J hJ
    have cg2 := (Below.cell (p := ⟨g, j, none⟩) (ext_drew V) zO.2).trans cg
    have fg2 : V.drew.frozen? ⟨g, j, none⟩ = false := fg
    go_wp2_with fail
    first | refine hJ0 _ _ ?_ | (refine ⟨by first | exact fun h => absurd rfl h | trivial, ?_⟩; refine schedF_nil (hJ0 _ _ ?_))
    clear hJ0 cg fg cg2 fg2 ST
    generalize (V.setCell ⟨g, j, none⟩ (.int .i64 y)).drew = V2 at *
    obtain ⟨d0, d1, _, _⟩ := full2f P2.out
    obtain ⟨r0, r1, r2, r3⟩ := full2f R2.out
    go_wp2_with fail
    have SS := set2 R2.out (.int .i64 left) (.slice (some ⟨g, 0, none⟩) S c7)
    obtain ⟨g0, g1, _, _⟩ := full2f SS
    refine bodyPost_ret (v := .tuple #[.agg #[.int .i64 left, .slice (some ⟨g, 0, none⟩) S c7], .int .i64 0]) (by simp only [results, Try.results25]; simp [go_sem, g0, g1]) rfl ?_
    refine ⟨_, _, by rw [show L = left by omega], ?_, bel2 B2.out (by omega) _ _⟩
    rw [← HY.out, Int.add_zero]
    exact (SO.out.kept (World.grownBy.trans1 (grownBy_set' (b := w.heap.size + 1) (j := 0) _) (grownBy_set' (b := w.heap.size + 1) (j := 1) _)) (fun k hk => by injection hk with hk; omega)).base (show w.heap.size ≤ W.heap.size by omega)


set_option maxRecDepth 100000 in
set_option maxHeartbeats 4000000 in
theorem rpay_22 (w : World) (left : Int) (S : Nat) (A : Option Addr) (c : Nat) (xs : List Int) (h : Hid (RdI w A S c xs)) (h1 : 1 ≤ S) (h8 : S ≤ 8) (l0 : 0 ≤ left) (l1 : left ≤ 1125899906842624) (hx : Hid (∀ y ∈ xs, 0 ≤ y ∧ y + left ≤ 1125899906842624)) (j : Nat) (s2 : j < S) (ask : Int) (a1 : ¬ left < ask) (a2 : ¬ ask < 0) (L : Int) (hL : L = left - ask) :
    Calls Try.prog 25 #[.agg #[.int .i64 left, .slice A S c], .int .i64 j, .int .i64 ask] w (RPays w L S xs j ask) := by
  have hS0 : 0 < S := by omega
  have hle := h.out.le
  have hmax := h.out.max
  have hlen := h.out.len
  have s1 : ¬ (j : Int) < 0 := by omega
  have s3 : ¬ (S : Int) ≤ (j : Int) := by omega
  obtain ⟨y, hy⟩ : ∃ y, y = xs.getD j 0 := ⟨_, rfl⟩
  have hym : y ∈ xs := by rw [hy, show xs.getD j 0 = xs[j]'(by omega) by simp [show j < xs.length by omega]]; exact List.getElem_mem _
  obtain ⟨y0, y1⟩ := hx.out y hym
  have wr : IntKind.i64.wrap (left - ask) = left - ask := IntWalk.i64_in _ (by omega)
  have wr0 : IntKind.i64.wrap left = left := IntWalk.i64_in _ (by omega)
  have wr1 : IntKind.i64.wrap (y + ask) = y + ask := IntWalk.i64_in _ (by omega)
  have wr2 : IntKind.i64.wrap y = y := IntWalk.i64_in _ (by omega)
  have HY := Lib.hid hy
  clear hy hym
  go_enter Try.func25, Try.ntmps25
  go_upto_region 1 with fail
  generalize hW : World.alloc (World.alloc w (.cells #[.int .i64 left, .slice A S c] 45)) (.cells #[.int .i64 0, .slice none 0 0] 45) = W
  have D : Hid (W.heap[w.heap.size]? = some (.cells #[.int .i64 left, .slice A S c] 45 (0, 0))) := by rw [← hW]; exact keepA2 (Go.heap_alloc_new w _)
  have R : Hid (W.heap[w.heap.size + 1]? = some (.cells #[.int .i64 0, .slice none 0 0] 45 (0, 0))) := by rw [← hW, show w.heap.size + 1 = (World.alloc w (.cells #[.int .i64 left, .slice A S c] 45)).heap.size by simp]; exact Go.heap_alloc_new _ _
  have B : Hid (Below w.heap.size w W) := by rw [← hW]; exact ext_trans (ext_alloc _ _) (ext_alloc _ _)
  clear hW
  obtain ⟨d0, d1, _, _⟩ := full2f D.out
  go_upto_region 7 with fail
  clear d0 d1
  go_cut [8] (fun x wx => RMade (left - ask) S xs W x wx)
  case first =>
    refine wp_region_tr (fin := 99) (fun v => Below W.heap.size W v) (.pure 0 (.pure 1 (.pure 2 (.pure 3 (.pure 5 (.pure 6 (.two 4 (.two 7 (.pure 8 (.eff 9 (.eff 10 .nil))) 9 (.eff 7 (.pure 8 (.eff 10 .nil)))) 9 (.eff 4 (.eff 7 (.pure 8 (.eff 10 .nil))))))))))) (by kernel_rfl) (by kernel_rfl) (by kernel_rfl) (fun _ _ d _ _ h => by cases d <;> exact h) (ext_drew W) ?_
    intro J0 hJ0
    iterate 6 (refine tr_pure (v := ?_) rfl (by rfl) ?_ ?_; rotate_left; (focus (intro v hC; obtain ⟨d0, d1, _, _⟩ := full2f (keepB hC D.out); go_simp; try with_reducible rfl)); try go_simp)
    have Q : Hid (Below W.heap.size W W.drew) := Lib.hid (ext_drew W)
    generalize W.drew = V0 at *
    refine tr_two rfl rfl ?_ ?_
    · intro J hJ
      go_wp2_with fail
      refine ⟨by first | exact ext_trans Q.out (ext_alloc _ _) | exact fun _ => ext_trans Q.out (ext_alloc _ _), ?_⟩
      obtain ⟨v1, hu⟩ : ∃ u, u = World.alloc V0 (.cells #[] 3) := ⟨_, rfl⟩
      rw [← hu]
      have OE : Hid (OwnI v1 3 V0.heap.size (some ⟨V0.heap.size, 0, none⟩) 0 0 []) := by rw [hu]; exact OwnI.empty _ _
      have BE : W.heap.size ≤ V0.heap.size := Q.out.size
      have SE : Hid (V0.heap.size < v1.heap.size) := by rw [hu]; show _ < _; simp
      have Q : Hid (Below W.heap.size W v1) := by rw [hu]; exact ext_trans Q.out (ext_alloc _ _)
      clear hu
      generalize V0.heap.size = e0 at *
      refine tr_two rfl rfl ?_ ?_
      · intro J hJ
        go_wp2_with (refine wpList_pushI_g (o := ⟨some 33, _, _, _, _, _⟩) rfl (.tmp 30) (.tmp 32) 22 22 rfl 3 Try.underlying22 infoI e0 _ _ _ [] (by rfl) OE.out _ S xs (by rfl) ((h.out.ext (B.out.trans (Q.out.mono B.out.size))).src Try.underlying22) (by omega) (Nat.le_of_lt SE.out) ?_; intro A7 c7 v2 ho hb hg; have O7 := Lib.hid ho; have HB := Lib.hid hb; have HG := Lib.hid hg; clear ho hb hg; go_simp)
        rw [List.nil_append, Nat.zero_add] at O7
        have Q : Hid (Below W.heap.size W v2) := Lib.hid (Q.out.trans (HB.out.mono BE))
        refine ⟨by first | exact Q.out | exact fun _ => Q.out, ?_⟩
        try rw [Nat.zero_add]
        refine tr_pure (v := .agg #[.int .i64 (left - ask), .slice A7 S c7]) rfl (by rfl) (fun v hC => ?_) ?_
        · go_simp
        try go_simp
        refine tr_eff rfl ?_
        intro J hJ
        go_wp2_with fail
        refine ⟨by first | exact ext_trans Q.out (ext_alloc _ _) | exact fun _ => ext_trans Q.out (ext_alloc _ _), ?_⟩
        obtain ⟨v3, hu⟩ : ∃ u, u = World.alloc v2 (.cells #[.int .i64 0, .slice none 0 0] 45) := ⟨_, rfl⟩
        rw [← hu]
        obtain ⟨p, hp⟩ : ∃ p, p = (v2).heap.size := ⟨_, rfl⟩
        have hpd : (v2).heap.size = p := hp.symm
        rw [hpd]
        have PA : Hid (v3.heap[p]? = some (.cells #[.int .i64 0, .slice none 0 0] 45 (0, 0))) := by rw [hu, hp]; exact Go.heap_alloc_new _ _
        have PZ : W.heap.size ≤ p := by rw [hp]; exact Q.out.size
        have O7 := Lib.hid (by rw [hu]; exact O7.out.ext (ext_alloc _ _) : OwnI v3 3 e0 A7 S c7 xs)
        have Q : Hid (Below W.heap.size W v3) := by rw [hu]; exact ext_trans Q.out (ext_alloc _ _)
        clear hu hp hpd
        refine tr_eff rfl ?_
        intro J hJ
        obtain ⟨c0, c1, f0, f1⟩ := full2f PA.out
        go_wp2_with fail
        refine ⟨by first | exact bel2 Q.out PZ _ _ | exact fun _ => bel2 Q.out PZ _ _, ?_⟩
        refine tr_nil (hJ0 _ _ ?_)
        go_wp2_with fail
        go_meet
        exact ⟨p, A7, c7, rfl, PZ, set2 PA.out _ _, (O7.out.kept2 PA.out hS0 _ _).base BE, bel2 Q.out PZ _ _⟩
      · intro J hJ
        go_wp2_with fail
        refine ⟨by first | exact ext_trans Q.out (ext_alloc _ _) | exact fun _ => ext_trans Q.out (ext_alloc _ _), ?_⟩
        obtain ⟨v4, hu⟩ : ∃ u, u = World.alloc v1 (.cells #[.int .i64 0, .slice none 0 0] 45) := ⟨_, rfl⟩
        rw [← hu]
        obtain ⟨p, hp⟩ : ∃ p, p = (v1).heap.size := ⟨_, rfl⟩
        have hpd : (v1).heap.size = p := hp.symm
        rw [hpd]
        have PA : Hid (v4.heap[p]? = some (.cells #[.int .i64 0, .slice none 0 0] 45 (0, 0))) := by rw [hu, hp]; exact Go.heap_alloc_new _ _
        have PZ : W.heap.size ≤ p := by rw [hp]; exact Q.out.size
        have OE := Lib.hid (by rw [hu]; exact OE.out.ext (ext_alloc _ _) : OwnI v4 3 e0 (some ⟨e0, 0, none⟩) 0 0 [])
        have SE0 := SE.out
        have PE : p ≠ e0 := by omega
        have SE : Hid (e0 < v4.heap.size) := by rw [hu]; exact Nat.lt_of_lt_of_le SE0 (ext_alloc _ _).size
        have Q : Hid (Below W.heap.size W v4) := by rw [hu]; exact ext_trans Q.out (ext_alloc _ _)
        clear hu hp hpd
        refine tr_eff rfl ?_
        intro J hJ
        go_wp2_with (refine wpList_pushI_g (o := ⟨some 33, _, _, _, _, _⟩) rfl (.tmp 30) (.tmp 32) 22 22 rfl 3 Try.underlying22 infoI e0 _ _ _ [] (by rfl) OE.out _ S xs (by rfl) ((h.out.ext (B.out.trans (Q.out.mono B.out.size))).src Try.underlying22) (by omega) (Nat.le_of_lt SE.out) ?_; intro A7 c7 v5 ho hb hg; have O7 := Lib.hid ho; have HB := Lib.hid hb; have HG := Lib.hid hg; clear ho hb hg; go_simp)
        rw [List.nil_append, Nat.zero_add] at O7
        have Q : Hid (Below W.heap.size W v5) := Lib.hid (Q.out.trans (HB.out.mono BE))
        refine ⟨by first | exact Q.out | exact fun _ => Q.out, ?_⟩
        try rw [Nat.zero_add]
        have PA := Lib.hid ((HG.out.block p (Array.getElem?_eq_some_iff.1 PA.out).1 (fun e => PE (Option.some.inj e))).trans PA.out)
        refine tr_pure (v := .agg #[.int .i64 (left - ask), .slice A7 S c7]) rfl (by rfl) (fun v hC => ?_) ?_
        · go_simp
        try go_simp
        refine tr_eff rfl ?_
        intro J hJ
        obtain ⟨c0, c1, f0, f1⟩ := full2f PA.out
        go_wp2_with fail
        refine ⟨by first | exact bel2 Q.out PZ _ _ | exact fun _ => bel2 Q.out PZ _ _, ?_⟩
        refine tr_nil (hJ0 _ _ ?_)
        go_wp2_with fail
        go_meet
        exact ⟨p, A7, c7, rfl, PZ, set2 PA.out _ _, (O7.out.kept2 PA.out hS0 _ _).base BE, bel2 Q.out PZ _ _⟩
    · intro J hJ
      go_wp2_with fail
      refine ⟨by first | exact ext_trans Q.out (ext_alloc _ _) | exact fun _ => ext_trans Q.out (ext_alloc _ _), ?_⟩
      obtain ⟨v6, hu⟩ : ∃ u, u = World.alloc V0 (.cells #[.int .i64 0, .slice none 0 0] 45) := ⟨_, rfl⟩
      rw [← hu]
      obtain ⟨p, hp⟩ : ∃ p, p = (V0).heap.size := ⟨_, rfl⟩
      have hpd : (V0).heap.size = p := hp.symm
      rw [hpd]
      have PA : Hid (v6.heap[p]? = some (.cells #[.int .i64 0, .slice none 0 0] 45 (0, 0))) := by rw [hu, hp]; exact Go.heap_alloc_new _ _
      have PZ : W.heap.size ≤ p := by rw [hp]; exact Q.out.size
      have Q : Hid (Below W.heap.size W v6) := by rw [hu]; exact ext_trans Q.out (ext_alloc _ _)
      clear hu hp hpd
      refine tr_eff rfl ?_
      intro J hJ
      go_wp2_with fail
      refine ⟨by first | exact ext_trans Q.out (ext_alloc _ _) | exact fun _ => ext_trans Q.out (ext_alloc _ _), ?_⟩
      obtain ⟨v7, hu⟩ : ∃ u, u = World.alloc v6 (.cells #[] 3) := ⟨_, rfl⟩
      rw [← hu]
      have OE : Hid (OwnI v7 3 v6.heap.size (some ⟨v6.heap.size, 0, none⟩) 0 0 []) := by rw [hu]; exact OwnI.empty _ _
      have BE : W.heap.size ≤ v6.heap.size := Q.out.size
      have SE : Hid (v6.heap.size < v7.heap.size) := by rw [hu]; show _ < _; simp
      have PE : p ≠ v6.heap.size := by have := (Array.getElem?_eq_some_iff.1 PA.out).1; omega
      have PA := Lib.hid (by rw [hu]; exact keepA2 PA.out : v7.heap[p]? = some (.cells #[.int .i64 0, .slice none 0 0] 45 (0, 0)))
      have Q : Hid (Below W.heap.size W v7) := by rw [hu]; exact ext_trans Q.out (ext_alloc _ _)
      clear hu
      generalize v6.heap.size = e0 at *
      refine tr_eff rfl ?_
      intro J hJ
      go_wp2_with (refine wpList_pushI_g (o := ⟨some 33, _, _, _, _, _⟩) rfl (.tmp 30) (.tmp 32) 22 22 rfl 3 Try.underlying22 infoI e0 _ _ _ [] (by rfl) OE.out _ S xs (by rfl) ((h.out.ext (B.out.trans (Q.out.mono B.out.size))).src Try.underlying22) (by omega) (Nat.le_of_lt SE.out) ?_; intro A7 c7 v8 ho hb hg; have O7 := Lib.hid ho; have HB := Lib.hid hb; have HG := Lib.hid hg; clear ho hb hg; go_simp)
      rw [List.nil_append, Nat.zero_add] at O7
      have Q : Hid (Below W.heap.size W v8) := Lib.hid (Q.out.trans (HB.out.mono BE))
      refine ⟨by first | exact Q.out | exact fun _ => Q.out, ?_⟩
      try rw [Nat.zero_add]
      have PA := Lib.hid ((HG.out.block p (Array.getElem?_eq_some_iff.1 PA.out).1 (fun e => PE (Option.some.inj e))).trans PA.out)
      refine tr_pure (v := .agg #[.int .i64 (left - ask), .slice A7 S c7]) rfl (by rfl) (fun v hC => ?_) ?_
      · go_simp
      try go_simp
      refine tr_eff rfl ?_
      intro J hJ
      obtain ⟨c0, c1, f0, f1⟩ := full2f PA.out
      go_wp2_with fail
      refine ⟨by first | exact bel2 Q.out PZ _ _ | exact fun _ => bel2 Q.out PZ _ _, ?_⟩
      refine tr_nil (hJ0 _ _ ?_)
      go_wp2_with fail
      go_meet
      exact ⟨p, A7, c7, rfl, PZ, set2 PA.out _ _, (O7.out.kept2 PA.out hS0 _ _).base BE, bel2 Q.out PZ _ _⟩
  case rest =>
    obtain ⟨p, A7, c7, rfl, zp, hp, ho, hbw⟩ := hcut
    rename World => V
    obtain ⟨g, rfl, zg, _⟩ := ho.blockless hS0
    have gp := own_other ho hS0 hp
    have P := Lib.hid hp
    have O := Lib.hid ho
    have wz : w.heap.size + 1 < W.heap.size := (Array.getElem?_eq_some_iff.1 R.out).1
    replace R := Lib.hid (keepB hbw R.out)
    replace B := Lib.hid (ext_trans B.out hbw)
    have zO := O.out.row_ge g rfl
    have cg := O.out.get (j := j) s2
    rw [← HY.out] at cg
    have fg := O.out.row.frozenAt j
    have ST := Lib.hid (O.out.set j (y + ask))
    have P2 : Hid ((V.setCell ⟨g, j, none⟩ (.int .i64 (y + ask))).drew.heap[p]? = some (.cells #[.int .i64 (left - ask), .slice (some ⟨g, 0, none⟩) S c7] 45 (0, 0))) := (Below.heap_setCell _ _ _ _ (fun e => gp e.symm)).trans P.out
    have R2 : Hid ((V.setCell ⟨g, j, none⟩ (.int .i64 (y + ask))).drew.heap[w.heap.size + 1]? = some (.cells #[.int .i64 0, .slice none 0 0] 45 (0, 0))) := (Below.heap_setCell _ _ _ _ (show w.heap.size + 1 ≠ g by omega)).trans R.out
    have B2 : Hid (Below w.heap.size w (V.setCell ⟨g, j, none⟩ (.int .i64 (y + ask))).drew) := Lib.hid (ext_trans (B.out.grown ST.out.2 B.out.size (fun k hk => by injection hk with hk; omega)) (ext_drew _))
    have zy : w.heap.size + 1 < V.heap.size := by omega
    have SO := Lib.hid (ST.out.1.ext (ext_drew _))
    clear hp ho hbw D h hx
    go_upto_region 8 with fail
    refine wp_region_schedF (fin := 11) (fun v => Below V.heap.size V v) [(true, 0), (true, 1), (true, 2), (true, 3), (true, 4), (true, 5), (true, 6), (true, 7), (true, 8), (true, 9), (true, 10), (false, 11)] (by kernel_rfl) rfl (by kernel_rfl) (by kernel_rfl) (by kernel_rfl) (fun _ _ d _ _ h => by cases d <;> exact h) (ext_drew V) ?_
    intro J0 hJ0
    iterate 11 (refine schedF_pure (v := ?_) rfl (by rfl) ?_ ?_; rotate_left; (focus (intro v hC; obtain ⟨d0, d1, _, _⟩ := full2f (keepB hC P.out); have dg := (hC.cell (p := ⟨g, j, none⟩) zO.2).trans cg; go_simp; try with_reducible rfl)); try go_simp)
    refine schedF_eff rfl ?_
    intro J hJ
    have cg2 := (Below.cell (p := ⟨g, j, none⟩) (ext_drew V) zO.2).trans cg
    have fg2 : V.drew.frozen? ⟨g, j, none⟩ = false := fg
    go_wp2_with fail
    first | refine hJ0 _ _ ?_ | (refine ⟨by first | exact fun h => absurd rfl h | trivial, ?_⟩; refine schedF_nil (hJ0 _ _ ?_))
    clear hJ0 cg fg cg2 fg2 ST
    generalize (V.setCell ⟨g, j, none⟩ (.int .i64 (y + ask))).drew = V2 at *
    obtain ⟨d0, d1, _, _⟩ := full2f P2.out
    obtain ⟨r0, r1, r2, r3⟩ := full2f R2.out
    go_wp2_with fail
    have SS := set2 R2.out (.int .i64 (left - ask)) (.slice (some ⟨g, 0, none⟩) S c7)
    obtain ⟨g0, g1, _, _⟩ := full2f SS
    refine bodyPost_ret (v := .tuple #[.agg #[.int .i64 (left - ask), .slice (some ⟨g, 0, none⟩) S c7], .int .i64 ask]) (by simp only [results, Try.results25]; simp [go_sem, g0, g1]) rfl ?_
    refine ⟨_, _, by rw [show L = (left - ask) by omega], ?_, bel2 B2.out (by omega) _ _⟩
    rw [← HY.out]
    exact (SO.out.kept (World.grownBy.trans1 (grownBy_set' (b := w.heap.size + 1) (j := 0) _) (grownBy_set' (b := w.heap.size + 1) (j := 1) _)) (fun k hk => by injection hk with hk; omega)).base (show w.heap.size ≤ W.heap.size by omega)


theorem rpay_c (w : World) (left : Int) (S : Nat) (A : Option Addr) (c : Nat) (xs : List Int) (h : Hid (RdI w A S c xs)) (h1 : 1 ≤ S) (h8 : S ≤ 8) (l0 : 0 ≤ left) (l1 : left ≤ 1125899906842624) (hx : Hid (∀ y ∈ xs, 0 ≤ y ∧ y + left ≤ 1125899906842624)) (sv ask : Int) :
    Calls Try.prog 25 #[.agg #[.int .i64 left, .slice A S c], .int .i64 sv, .int .i64 ask] w (RPays w (left - min (max ask 0) left) S xs (seatAt sv S) (min (max ask 0) left)) := by
  by_cases s1 : sv < 0
  · rw [show seatAt sv S = 0 from if_neg (by omega)]
    by_cases a1 : left < ask
    · rw [show min (max ask 0) left = left by omega]
      exact rpay_00 w left S A c xs h h1 h8 l0 l1 hx sv s1 ask a1 _ rfl
    by_cases a2 : ask < 0
    · rw [show min (max ask 0) left = 0 by omega]
      exact rpay_01 w left S A c xs h h1 h8 l0 l1 hx sv s1 ask a1 a2 _ rfl
    · rw [show min (max ask 0) left = ask by omega]
      exact rpay_02 w left S A c xs h h1 h8 l0 l1 hx sv s1 ask a1 a2 _ rfl
  by_cases s2 : (S : Int) ≤ sv
  · rw [show seatAt sv S = 0 from if_neg (by omega)]
    by_cases a1 : left < ask
    · rw [show min (max ask 0) left = left by omega]
      exact rpay_10 w left S A c xs h h1 h8 l0 l1 hx sv s1 s2 ask a1 _ rfl
    by_cases a2 : ask < 0
    · rw [show min (max ask 0) left = 0 by omega]
      exact rpay_11 w left S A c xs h h1 h8 l0 l1 hx sv s1 s2 ask a1 a2 _ rfl
    · rw [show min (max ask 0) left = ask by omega]
      exact rpay_12 w left S A c xs h h1 h8 l0 l1 hx sv s1 s2 ask a1 a2 _ rfl
  · obtain ⟨j, rfl⟩ : ∃ j : Nat, sv = j := ⟨sv.toNat, by omega⟩
    rw [show seatAt (j : Int) S = j by unfold seatAt; rw [if_pos (by omega)]; omega]
    by_cases a1 : left < ask
    · rw [show min (max ask 0) left = left by omega]
      exact rpay_20 w left S A c xs h h1 h8 l0 l1 hx j (by omega) ask a1 _ rfl
    by_cases a2 : ask < 0
    · rw [show min (max ask 0) left = 0 by omega]
      exact rpay_21 w left S A c xs h h1 h8 l0 l1 hx j (by omega) ask a1 a2 _ rfl
    · rw [show min (max ask 0) left = ask by omega]
      exact rpay_22 w left S A c xs h h1 h8 l0 l1 hx j (by omega) ask a1 a2 _ rfl
#print axioms rpay_c
end Go.Proofs.Ythdnfnilckjldaa
