/-
  hash: a state's digest; One and Two, and the document's: contracts.
-/
import Derived.Test.YtbejjmmopdcjoaaDoorHTake
namespace Go.Proofs.YtbejjmmopdcjoaaDoor
open Go.RowKit

set_option maxRecDepth 100000 in
set_option maxHeartbeats 400000 in
theorem digest_c (w : World) (b : Nat) (s : St) (h : Hid (StAt w 95 b s)) : Calls Tryd.prog 60 #[.pointer (some ⟨b, 0, none⟩)] w (Hands (digV (outN s)) w) := by
  have hb := h.out.blk
  have c0 : w.cell? ⟨b, 0, none⟩ = some (.int .u64 s.a) := by rw [cell_of_row w b 0 _ _ _ hb]; rfl
  have c2 : w.cell? ⟨b, 2, none⟩ = some (.int .u64 s.c) := by rw [cell_of_row w b 2 _ _ _ hb]; rfl
  have hlt : b < w.heap.size := (Array.getElem?_eq_some_iff.1 hb).1
  have C0 : Hid (∀ v, Below w.heap.size w v → v.cell? ⟨b, 0, none⟩ = some (.int .u64 s.a)) := fun v hv => (hv.cell (p := ⟨b, 0, none⟩) hlt).trans c0
  have C2 : Hid (∀ v, Below w.heap.size w v → v.cell? ⟨b, 2, none⟩ = some (.int .u64 s.c)) := fun v hv => (hv.cell (p := ⟨b, 2, none⟩) hlt).trans c2
  have L1 := h.out.ok.a
  have L2 := h.out.ok.c
  obtain ⟨x, hx⟩ : ∃ x : Nat, x = outN s := ⟨_, rfl⟩
  have E : bits BinOp.xor IntKind.u64 (s.a : Int) (s.c : Int) = (x : Int) := by rw [hx]; exact bits_xor_u64_nat _ _ L1 L2
  have LX : x < 18446744073709551616 := by rw [hx]; exact outN_lt h.out.ok
  rw [← hx]
  clear hx hb c0 c2
  go_enter Tryd.func60, Tryd.ntmps60
  go_wp2_with fail
  refine wp_region_schedC (fun v => Below w.heap.size w v) [(true, 0), (true, 1), (true, 2), (true, 3), (true, 4), (true, 5), (true, 6), (true, 7), (true, 8), (false, 9), (false, 10)] (by kernel_rfl) rfl (by kernel_rfl) (by kernel_rfl) (fun _ _ d _ _ h => by cases d <;> exact h) (ext_trans (ext_alloc _ _) (ext_drew _)) ?_
  intro J0 hJ0
  iterate 9 (refine schedC_pure (v := ?_) rfl (by rfl) ?_ ?_; rotate_left; (focus (intro v hC; have d0 := C0.out v hC; have d2 := C2.out v hC; go_simp; try with_reducible rfl)); try go_simp)
  refine schedC_eff rfl ?_
  intro J hJ
  go_wp2_with fail
  refine (fromNum_c _ x LX).mono ?_
  unfold digV
  rintro e w2 ⟨rfl, hb⟩
  have hr := (hb.block w.heap.size (by simp)).trans (heap_alloc_newest (w := w) rfl)
  obtain ⟨c0, c1, c2, c3, c4, c5, c6, c7, f0, f1, f2, f3, f4, f5, f6, f7⟩ := full8 hr
  have HR := Lib.hid hr
  have HB : Hid (Below w.heap.size w w2) := Lib.hid (ext_trans (ext_trans (ext_alloc _ _) (ext_drew _)) hb)
  clear hb hr
  go_wp2_with fail
  refine ⟨HB.out, ?_⟩
  refine schedC_eff rfl ?_
  intro J hJ
  go_wp2_with fail
  refine ⟨bel8 HB.out (Nat.le_refl _) (Nat.le_refl _) _ _ _ _ _ _ _ _, ?_⟩
  refine schedC_nil (hJ0 _ _ ?_)
  go_wp2_with fail
  obtain ⟨g0, g1, g2, g3, g4, g5, g6, g7⟩ := put8 HR.out (.int .u8 (byt x 0)) (.int .u8 (byt x 1)) (.int .u8 (byt x 2)) (.int .u8 (byt x 3)) (.int .u8 (byt x 4)) (.int .u8 (byt x 5)) (.int .u8 (byt x 6)) (.int .u8 (byt x 7))
  refine bodyPost_ret (v := digV x) (by unfold digV; simp only [results, Tryd.results60]; simp [go_sem, g0, g1, g2, g3, g4, g5, g6, g7]) rfl ⟨rfl, bel8 HB.out (Nat.le_refl _) (Nat.le_refl _) _ _ _ _ _ _ _ _⟩

theorem keepB {w w' : World} {b : Nat} {o : Obj} (hb : Below w.heap.size w w') (h : w.heap[b]? = some o) : w'.heap[b]? = some o := (hb.block b (Array.getElem?_eq_some_iff.1 h).1).trans h
theorem keepA {w : World} {b : Nat} {o x : Obj} (h : w.heap[b]? = some o) : (w.alloc x).heap[b]? = some o := heap_alloc_old (Array.getElem?_eq_some_iff.1 h).1 h
theorem keepG {w w' : World} {b g : Nat} {o : Obj} (hg : w.grownBy w' (some g)) (hne : b ≠ g) (h : w.heap[b]? = some o) : w'.heap[b]? = some o := (hg.block b (Array.getElem?_eq_some_iff.1 h).1 (fun e => hne (by injection e))).trans h
theorem StAt.keep {w w' : World} {T : TypeId} {b : Nat} {s : St} (h : StAt w T b s) (hb : Below w.heap.size w w') : StAt w' T b s := ⟨keepB hb h.blk, h.ok⟩
theorem StAt.made {w : World} {T : TypeId} {s : St} (ok : s.Ok) : StAt (w.alloc (.cells #[.int .u64 s.a, .int .u64 s.b, .int .u64 s.c, .int .u64 s.d] T)) T w.heap.size s := ⟨Go.heap_alloc_new w _, ok⟩
theorem StAt.lt {w : World} {T : TypeId} {b : Nat} {s : St} (h : StAt w T b s) : b < w.heap.size := (Array.getElem?_eq_some_iff.1 h.blk).1

def oneN (n : Nat) : Nat := outN (takeN (begin 2) n)
theorem oneN_lt {n : Nat} (h : n < 18446744073709551616) : oneN n < 18446744073709551616 := outN_lt (takeN_ok (begin_ok (by omega)) h)
def twoN (n m : Nat) : Nat := outN (takeN (takeN (begin 3) n) m)
theorem twoN_lt {n m : Nat} (h : n < 18446744073709551616) (h2 : m < 18446744073709551616) : twoN n m < 18446744073709551616 := outN_lt (takeN_ok (takeN_ok (begin_ok (by omega)) h) h2)
set_option maxRecDepth 100000 in
set_option maxHeartbeats 1000000 in
theorem two_c (w : World) (n m : Nat) (hn : n < 18446744073709551616) (hm : m < 18446744073709551616) : Calls Tryd.prog 45 #[digV n, digV m] w (Hands (digV (twoN n m)) w) := by
  have OKB := Lib.hid (begin_ok (k := 3) (by omega))
  obtain ⟨x, hx⟩ : ∃ x, x = twoN n m := ⟨_, rfl⟩
  rw [← hx]
  have HX := Lib.hid hx
  clear hx
  unfold digV
  go_enter Tryd.func45, Tryd.ntmps45
  go_wp2_with fail
  refine (start_c _ 3 3 rfl).mono ?_
  unfold stV
  rintro e w1 ⟨rfl, hb⟩
  have D0 := Lib.hid (keepB (b := w.heap.size) hb (keepA (keepA (heap_alloc_newest (w := w) (by simp)))))
  have D1 := Lib.hid (keepB (b := (w.heap.size + 1)) hb (keepA (heap_alloc_newest (w := World.alloc _ _) (by simp))))
  have R := Lib.hid (keepB (b := w.heap.size + 2) hb (heap_alloc_newest (w := World.alloc _ _) (by simp)))
  have B := Lib.hid (ext_trans (ext_trans (ext_trans (ext_alloc _ _) (ext_alloc _ _)) (ext_alloc _ _)) hb)
  have z1 : w.heap.size + 2 < w1.heap.size := by have := hb.size; simp at this; omega
  have y0 : w.heap.size < w1.heap.size := by omega
  have y1 : w.heap.size + 1 < w1.heap.size := by omega
  clear hb
  obtain ⟨d0, d1, d2, d3, d4, d5, d6, d7, _, _, _, _, _, _, _, _⟩ := full8 D0.out
  go_wp2_with fail
  have S : Hid (StAt (w1.alloc (.cells #[.int .u64 (begin 3).a, .int .u64 (begin 3).b, .int .u64 (begin 3).c, .int .u64 (begin 3).d] 95)) 95 w1.heap.size (begin 3)) := StAt.made OKB.out
  refine (num_c _ n hn).mono ?_
  rintro e w2 ⟨rfl, hb⟩
  replace D0 := Lib.hid (keepB hb (keepA D0.out))
  replace D1 := Lib.hid (keepB hb (keepA D1.out))
  replace R := Lib.hid (keepB hb (keepA R.out))
  replace S := Lib.hid (S.out.keep hb)
  replace B := Lib.hid (ext_trans (ext_trans B.out (ext_alloc _ _)) hb)
  clear hb d0 d1 d2 d3 d4 d5 d6 d7
  go_wp2_with fail
  refine (take_c _ _ _ n hn S).mono ?_
  rintro e w3 ⟨rfl, hs, hg⟩
  replace D0 := Lib.hid (keepG hg (by omega) D0.out)
  replace D1 := Lib.hid (keepG hg (by omega) D1.out)
  replace R := Lib.hid (keepG hg (by omega) R.out)
  replace B := Lib.hid (below_grown B.out B.out.size hg (fun k hk => by injection hk with hk; omega))
  have S' := Lib.hid hs
  clear S
  have S := S'
  clear hs hg S'
  obtain ⟨d0, d1, d2, d3, d4, d5, d6, d7, _, _, _, _, _, _, _, _⟩ := full8 D1.out
  go_wp2_with fail
  refine (num_c _ m hm).mono ?_
  rintro e w4 ⟨rfl, hb⟩
  replace D1 := Lib.hid (keepB hb D1.out)
  replace R := Lib.hid (keepB hb R.out)
  replace S := Lib.hid (S.out.keep hb)
  replace B := Lib.hid (ext_trans B.out hb)
  clear hb d0 d1 d2 d3 d4 d5 d6 d7
  go_wp2_with fail
  refine (take_c _ _ _ m hm S).mono ?_
  rintro e w5 ⟨rfl, hs, hg⟩
  replace D1 := Lib.hid (keepG hg (by omega) D1.out)
  replace R := Lib.hid (keepG hg (by omega) R.out)
  replace B := Lib.hid (below_grown B.out B.out.size hg (fun k hk => by injection hk with hk; omega))
  have S' := Lib.hid hs
  clear S
  have S := S'
  clear hs hg S'
  go_wp2_with fail
  refine (digest_c _ _ _ S).mono ?_
  rw [show outN _ = x from HX.out.symm]
  unfold digV
  rintro e w6 ⟨rfl, hb⟩
  replace R := Lib.hid (keepB hb R.out)
  replace B := Lib.hid (ext_trans B.out hb)
  obtain ⟨c0, c1, c2, c3, c4, c5, c6, c7, f0, f1, f2, f3, f4, f5, f6, f7⟩ := full8 R.out
  clear hb
  go_wp2_with fail
  obtain ⟨g0, g1, g2, g3, g4, g5, g6, g7⟩ := put8 R.out (.int .u8 (byt x 0)) (.int .u8 (byt x 1)) (.int .u8 (byt x 2)) (.int .u8 (byt x 3)) (.int .u8 (byt x 4)) (.int .u8 (byt x 5)) (.int .u8 (byt x 6)) (.int .u8 (byt x 7))
  refine bodyPost_ret (v := digV x) (by unfold digV; simp only [results, Tryd.results45]; simp [go_sem, g0, g1, g2, g3, g4, g5, g6, g7]) rfl ⟨by unfold digV; rfl, bel8 B.out (Nat.le_refl _) (by omega) _ _ _ _ _ _ _ _⟩

#print axioms two_c
end Go.Proofs.YtbejjmmopdcjoaaDoor
