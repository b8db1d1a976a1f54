/-
  hash: stir, and the document's: contracts.
-/
import Derived.Test.YtbejjmmopdcjoaaDoorHPure
import Derived.BigQuiet
namespace Go.Proofs.YtbejjmmopdcjoaaDoor
open Go.RowKit

/-- a state in memory -/
structure StAt (w : World) (T : TypeId) (b : Nat) (s : St) : Prop where
  blk : w.heap[b]? = some (.cells #[.int .u64 s.a, .int .u64 s.b, .int .u64 s.c, .int .u64 s.d] T (0, 0))
  ok : s.Ok
/-- a state as a value -/
def stV (s : St) : Value := .agg #[.int .u64 s.a, .int .u64 s.b, .int .u64 s.c, .int .u64 s.d]

theorem setCell_grown {w : World} {b j : Nat} (u : Value) : w.grownBy (w.setCell ⟨b, j, none⟩ u) (some b) :=
  ⟨rfl, rfl, rfl, by simp [World.setCell], fun k _ hk => Below.heap_setCell _ _ _ _ (fun e => hk (by rw [e]))⟩
theorem grown_then {a b c : World} {row : Option Nat} (h : a.grownBy b row) (k : b.grownBy c row) : a.grownBy c row :=
  ⟨k.os.trans h.os, k.tape.trans h.tape, k.output.trans h.output, Nat.le_trans h.size k.size, fun i hi hk => (k.block i (Nat.lt_of_lt_of_le hi h.size) hk).trans (h.block i hi hk)⟩
theorem draws_grown (w : World) (q : Nat) {row : Option Nat} : w.grownBy (w.drewN q) row := ⟨rfl, rfl, rfl, Nat.le_refl _, fun _ _ _ => rfl⟩
theorem below_set {B : Nat} {w0 w : World} {b j : Nat} {u : Value} (h : Below B w0 w) (hB : B ≤ w0.heap.size) (hb : B ≤ b) : Below B w0 (w.setCell ⟨b, j, none⟩ u) :=
  h.grown (setCell_grown u) (Nat.le_trans hB h.size) (fun k hk => by injection hk with hk; rw [← hk]; exact hb)
theorem heap_set_same {w : World} {b j : Nat} {T : TypeId} {cur : Array Value} (u : Value) (h : w.heap[b]? = some (.cells cur T (0, 0))) : (w.setCell ⟨b, j, none⟩ u).heap[b]? = some (.cells (cur.setIfInBounds j u) T (0, 0)) := heap_setCell_same _ b j _ _ _ h
theorem heap_set_other {w : World} {b c j : Nat} {o : Option Obj} (u : Value) (hne : c ≠ b) (h : w.heap[c]? = o) : (w.setCell ⟨b, j, none⟩ u).heap[c]? = o := (Below.heap_setCell _ _ _ _ hne).trans h
theorem heap_alloc_old {w : World} {c : Nat} {x : Obj} {o : Option Obj} (hc : c < w.heap.size) (h : w.heap[c]? = o) : (w.alloc x).heap[c]? = o := (Below.heap_alloc w x c hc).trans h
theorem heap_alloc_newest {w : World} {c : Nat} {x : Obj} (hc : c = w.heap.size) : (w.alloc x).heap[c]? = some x := by subst hc; exact Go.heap_alloc_new w x
theorem cells4 {w : World} {b : Nat} {T : TypeId} {x0 x1 x2 x3 : Value} {cur : Array Value} (h : w.heap[b]? = some (.cells cur T (0, 0))) (e : cur = #[x0, x1, x2, x3]) :
    w.cell? ⟨b, 0, none⟩ = some x0 ∧ w.cell? ⟨b, 1, none⟩ = some x1 ∧ w.cell? ⟨b, 2, none⟩ = some x2 ∧ w.cell? ⟨b, 3, none⟩ = some x3 := by
  subst e
  exact ⟨by rw [cell_of_row w _ 0 _ _ _ h]; rfl, by rw [cell_of_row w _ 1 _ _ _ h]; rfl, by rw [cell_of_row w _ 2 _ _ _ h]; rfl, by rw [cell_of_row w _ 3 _ _ _ h]; rfl⟩
theorem St4.put {w : World} {T : TypeId} {b : Nat} {x0 x1 x2 x3 : Value} (h : w.heap[b]? = some (.cells #[x0, x1, x2, x3] T (0, 0))) (s : St) (ok : s.Ok) :
    StAt ((((w.setCell ⟨b, 0, none⟩ (.int .u64 s.a)).setCell ⟨b, 1, none⟩ (.int .u64 s.b)).setCell ⟨b, 2, none⟩ (.int .u64 s.c)).setCell ⟨b, 3, none⟩ (.int .u64 s.d)) T b s ∧
      w.grownBy ((((w.setCell ⟨b, 0, none⟩ (.int .u64 s.a)).setCell ⟨b, 1, none⟩ (.int .u64 s.b)).setCell ⟨b, 2, none⟩ (.int .u64 s.c)).setCell ⟨b, 3, none⟩ (.int .u64 s.d)) (some b) :=
  ⟨⟨heap_setCell_same _ b 3 _ _ _ (heap_setCell_same _ b 2 _ _ _ (heap_setCell_same _ b 1 _ _ _ (heap_setCell_same _ b 0 _ _ _ h))), ok⟩,
   grown_then (setCell_grown _) (grown_then (setCell_grown _) (grown_then (setCell_grown _) (setCell_grown _)))⟩

set_option maxRecDepth 100000 in
set_option maxHeartbeats 1000000 in
theorem stir_c (w : World) (b : Nat) (s : St) (h : Hid (StAt w 95 b s)) : Calls Tryd.prog 66 #[.pointer (some ⟨b, 0, none⟩)] w (fun e w' => e = .returned (.tuple #[]) ∧ StAt w' 95 b (stir s) ∧ w.grownBy w' (some b)) := by
  have hb := h.out.blk
  have c0 : w.cell? ⟨b, 0, none⟩ = some (.int .u64 s.a) := by rw [cell_of_row w b 0 _ _ _ hb]; rfl
  have c1 : w.cell? ⟨b, 1, none⟩ = some (.int .u64 s.b) := by rw [cell_of_row w b 1 _ _ _ hb]; rfl
  have c2 : w.cell? ⟨b, 2, none⟩ = some (.int .u64 s.c) := by rw [cell_of_row w b 2 _ _ _ hb]; rfl
  have c3 : w.cell? ⟨b, 3, none⟩ = some (.int .u64 s.d) := by rw [cell_of_row w b 3 _ _ _ hb]; rfl
  have fr : ∀ j, w.frozen? ⟨b, j, none⟩ = false := fun j => by simp [World.frozen?, hb]
  have FR := Lib.hid fr
  clear fr
  have HB := Lib.hid hb
  clear hb
  go_enter Tryd.func66, Tryd.ntmps66
  go_wp2_with fail
  go_quiet (fail)
  go_wp2_with fail
  go_loopw [2, 3, 4, 5, 23] (fun v0 v1 v2 v3 iv wr => ∃ (k q : Nat) (z : St), k ≤ 6 ∧ iv = .int .i64 k ∧ v0 = .int .u64 z.a ∧ v1 = .int .u64 z.b ∧ v2 = .int .u64 z.c ∧ v3 = .int .u64 z.d ∧ z.Ok ∧ Hid (z = rnds k s) ∧ wr = w.drewN q) (fun _ _ _ _ iv _ => 6 - (intOf iv).toNat)
  case atStart => exact ⟨0, _, s, Nat.zero_le _, rfl, rfl, rfl, rfl, rfl, h.out.ok, rfl, rfl⟩
  case round =>
    obtain ⟨k, q, ⟨a, b', c, d⟩, hk, rfl, rfl, rfl, rfl, rfl, ok, hz, rfl⟩ := hrel
    by_cases hlt : k < 6
    · have La : a < 18446744073709551616 := ok.a
      have Lb' : b' < 18446744073709551616 := ok.b
      have Lc : c < 18446744073709551616 := ok.c
      have Ld : d < 18446744073709551616 := ok.d
      obtain ⟨s1, hs1⟩ : ∃ t : Nat, t = add64 a b' := ⟨_, rfl⟩
      have Es1 : IntKind.u64.wrap ((a : Int) + (b' : Int)) = (s1 : Int) := by rw [hs1]; exact add64_wrap _ _
      have Ls1 : s1 < 18446744073709551616 := by rw [hs1]; exact add64_lt _ _
      have Hs1 := Lib.hid hs1
      clear hs1
      obtain ⟨a1, ha1⟩ : ∃ t : Nat, t = s1 ^^^ (k + 1) := ⟨_, rfl⟩
      have Ea1 : bits BinOp.xor IntKind.u64 (s1 : Int) ((k : Int) + 1) = (a1 : Int) := by
        rw [ha1]
        have e := bits_xor_u64_nat s1 (k + 1) (by omega) (by omega)
        push_cast at e
        exact e
      have La1 : a1 < 18446744073709551616 := by rw [ha1]; exact xor64_lt (by omega) (by omega)
      have Ha1 := Lib.hid ha1
      clear ha1
      obtain ⟨x1, hx1⟩ : ∃ t : Nat, t = d ^^^ a1 := ⟨_, rfl⟩
      have Ex1 : bits BinOp.xor IntKind.u64 (d : Int) (a1 : Int) = (x1 : Int) := by
        rw [hx1]
        have e := bits_xor_u64_nat d a1 (by omega) (by omega)
        exact e
      have Lx1 : x1 < 18446744073709551616 := by rw [hx1]; exact xor64_lt (by omega) (by omega)
      have Hx1 := Lib.hid hx1
      clear hx1
      obtain ⟨d1, hd1⟩ : ∃ t : Nat, t = rotl 4294967296 4294967296 x1 := ⟨_, rfl⟩
      have Ld1 : d1 < 18446744073709551616 := by rw [hd1]; exact rotl_lt (by omega)
      have Hd1 := Lib.hid hd1
      clear hd1
      go_wp2_with fail
      refine (rot32 _ x1 Lx1).mono ?_
      unfold Turns
      rw [← Hd1.out]
      rintro e v ⟨rfl, rfl⟩
      obtain ⟨c1, hc1⟩ : ∃ t : Nat, t = add64 c d1 := ⟨_, rfl⟩
      have Ec1 : IntKind.u64.wrap ((c : Int) + (d1 : Int)) = (c1 : Int) := by rw [hc1]; exact add64_wrap _ _
      have Lc1 : c1 < 18446744073709551616 := by rw [hc1]; exact add64_lt _ _
      have Hc1 := Lib.hid hc1
      clear hc1
      obtain ⟨x2, hx2⟩ : ∃ t : Nat, t = b' ^^^ c1 := ⟨_, rfl⟩
      have Ex2 : bits BinOp.xor IntKind.u64 (b' : Int) (c1 : Int) = (x2 : Int) := by
        rw [hx2]
        have e := bits_xor_u64_nat b' c1 (by omega) (by omega)
        exact e
      have Lx2 : x2 < 18446744073709551616 := by rw [hx2]; exact xor64_lt (by omega) (by omega)
      have Hx2 := Lib.hid hx2
      clear hx2
      obtain ⟨b1, hb1⟩ : ∃ t : Nat, t = rotl 16777216 1099511627776 x2 := ⟨_, rfl⟩
      have Lb1 : b1 < 18446744073709551616 := by rw [hb1]; exact rotl_lt (by omega)
      have Hb1 := Lib.hid hb1
      clear hb1
      go_wp2_with fail
      refine (rot24 _ x2 Lx2).mono ?_
      unfold Turns
      rw [← Hb1.out]
      rintro e v ⟨rfl, rfl⟩
      obtain ⟨a2, ha2⟩ : ∃ t : Nat, t = add64 a1 b1 := ⟨_, rfl⟩
      have Ea2 : IntKind.u64.wrap ((a1 : Int) + (b1 : Int)) = (a2 : Int) := by rw [ha2]; exact add64_wrap _ _
      have La2 : a2 < 18446744073709551616 := by rw [ha2]; exact add64_lt _ _
      have Ha2 := Lib.hid ha2
      clear ha2
      obtain ⟨x3, hx3⟩ : ∃ t : Nat, t = d1 ^^^ a2 := ⟨_, rfl⟩
      have Ex3 : bits BinOp.xor IntKind.u64 (d1 : Int) (a2 : Int) = (x3 : Int) := by
        rw [hx3]
        have e := bits_xor_u64_nat d1 a2 (by omega) (by omega)
        exact e
      have Lx3 : x3 < 18446744073709551616 := by rw [hx3]; exact xor64_lt (by omega) (by omega)
      have Hx3 := Lib.hid hx3
      clear hx3
      obtain ⟨d2, hd2⟩ : ∃ t : Nat, t = rotl 65536 281474976710656 x3 := ⟨_, rfl⟩
      have Ld2 : d2 < 18446744073709551616 := by rw [hd2]; exact rotl_lt (by omega)
      have Hd2 := Lib.hid hd2
      clear hd2
      go_wp2_with fail
      refine (rot16 _ x3 Lx3).mono ?_
      unfold Turns
      rw [← Hd2.out]
      rintro e v ⟨rfl, rfl⟩
      obtain ⟨c2, hc2⟩ : ∃ t : Nat, t = add64 c1 d2 := ⟨_, rfl⟩
      have Ec2 : IntKind.u64.wrap ((c1 : Int) + (d2 : Int)) = (c2 : Int) := by rw [hc2]; exact add64_wrap _ _
      have Lc2 : c2 < 18446744073709551616 := by rw [hc2]; exact add64_lt _ _
      have Hc2 := Lib.hid hc2
      clear hc2
      obtain ⟨x4, hx4⟩ : ∃ t : Nat, t = b1 ^^^ c2 := ⟨_, rfl⟩
      have Ex4 : bits BinOp.xor IntKind.u64 (b1 : Int) (c2 : Int) = (x4 : Int) := by
        rw [hx4]
        have e := bits_xor_u64_nat b1 c2 (by omega) (by omega)
        exact e
      have Lx4 : x4 < 18446744073709551616 := by rw [hx4]; exact xor64_lt (by omega) (by omega)
      have Hx4 := Lib.hid hx4
      clear hx4
      obtain ⟨b2, hb2⟩ : ∃ t : Nat, t = rotl 9223372036854775808 2 x4 := ⟨_, rfl⟩
      have Lb2 : b2 < 18446744073709551616 := by rw [hb2]; exact rotl_lt (by omega)
      have Hb2 := Lib.hid hb2
      clear hb2
      go_wp2_with fail
      refine (rot63 _ x4 Lx4).mono ?_
      unfold Turns
      rw [← Hb2.out]
      rintro e v ⟨rfl, rfl⟩
      go_wp2_with fail
      have Z : Hid ((⟨a2, b2, c2, d2⟩ : St) = rnds (k + 1) s) := by
        show (⟨a2, b2, c2, d2⟩ : St) = rnd (k + 1) (rnds k s)
        rw [← hz.out]
        simp only [rnd, half1, half2, ← Hs1.out, ← Ha1.out, ← Hx1.out, ← Hd1.out, ← Hc1.out, ← Hx2.out, ← Hb1.out, ← Ha2.out, ← Hx3.out, ← Hd2.out, ← Hc2.out, ← Hx4.out, ← Hb2.out]
      exact ⟨⟨k + 1, q, ⟨a2, b2, c2, d2⟩, by omega, by go_num, rfl, rfl, rfl, rfl, ⟨La2, Lb2, Lc2, Ld2⟩, Z, rfl⟩, by simp [intOf]; omega⟩
    · obtain rfl : k = 6 := by omega
      have hb' : (w.drewN q).heap[b]? = some (.cells #[.int .u64 s.a, .int .u64 s.b, .int .u64 s.c, .int .u64 s.d] 95 (0, 0)) := HB.out
      have fr0 := FR.out 0
      have fr1 := FR.out 1
      have fr2 := FR.out 2
      have fr3 := FR.out 3
      go_wp2_with fail
      have P := St4.put (w := w.drewN q) hb' (rnds 6 s) (rnds_ok h.out.ok 6 (by omega))
      rw [← hz.out] at P
      refine bodyPost_end (results_none rfl _ _ _) rfl ⟨rfl, ?_, ?_⟩
      · show StAt _ _ _ (rnds 6 s)
        rw [← hz.out]
        exact P.1
      · exact grown_then (draws_grown w q) P.2

/-- the call hands back this value, and makes memory alone -/
def Hands (v : Value) (w : World) (e : Ending) (w' : World) : Prop := e = .returned v ∧ Below w.heap.size w w'

/-- the document's state, while it is stirred: in the first block of the call's own, the result's behind it -/
structure RS (w : World) (wr : World) (a b c d : Nat) : Prop where
  blk : wr.heap[w.heap.size]? = some (.cells #[.int .u64 a, .int .u64 b, .int .u64 c, .int .u64 d] 88 (0, 0))
  res : wr.heap[w.heap.size + 1]? = some (.cells #[.int .u64 0, .int .u64 0, .int .u64 0, .int .u64 0] 88 (0, 0))
  bel : Below w.heap.size w wr
theorem RS.cells {w wr : World} {a b c d : Nat} (h : RS w wr a b c d) :
    wr.cell? ⟨w.heap.size, 0, none⟩ = some (.int .u64 a) ∧ wr.cell? ⟨w.heap.size, 1, none⟩ = some (.int .u64 b) ∧ wr.cell? ⟨w.heap.size, 2, none⟩ = some (.int .u64 c) ∧ wr.cell? ⟨w.heap.size, 3, none⟩ = some (.int .u64 d) ∧
      wr.frozen? ⟨w.heap.size, 0, none⟩ = false ∧ wr.frozen? ⟨w.heap.size, 1, none⟩ = false ∧ wr.frozen? ⟨w.heap.size, 2, none⟩ = false ∧ wr.frozen? ⟨w.heap.size, 3, none⟩ = false :=
  ⟨by rw [cell_of_row wr _ 0 _ _ _ h.blk]; rfl, by rw [cell_of_row wr _ 1 _ _ _ h.blk]; rfl, by rw [cell_of_row wr _ 2 _ _ _ h.blk]; rfl, by rw [cell_of_row wr _ 3 _ _ _ h.blk]; rfl,
   by simp [World.frozen?, h.blk], by simp [World.frozen?, h.blk], by simp [World.frozen?, h.blk], by simp [World.frozen?, h.blk]⟩
theorem RS.rcells {w wr : World} {a b c d : Nat} (h : RS w wr a b c d) :
    wr.cell? ⟨w.heap.size + 1, 0, none⟩ = some (.int .u64 0) ∧ wr.cell? ⟨w.heap.size + 1, 1, none⟩ = some (.int .u64 0) ∧ wr.cell? ⟨w.heap.size + 1, 2, none⟩ = some (.int .u64 0) ∧ wr.cell? ⟨w.heap.size + 1, 3, none⟩ = some (.int .u64 0) ∧
      wr.frozen? ⟨w.heap.size + 1, 0, none⟩ = false ∧ wr.frozen? ⟨w.heap.size + 1, 1, none⟩ = false ∧ wr.frozen? ⟨w.heap.size + 1, 2, none⟩ = false ∧ wr.frozen? ⟨w.heap.size + 1, 3, none⟩ = false :=
  ⟨by rw [cell_of_row wr _ 0 _ _ _ h.res]; rfl, by rw [cell_of_row wr _ 1 _ _ _ h.res]; rfl, by rw [cell_of_row wr _ 2 _ _ _ h.res]; rfl, by rw [cell_of_row wr _ 3 _ _ _ h.res]; rfl,
   by simp [World.frozen?, h.res], by simp [World.frozen?, h.res], by simp [World.frozen?, h.res], by simp [World.frozen?, h.res]⟩
theorem RS.set0 {w wr : World} {a b c d : Nat} (h : RS w wr a b c d) (x : Nat) : RS w (wr.setCell ⟨w.heap.size, 0, none⟩ (.int .u64 x)) x b c d :=
  ⟨heap_set_same _ h.blk, heap_set_other _ (by omega) h.res, below_set h.bel (Nat.le_refl _) (Nat.le_refl _)⟩
theorem RS.set1 {w wr : World} {a b c d : Nat} (h : RS w wr a b c d) (x : Nat) : RS w (wr.setCell ⟨w.heap.size, 1, none⟩ (.int .u64 x)) a x c d :=
  ⟨heap_set_same _ h.blk, heap_set_other _ (by omega) h.res, below_set h.bel (Nat.le_refl _) (Nat.le_refl _)⟩
theorem RS.set2 {w wr : World} {a b c d : Nat} (h : RS w wr a b c d) (x : Nat) : RS w (wr.setCell ⟨w.heap.size, 2, none⟩ (.int .u64 x)) a b x d :=
  ⟨heap_set_same _ h.blk, heap_set_other _ (by omega) h.res, below_set h.bel (Nat.le_refl _) (Nat.le_refl _)⟩
theorem RS.set3 {w wr : World} {a b c d : Nat} (h : RS w wr a b c d) (x : Nat) : RS w (wr.setCell ⟨w.heap.size, 3, none⟩ (.int .u64 x)) a b c x :=
  ⟨heap_set_same _ h.blk, heap_set_other _ (by omega) h.res, below_set h.bel (Nat.le_refl _) (Nat.le_refl _)⟩

set_option maxRecDepth 100000 in
set_option maxHeartbeats 1000000 in
theorem rstir_c (w : World) (s : St) (ok0 : Hid s.Ok) : Calls Tryd.prog 65 #[stV s] w (Hands (stV (stir s)) w) := by
  have OK6 := Lib.hid (rnds_ok ok0.out)
  unfold stV
  go_enter Tryd.func65, Tryd.ntmps65
  go_wp2_with fail
  go_loopw [3] (fun iv wr => ∃ (r : Nat) (z : St), 1 ≤ r ∧ r ≤ 7 ∧ iv = .int .u64 (r : Int) ∧ z.Ok ∧ Hid (z = rnds (r - 1) s) ∧ Hid (RS w wr z.a z.b z.c z.d)) (fun iv _ => 7 - (intOf iv).toNat)
  case atStart => exact ⟨1, s, by omega, by omega, rfl, ok0.out, rfl, heap_alloc_old (by simp) (Go.heap_alloc_new w _), heap_alloc_newest (by simp), ext_trans (ext_alloc _ _) (ext_alloc _ _)⟩
  case round =>
    obtain ⟨r, ⟨a, b', c, d⟩, hr1, hr7, rfl, ok, hz, R0'⟩ := hrel
    have R0 : Hid (RS w wr a b' c d) := R0'
    clear R0'
    by_cases hlt : r ≤ 6
    · have La : a < 18446744073709551616 := ok.a
      have Lb' : b' < 18446744073709551616 := ok.b
      have Lc : c < 18446744073709551616 := ok.c
      have Ld : d < 18446744073709551616 := ok.d
      clear ok
      obtain ⟨c00, c10, c20, c30, f00, f10, f20, f30⟩ := R0.out.cells
      obtain ⟨s1, hs1⟩ : ∃ t : Nat, t = add64 a b' := ⟨_, rfl⟩
      have Es1 : IntKind.u64.wrap ((a : Int) + (b' : Int)) = (s1 : Int) := by rw [hs1]; exact add64_wrap _ _
      have Ls1 : s1 < 18446744073709551616 := by rw [hs1]; exact add64_lt _ _
      have Hs1 := Lib.hid hs1
      clear hs1
      obtain ⟨a1, ha1⟩ : ∃ t : Nat, t = s1 ^^^ r := ⟨_, rfl⟩
      have Ea1 : bits BinOp.xor IntKind.u64 (s1 : Int) ((r : Nat) : Int) = (a1 : Int) := by
        rw [ha1]
        have e := bits_xor_u64_nat s1 r (by omega) (by omega)
        push_cast at e
        exact e
      have La1 : a1 < 18446744073709551616 := by rw [ha1]; exact xor64_lt (by omega) (by omega)
      have Ha1 := Lib.hid ha1
      clear ha1
      obtain ⟨x1, hx1⟩ : ∃ t : Nat, t = d ^^^ a1 := ⟨_, rfl⟩
      have Ex1 : bits BinOp.xor IntKind.u64 (d : Int) (a1 : Int) = (x1 : Int) := by
        rw [hx1]
        have e := bits_xor_u64_nat d a1 (by omega) (by omega)
        exact e
      have Lx1 : x1 < 18446744073709551616 := by rw [hx1]; exact xor64_lt (by omega) (by omega)
      have Hx1 := Lib.hid hx1
      clear hx1
      obtain ⟨d1, hd1⟩ : ∃ t : Nat, t = rotl 4294967296 4294967296 x1 := ⟨_, rfl⟩
      have Ld1 : d1 < 18446744073709551616 := by rw [hd1]; exact rotl_lt (by omega)
      have Hd1 := Lib.hid hd1
      clear hd1
      go_wp2_with fail
      refine (left32 _ x1 Lx1).mono ?_
      unfold Turns
      rw [← Hd1.out]
      rintro e v1 ⟨rfl, hv⟩
      have R1 := Lib.hid ((R0.out.set0 a1))
      rw [hv] at R1
      clear hv c00 c10 c20 c30 f00 f10 f20 f30
      obtain ⟨c01, c11, c21, c31, f01, f11, f21, f31⟩ := R1.out.cells
      obtain ⟨c1, hc1⟩ : ∃ t : Nat, t = add64 c d1 := ⟨_, rfl⟩
      have Ec1 : IntKind.u64.wrap ((c : Int) + (d1 : Int)) = (c1 : Int) := by rw [hc1]; exact add64_wrap _ _
      have Lc1 : c1 < 18446744073709551616 := by rw [hc1]; exact add64_lt _ _
      have Hc1 := Lib.hid hc1
      clear hc1
      obtain ⟨x2, hx2⟩ : ∃ t : Nat, t = b' ^^^ c1 := ⟨_, rfl⟩
      have Ex2 : bits BinOp.xor IntKind.u64 (b' : Int) (c1 : Int) = (x2 : Int) := by
        rw [hx2]
        have e := bits_xor_u64_nat b' c1 (by omega) (by omega)
        exact e
      have Lx2 : x2 < 18446744073709551616 := by rw [hx2]; exact xor64_lt (by omega) (by omega)
      have Hx2 := Lib.hid hx2
      clear hx2
      obtain ⟨b1, hb1⟩ : ∃ t : Nat, t = rotl 16777216 1099511627776 x2 := ⟨_, rfl⟩
      have Lb1 : b1 < 18446744073709551616 := by rw [hb1]; exact rotl_lt (by omega)
      have Hb1 := Lib.hid hb1
      clear hb1
      go_wp2_with fail
      refine (left24 _ x2 Lx2).mono ?_
      unfold Turns
      rw [← Hb1.out]
      rintro e v2 ⟨rfl, hv⟩
      have R2 := Lib.hid (((R1.out.set3 d1).set2 c1))
      rw [hv] at R2
      clear hv c01 c11 c21 c31 f01 f11 f21 f31
      obtain ⟨c02, c12, c22, c32, f02, f12, f22, f32⟩ := R2.out.cells
      obtain ⟨a2, ha2⟩ : ∃ t : Nat, t = add64 a1 b1 := ⟨_, rfl⟩
      have Ea2 : IntKind.u64.wrap ((a1 : Int) + (b1 : Int)) = (a2 : Int) := by rw [ha2]; exact add64_wrap _ _
      have La2 : a2 < 18446744073709551616 := by rw [ha2]; exact add64_lt _ _
      have Ha2 := Lib.hid ha2
      clear ha2
      obtain ⟨x3, hx3⟩ : ∃ t : Nat, t = d1 ^^^ a2 := ⟨_, rfl⟩
      have Ex3 : bits BinOp.xor IntKind.u64 (d1 : Int) (a2 : Int) = (x3 : Int) := by
        rw [hx3]
        have e := bits_xor_u64_nat d1 a2 (by omega) (by omega)
        exact e
      have Lx3 : x3 < 18446744073709551616 := by rw [hx3]; exact xor64_lt (by omega) (by omega)
      have Hx3 := Lib.hid hx3
      clear hx3
      obtain ⟨d2, hd2⟩ : ∃ t : Nat, t = rotl 65536 281474976710656 x3 := ⟨_, rfl⟩
      have Ld2 : d2 < 18446744073709551616 := by rw [hd2]; exact rotl_lt (by omega)
      have Hd2 := Lib.hid hd2
      clear hd2
      go_wp2_with fail
      refine (left16 _ x3 Lx3).mono ?_
      unfold Turns
      rw [← Hd2.out]
      rintro e v3 ⟨rfl, hv⟩
      have R3 := Lib.hid (((R2.out.set1 b1).set0 a2))
      rw [hv] at R3
      clear hv c02 c12 c22 c32 f02 f12 f22 f32
      obtain ⟨c03, c13, c23, c33, f03, f13, f23, f33⟩ := R3.out.cells
      obtain ⟨c2, hc2⟩ : ∃ t : Nat, t = add64 c1 d2 := ⟨_, rfl⟩
      have Ec2 : IntKind.u64.wrap ((c1 : Int) + (d2 : Int)) = (c2 : Int) := by rw [hc2]; exact add64_wrap _ _
      have Lc2 : c2 < 18446744073709551616 := by rw [hc2]; exact add64_lt _ _
      have Hc2 := Lib.hid hc2
      clear hc2
      obtain ⟨x4, hx4⟩ : ∃ t : Nat, t = b1 ^^^ c2 := ⟨_, rfl⟩
      have Ex4 : bits BinOp.xor IntKind.u64 (b1 : Int) (c2 : Int) = (x4 : Int) := by
        rw [hx4]
        have e := bits_xor_u64_nat b1 c2 (by omega) (by omega)
        exact e
      have Lx4 : x4 < 18446744073709551616 := by rw [hx4]; exact xor64_lt (by omega) (by omega)
      have Hx4 := Lib.hid hx4
      clear hx4
      obtain ⟨b2, hb2⟩ : ∃ t : Nat, t = rotl 9223372036854775808 2 x4 := ⟨_, rfl⟩
      have Lb2 : b2 < 18446744073709551616 := by rw [hb2]; exact rotl_lt (by omega)
      have Hb2 := Lib.hid hb2
      clear hb2
      go_wp2_with fail
      refine (left63 _ x4 Lx4).mono ?_
      unfold Turns
      rw [← Hb2.out]
      rintro e v4 ⟨rfl, hv⟩
      have R4 := Lib.hid (((R3.out.set3 d2).set2 c2))
      rw [hv] at R4
      clear hv c03 c13 c23 c33 f03 f13 f23 f33
      obtain ⟨c04, c14, c24, c34, f04, f14, f24, f34⟩ := R4.out.cells
      go_wp2_with fail
      have Z : Hid ((⟨a2, b2, c2, d2⟩ : St) = rnds (r + 1 - 1) s) := by
        obtain ⟨k, rfl⟩ : ∃ k, r = k + 1 := ⟨r - 1, by omega⟩
        show (⟨a2, b2, c2, d2⟩ : St) = rnd (k + 1) (rnds k s)
        have hz' : (⟨a, b', c, d⟩ : St) = rnds k s := hz.out
        rw [← hz']
        simp only [rnd, half1, half2, ← Hs1.out, ← Ha1.out, ← Hx1.out, ← Hd1.out, ← Hc1.out, ← Hx2.out, ← Hb1.out, ← Ha2.out, ← Hx3.out, ← Hd2.out, ← Hc2.out, ← Hx4.out, ← Hb2.out]
      exact ⟨⟨r + 1, ⟨a2, b2, c2, d2⟩, by omega, by omega, by go_num, ⟨La2, Lb2, Lc2, Ld2⟩, Z, R4.out.set1 b2⟩, by simp [intOf]; omega⟩
    · obtain rfl : r = 7 := by omega
      obtain ⟨c00, c10, c20, c30, f00, f10, f20, f30⟩ := R0.out.cells
      obtain ⟨r00, r10, r20, r30, q00, q10, q20, q30⟩ := R0.out.rcells
      go_wp2_with fail
      have F := cells4 (heap_set_same (j := 3) (.int .u64 d) (heap_set_same (j := 2) (.int .u64 c) (heap_set_same (j := 1) (.int .u64 b') (heap_set_same (j := 0) (.int .u64 a) R0.out.res)))) rfl
      refine bodyPost_ret (v := .agg #[.int .u64 a, .int .u64 b', .int .u64 c, .int .u64 d]) (by simp only [results, Tryd.results65]; simp [go_sem, F.1, F.2.1, F.2.2.1, F.2.2.2]) rfl ⟨?_, ?_⟩
      · have e : (⟨a, b', c, d⟩ : St) = stir s := hz.out
        rw [← e]
      · exact below_set (below_set (below_set (below_set R0.out.bel (Nat.le_refl _) (by omega)) (Nat.le_refl _) (by omega)) (Nat.le_refl _) (by omega)) (Nat.le_refl _) (by omega)
#print axioms rstir_c
end Go.Proofs.YtbejjmmopdcjoaaDoor
