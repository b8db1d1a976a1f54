/-
  code: instructions as the document's; whether they are the same: contracts.
-/
import Derived.Test.YtibmkihehaedjaaDoorGCheck
import Derived.Laws.StructEq
namespace Go.Proofs.YtibmkihehaedjaaDoor
open Go.RowKit

set_option maxRecDepth 100000 in
set_option maxHeartbeats 1000000 in
theorem to_c (w : World) (A : Option Addr) (n c : Nat) (l : List Ins) (h : Hid (RdS w A n c l)) (hn : n ≤ 1000000) : Calls Tryd.prog 29 #[.slice A n c] w (Inss w l) := by
  have HL := Lib.hid h.out.len
  have hle := h.out.le
  have hmx := h.out.max
  go_enter Tryd.func29, Tryd.ntmps29
  go_wp2_with fail
  go_loopw [3, 8] (fun lv iv wr => ∃ (k : Nat) (B : Option Addr) (d : Nat), k ≤ n ∧ iv = .int .i64 k ∧ lv = .slice B k d ∧ Hid (OwnS wr 23 w.heap.size B k d (l.take k)) ∧ Hid (Below w.heap.size w wr)) (fun _ iv _ => n - (intOf iv).toNat)
  case atStart => exact ⟨0, none, 0, Nat.zero_le _, rfl, rfl, by show OwnS _ _ _ _ _ _ _; rw [List.take_zero]; exact OwnS.void _ _ _, Below.refl _ _⟩
  case round =>
    obtain ⟨k, B, d, hk, rfl, rfl, HO, HB⟩ := hrel
    by_cases hlt : k < n
    · have hlen : k < l.length := by rw [HL.out]; exact hlt
      obtain ⟨b, o, rfl, hbo, c0, c1, c2, c3⟩ := (h.out.ext HB.out).at hlt
      obtain ⟨y, hy⟩ : ∃ y, y = l.getD k noIns := ⟨_, rfl⟩
      rw [← hy] at c0 c1 c2 c3
      have HY := Lib.hid hy
      have hltI : (k : Int) < (n : Int) := by omega
      have hkI : (0 : Int) ≤ (k : Int) := by omega
      have hk3 : k < 1000000 := by omega
      clear hy
      go_upto_region 5 with fail
      clear c0 c1 c2 c3
      obtain ⟨g, hg⟩ : ∃ g, g = wr.heap.size := ⟨_, rfl⟩
      obtain ⟨U, hU⟩ : ∃ U, U = World.alloc wr (.cells #[.int .i64 y.o, .int .i64 y.a, .int .i64 y.b, .int .i64 y.c] 33) := ⟨_, rfl⟩
      have C : Hid (U.heap[g]? = some (.cells #[.int .i64 y.o, .int .i64 y.a, .int .i64 y.b, .int .i64 y.c] 33 (0, 0))) := by rw [hU, hg]; exact Go.heap_alloc_new wr _
      have BU : Hid (Below wr.heap.size wr U) := by rw [hU]; exact ext_alloc wr _
      replace HO := Lib.hid (HO.out.ext BU.out)
      replace HB := Lib.hid (ext_trans HB.out BU.out)
      rw [← hU, ← hg]
      clear hU hg BU
      obtain ⟨x0, x1, x2, x3⟩ := full4i C.out
      go_wp2_with (refine wpList_pushS 24 23 Tryd.underlying24 infoRI (o := ⟨some 15, _, _, _, _, _⟩) rfl (.tmp 12) (.tmp 14) rfl w.heap.size _ _ _ _ (by rfl) HO.out y (by rfl) (by omega) HB.out.size ?_; intro B' d' w' ho' hb'; have HO2 := Lib.hid ho'; have HB2 := Lib.hid hb'; clear ho' hb' x0 x1 x2 x3; go_simp)
      exact ⟨⟨k + 1, B', d', by omega, by go_num, rfl, by
        show OwnS _ _ _ _ _ _ _
        rw [take_snocI (by rw [HL.out]; exact hlt), ← HY.out]; exact HO2.out, HB.out.trans HB2.out⟩, by simp [intOf]; omega⟩
    · obtain rfl : k = n := by omega
      have HE : Hid (OwnS wr 23 w.heap.size B k d l) := by
        have := HO.out
        rw [List.take_of_length_le (by rw [HL.out]; exact Nat.le_refl _)] at this
        exact this
      go_wp2_with fail
      go_ret
      exact ⟨B, d, by rw [HL.out]; rfl, by rw [HL.out]; exact HE.out.rd, HB.out⟩

theorem eqF {P : Program} {w : World} {d : Nat} {xs ys : Array Value} {f : Field} {fs : List Field} {k k' : IntKind} {a b : Int} (hn : f.name ≠ "_") (hp : P.plainKey f.type = true) (hu : P.underlying f.type = some (.int k')) (hx : xs[f.offset]? = some (.int k a)) (hy : ys[f.offset]? = some (.int k b)) :
    (Op.eqFields (d + 1) xs ys (f :: fs)).run P w = if a = b then (Op.eqFields (d + 1) xs ys fs).run P w else .ok false w := by
  have h1 := run_part_plain (w := w) hp hx
  have h2 := run_part_plain (w := w) hp hy
  have h3 := run_equalIn_int w d f.type k k' a b hu
  rw [Op.eqFields, if_pos hn]
  simp only [Sem.run_bind, h1, h2, h3, Result.andThen_ok]
  by_cases e : a = b
  · subst e
    simp
  · rw [if_neg e]
    have : (a == b) = false := by rw [beq_eq_false_iff_ne]; exact e
    simp [this]
theorem fieldsI : Tryd.prog.fieldsOf 23 = #[{ name := "Op", type := 3, offset := 0, embedded := false, tag := "", pkgPath := "", byteOffset := 0 }, { name := "A", type := 3, offset := 1, embedded := false, tag := "", pkgPath := "", byteOffset := 8 }, { name := "B", type := 3, offset := 2, embedded := false, tag := "", pkgPath := "", byteOffset := 16 }, { name := "C", type := 3, offset := 3, embedded := false, tag := "", pkgPath := "", byteOffset := 24 }] := by kernel_rfl
set_option maxRecDepth 100000 in
theorem neq_ins (o a b c : Int) (w : World) : (binOp .neq 23 (.agg #[.int .i64 o, .int .i64 a, .int .i64 b, .int .i64 c]) (.agg #[.int .i64 o, .int .i64 a, .int .i64 b, .int .i64 c])).run Tryd.prog w = .ok (.bool false) w := by
  have hu := Tryd.underlying3
  have hk : Tryd.prog.plainKey 3 = true := by kernel_rfl
  rw [run_neq_struct, run_equalIn_agg w 9999 _ _ _ (by kernel_rfl) (by kernel_rfl), fieldsI]
  rw [eqF (k := .i64) (a := o) (b := o) (by decide) hk hu rfl rfl, if_pos rfl, eqF (k := .i64) (a := a) (b := a) (by decide) hk hu rfl rfl, if_pos rfl, eqF (k := .i64) (a := b) (b := b) (by decide) hk hu rfl rfl, if_pos rfl, eqF (k := .i64) (a := c) (b := c) (by decide) hk hu rfl rfl, if_pos rfl]
  simp [Op.eqFields]
set_option maxRecDepth 100000 in
set_option maxHeartbeats 2000000 in
theorem same_c (w : World) (A : Option Addr) (n c : Nat) (l : List Ins) (h : Hid (RdS w A n c l)) (B : Option Addr) (m d : Nat) (r : List Ins) (k : Hid (RdS w B m d r)) (heq : Hid (l = r)) : Calls Tryd.prog 28 #[.slice A n c, .slice B m d] w (Gives (.bool true) w) := by
  have HL := Lib.hid h.out.len
  have hnm : n = m := by rw [← h.out.len, ← k.out.len, heq.out]
  have hle := h.out.le
  have hmx := h.out.max
  have kle := k.out.le
  have kmx := k.out.max
  subst hnm
  go_enter Tryd.func28, Tryd.ntmps28
  go_wp2_with fail
  go_loopw [5] (fun iv wr => ∃ q : Nat, q ≤ n ∧ iv = .int .i64 q ∧ Hid (Below w.heap.size w wr)) (fun iv _ => n - (intOf iv).toNat)
  case atStart => exact ⟨0, Nat.zero_le _, rfl, Below.refl _ _⟩
  case round =>
    obtain ⟨q, hq, rfl, HB⟩ := hrel
    by_cases hlt : q < n
    · obtain ⟨b, o, rfl, _, c0, c1, c2, c3⟩ := (h.out.ext HB.out).at hlt
      obtain ⟨b', o', rfl, _, e0, e1, e2, e3⟩ := (k.out.ext HB.out).at hlt
      rw [← heq.out] at e0 e1 e2 e3
      obtain ⟨y, hy⟩ : ∃ y, y = l.getD q noIns := ⟨_, rfl⟩
      rw [← hy] at c0 c1 c2 c3 e0 e1 e2 e3
      clear hy
      have hltI : (q : Int) < (n : Int) := by omega
      have hqI : (0 : Int) ≤ (q : Int) := by omega
      obtain ⟨y0, y1, y2, y3⟩ := y
      dsimp only at c0 c1 c2 c3 e0 e1 e2 e3
      have N := neq_ins y0 y1 y2 y3
      go_wp2_with fail
      go_quiet (fail)
      go_wp2_with fail
      exact ⟨⟨q + 1, by omega, by go_num, ext_trans HB.out (ext_draws _ _)⟩, by simp [intOf]; omega⟩
    · obtain rfl : q = n := by omega
      go_wp2_with fail
      go_ret
      exact ⟨rfl, HB.out⟩
#print axioms to_c
#print axioms same_c
end Go.Proofs.YtibmkihehaedjaaDoor
