/-
  coin: the document's New, Pay of pots: contracts.
-/
import Derived.Test.YthdnfnilckjldaaCSame
import Derived.Test.YthdnfnilckjldaaCRSplit
import Derived.Test.YthdnfnilckjldaaSchedT
namespace Go.Proofs.Ythdnfnilckjldaa
open Go.RowKit

theorem full2f {w : World} {b : Nat} {T : TypeId} {x0 x1 : Value} (h : w.heap[b]? = some (.cells #[x0, x1] T (0, 0))) : w.cell? ⟨b, 0, none⟩ = some x0 ∧ w.cell? ⟨b, 1, none⟩ = some x1 ∧ w.frozen? ⟨b, 0, none⟩ = false ∧ w.frozen? ⟨b, 1, none⟩ = false :=
  ⟨by rw [cell_of_row w _ 0 _ _ _ h]; rfl, by rw [cell_of_row w _ 1 _ _ _ h]; rfl, by simp [World.frozen?, h], by simp [World.frozen?, h]⟩
theorem set2 {w : World} {b : Nat} {T : TypeId} {x0 x1 : Value} (h : w.heap[b]? = some (.cells #[x0, x1] T (0, 0))) (y0 y1 : Value) :
    ((w.setCell ⟨b, 0, none⟩ y0).setCell ⟨b, 1, none⟩ y1).heap[b]? = some (.cells #[y0, y1] T (0, 0)) := by
  have h1 := heap_setCell_same w b 0 #[x0, x1] T y0 h
  have h2 := heap_setCell_same _ b 1 _ T y1 h1
  exact h2
theorem bel2 {w0 w : World} {B b : Nat} (k : Below B w0 w) (hb : B ≤ b) (y0 y1 : Value) : Below B w0 ((w.setCell ⟨b, 0, none⟩ y0).setCell ⟨b, 1, none⟩ y1) := by
  have h1 : ∀ c, c ≠ b → ((w.setCell ⟨b, 0, none⟩ y0).setCell ⟨b, 1, none⟩ y1).heap[c]? = w.heap[c]? := fun c hc => (Below.heap_setCell _ _ _ _ hc).trans (Below.heap_setCell _ _ _ _ hc)
  exact ⟨k.os, k.tape, k.output, by simpa [World.setCell] using k.size, fun c hc => (h1 c (by omega)).trans (k.block c hc)⟩
theorem keepA2 {w : World} {b : Nat} {o x : Obj} (h : w.heap[b]? = some o) : (w.alloc x).heap[b]? = some o := keepB (ext_alloc w x) h
/-- a row of another type lies elsewhere -/
theorem own_other {w : World} {B : Nat} {g n c p : Nat} {bs : List Int} (h : OwnI w 3 B (some ⟨g, 0, none⟩) n c bs) (hn : 0 < n) {vs : Array Value} (hp : w.heap[p]? = some (.cells vs 45 (0, 0))) : g ≠ p := by
  rcases h.row.2 with ⟨_, h1⟩ | ⟨g', cap, cur, hv, _, hg, _⟩
  · omega
  · injection hv with e1 e2 e3
    injection e1 with e1
    injection e1 with e1
    subst e1
    intro e
    subst e
    rw [hg] at hp
    injection hp with hp
    injection hp with _ hp
    exact absurd hp (by decide)

def RNews (w : World) (a : Int) (S : Nat) (e : Ending) (w' : World) : Prop := ∃ A c, e = .returned (.tuple #[.agg #[.int .i64 a, .slice A S c], .int .i64 0]) ∧ OwnI w' 3 w.heap.size A S c (List.replicate S 0) ∧ Below w.heap.size w w'
def RBad (w : World) (k : Int) (e : Ending) (w' : World) : Prop := e = .returned (.tuple #[.agg #[.int .i64 0, .slice none 0 0], .int .i64 k]) ∧ Below w.heap.size w w'
set_option maxRecDepth 100000 in
set_option maxHeartbeats 4000000 in
theorem rnew_ok (w : World) (a : Int) (S : Nat) (ha : Hid (Amt a)) (h1 : 1 ≤ S) (h8 : S ≤ 8) : Calls Try.prog 24 #[.int .i64 a, .int .i64 S] w (RNews w a S) := by
  have h1I : ¬ (S : Int) < 1 := by omega
  have h8I : ¬ (8 : Int) < (S : Int) := by omega
  obtain ⟨i0, hi, hz0, hz1, hz2⟩ := info_parts infoI
  have HI := Lib.hid hi
  have HZ0 := Lib.hid hz0
  have HZ1 := Lib.hid hz1
  have HZ2 := Lib.hid hz2
  clear hi hz0 hz1 hz2
  go_enter Try.func24, Try.ntmps24
  go_wp2_with fail
  refine (rright_t _ _ ha.out).mono ?_
  rintro e v ⟨rfl, rfl⟩
  go_upto_region 5 with fail
  generalize hW : World.alloc w (.cells #[.int .i64 0, .slice none 0 0] 45) = W
  have R : Hid (W.heap[w.heap.size]? = some (.cells #[.int .i64 0, .slice none 0 0] 45 (0, 0))) := by rw [← hW]; exact Go.heap_alloc_new w _
  have B : Hid (Below w.heap.size w W) := by rw [← hW]; exact ext_alloc _ _
  clear hW
  obtain ⟨c0, c1, f0, f1⟩ := full2f R.out
  go_wp2_with (refine wpList_make_any (o := ⟨some 19, _, _, _, _, _⟩) _ rfl (.tmp 18) (.tmp 18) 22 rfl W.heap.size 3 i0 (.int .i64 0) Try.underlying22 HI.out HZ0.out HZ1.out rfl 8 HZ2.out .i64 .i64 S S S S (by rfl) (by rfl) rfl rfl (Nat.le_refl _) (by omega) (by omega) (Nat.le_refl _) ?_; intro w1 hrow hgr; have hb := below_grown (Below.refl W.heap.size W) (Nat.le_refl _) hgr (fun k hk => by cases hk); have R1 := Lib.hid (keepB hb R.out); clear c0 c1 f0 f1; obtain ⟨c0, c1, f0, f1⟩ := full2f R1.out; go_simp)
  have hO : Hid (OwnI w1 3 W.heap.size (some ⟨W.heap.size, 0, none⟩) S S (List.replicate S 0)) := ⟨by simp, by omega, by simpa [I64] using hrow⟩
  have GR : Hid (W.heap.size > w.heap.size) := by have := (Array.getElem?_eq_some_iff.1 R.out).1; exact this
  have OF := Lib.hid ((hO.out.kept (World.grownBy.trans1 (grownBy_set' (b := w.heap.size) (j := 0) (.int .i64 a)) (grownBy_set' (b := w.heap.size) (j := 1) (.slice (some ⟨W.heap.size, 0, none⟩) S S))) (fun g hg => by injection hg with hg; have := GR.out; omega)).base B.out.size)
  have BF := Lib.hid (bel2 (ext_trans B.out hb) (Nat.le_refl _) (.int .i64 a) (.slice (some ⟨W.heap.size, 0, none⟩) S S))
  obtain ⟨g0, g1, _, _⟩ := full2f (set2 R1.out (.int .i64 a) (.slice (some ⟨W.heap.size, 0, none⟩) S S))
  clear hrow hgr hb hO
  go_wp2_with fail
  refine bodyPost_ret (v := .tuple #[.agg #[.int .i64 a, .slice (some ⟨W.heap.size, 0, none⟩) S S], .int .i64 0]) (by simp only [results, Try.results24]; simp [go_sem, g0, g1]) rfl ⟨_, _, rfl, OF.out, BF.out⟩

set_option maxRecDepth 100000 in
set_option maxHeartbeats 4000000 in
theorem rnew_range (w : World) (a n : Int) (ha : Hid (¬ Amt a)) : Calls Try.prog 24 #[.int .i64 a, .int .i64 n] w (RBad w 2) := by
  go_enter Try.func24, Try.ntmps24
  go_wp2_with fail
  refine (rright_f _ _ ha.out).mono ?_
  rintro e v ⟨rfl, rfl⟩
  go_upto_region 2 with fail
  generalize hW : World.alloc w (.cells #[.int .i64 0, .slice none 0 0] 45) = W
  have R : Hid (W.heap[w.heap.size]? = some (.cells #[.int .i64 0, .slice none 0 0] 45 (0, 0))) := by rw [← hW]; exact Go.heap_alloc_new w _
  have B : Hid (Below w.heap.size w W) := by rw [← hW]; exact ext_alloc _ _
  clear hW
  obtain ⟨c0, c1, f0, f1⟩ := full2f R.out
  have BF := Lib.hid (bel2 B.out (Nat.le_refl _) (.int .i64 0) (.slice none 0 0))
  obtain ⟨g0, g1, _, _⟩ := full2f (set2 R.out (.int .i64 0) (.slice none 0 0))
  go_wp2_with fail
  refine bodyPost_ret (v := .tuple #[.agg #[.int .i64 0, .slice none 0 0], .int .i64 2]) (by simp only [results, Try.results24]; simp [go_sem, g0, g1]) rfl ⟨rfl, BF.out⟩

set_option maxRecDepth 100000 in
set_option maxHeartbeats 4000000 in
theorem rnew_low (w : World) (a n : Int) (ha : Hid (Amt a)) (hn : n < 1) : Calls Try.prog 24 #[.int .i64 a, .int .i64 n] w (RBad w 1) := by
  go_enter Try.func24, Try.ntmps24
  go_wp2_with fail
  refine (rright_t _ _ ha.out).mono ?_
  rintro e v ⟨rfl, rfl⟩
  go_upto_region 4 with fail
  generalize hW : World.alloc w (.cells #[.int .i64 0, .slice none 0 0] 45) = W
  have R : Hid (W.heap[w.heap.size]? = some (.cells #[.int .i64 0, .slice none 0 0] 45 (0, 0))) := by rw [← hW]; exact Go.heap_alloc_new w _
  have B : Hid (Below w.heap.size w W) := by rw [← hW]; exact ext_alloc _ _
  clear hW
  obtain ⟨c0, c1, f0, f1⟩ := full2f R.out
  have BF := Lib.hid (bel2 B.out (Nat.le_refl _) (.int .i64 0) (.slice none 0 0))
  obtain ⟨g0, g1, _, _⟩ := full2f (set2 R.out (.int .i64 0) (.slice none 0 0))
  go_wp2_with fail
  refine bodyPost_ret (v := .tuple #[.agg #[.int .i64 0, .slice none 0 0], .int .i64 1]) (by simp only [results, Try.results24]; simp [go_sem, g0, g1]) rfl ⟨rfl, BF.out⟩

set_option maxRecDepth 100000 in
set_option maxHeartbeats 4000000 in
theorem rnew_high (w : World) (a n : Int) (ha : Hid (Amt a)) (hn : 8 < n) : Calls Try.prog 24 #[.int .i64 a, .int .i64 n] w (RBad w 1) := by
  have hn1 : ¬ n < 1 := by omega
  go_enter Try.func24, Try.ntmps24
  go_wp2_with fail
  refine (rright_t _ _ ha.out).mono ?_
  rintro e v ⟨rfl, rfl⟩
  go_upto_region 4 with fail
  generalize hW : World.alloc w (.cells #[.int .i64 0, .slice none 0 0] 45) = W
  have R : Hid (W.heap[w.heap.size]? = some (.cells #[.int .i64 0, .slice none 0 0] 45 (0, 0))) := by rw [← hW]; exact Go.heap_alloc_new w _
  have B : Hid (Below w.heap.size w W) := by rw [← hW]; exact ext_alloc _ _
  clear hW
  obtain ⟨c0, c1, f0, f1⟩ := full2f R.out
  have BF := Lib.hid (bel2 B.out (Nat.le_refl _) (.int .i64 0) (.slice none 0 0))
  obtain ⟨g0, g1, _, _⟩ := full2f (set2 R.out (.int .i64 0) (.slice none 0 0))
  go_wp2_with fail
  refine bodyPost_ret (v := .tuple #[.agg #[.int .i64 0, .slice none 0 0], .int .i64 1]) (by simp only [results, Try.results24]; simp [go_sem, g0, g1]) rfl ⟨rfl, BF.out⟩
#print axioms rnew_ok
end Go.Proofs.Ythdnfnilckjldaa
