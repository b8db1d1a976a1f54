/-
  once: Reach: contract.
-/
import Derived.Test.YtbhibfdlkahagaaOPure
import Derived.Test.YtbhibfdlkahagaaO18
import Derived.Test.YtbhibfdlkahagaaHEq
import Derived.Deep.DeepCutAuto
import Derived.Deep.MidRow
namespace Go.Proofs.Ytbhibfdlkahagaa
open Go.RowKit

theorem index_dig {t e : TypeId} (h : Try.prog.underlying t = some (.array 8 e)) (hs : (Try.prog.info? e).map (·.size) = some 1) (hp : Try.prog.plainKey e = true) (m : Nat) (k : Nat) (hk : k < 8) (w : World) :
    (Instr.index t (.agg #[.int .u8 (byt m 0), .int .u8 (byt m 1), .int .u8 (byt m 2), .int .u8 (byt m 3), .int .u8 (byt m 4), .int .u8 (byt m 5), .int .u8 (byt m 6), .int .u8 (byt m 7)]) (.int .i64 (k : Int))).run Try.prog w = .ok (.int .u8 (byt m k)) w :=
  run_index_agg (n := 8) h (by omega) (by omega) hs hp (by rw [Int.toNat_natCast]; have := digA_at m k hk; rw [Nat.mul_one] at this; exact this) w

theorem below_setCells {w0 : World} {B b : Nat} (hb : B ≤ b) : ∀ (vs : List Value) (o : Nat) (w : World), Below B w0 w → Below B w0 (w.setCells b o vs)
  | [], _, _, h => h
  | v :: vs, o, w, h => below_setCells hb vs (o + 1) _ ⟨h.os, h.tape, h.output, by simpa [World.setCell] using h.size, fun k hk => by
    rw [← h.block k hk]
    exact Below.heap_setCell _ _ _ _ (by show k ≠ b; omega)⟩

set_option maxRecDepth 100000 in
set_option maxHeartbeats 4000000 in
theorem reach_c (w : World) (m : Nat) : Calls Try.prog 29 #[digV m] w (Hands (digV18 m) w) := by
  unfold digV
  go_enter Try.func29, Try.ntmps29
  go_upto_region 2 with fail
  generalize hW : World.alloc (World.alloc (World.alloc w (.cells #[.int .u8 (byt m 0), .int .u8 (byt m 1), .int .u8 (byt m 2), .int .u8 (byt m 3), .int .u8 (byt m 4), .int .u8 (byt m 5), .int .u8 (byt m 6), .int .u8 (byt m 7)] 31)) (.cells #[.int .i64 0, .int .i64 0, .int .i64 0, .int .i64 0, .int .i64 0, .int .i64 0, .int .i64 0, .int .i64 0, .int .i64 0, .int .i64 0, .int .i64 0, .int .i64 0, .int .i64 0, .int .i64 0, .int .i64 0, .int .i64 0, .int .i64 0, .int .i64 0] 42)) (.cells #[.int .i64 0, .int .i64 0, .int .i64 0, .int .i64 0, .int .i64 0, .int .i64 0, .int .i64 0, .int .i64 0, .int .i64 0, .int .i64 0, .int .i64 0, .int .i64 0, .int .i64 0, .int .i64 0, .int .i64 0, .int .i64 0, .int .i64 0, .int .i64 0] 42) = W
  have D : Hid (W.heap[w.heap.size]? = some (.cells #[.int .u8 (byt m 0), .int .u8 (byt m 1), .int .u8 (byt m 2), .int .u8 (byt m 3), .int .u8 (byt m 4), .int .u8 (byt m 5), .int .u8 (byt m 6), .int .u8 (byt m 7)] 31 (0, 0))) := by rw [← hW]; exact keepA (keepA (Go.heap_alloc_new w _))
  have R : Hid (W.heap[w.heap.size + 1]? = some (.cells #[.int .i64 0, .int .i64 0, .int .i64 0, .int .i64 0, .int .i64 0, .int .i64 0, .int .i64 0, .int .i64 0, .int .i64 0, .int .i64 0, .int .i64 0, .int .i64 0, .int .i64 0, .int .i64 0, .int .i64 0, .int .i64 0, .int .i64 0, .int .i64 0] 42 (0, 0))) := by rw [← hW]; exact keepA (heap_alloc_newest (w := World.alloc _ _) (by simp))
  have F0 : Hid (W.heap[w.heap.size + 2]? = some (.cells #[.int .i64 0, .int .i64 0, .int .i64 0, .int .i64 0, .int .i64 0, .int .i64 0, .int .i64 0, .int .i64 0, .int .i64 0, .int .i64 0, .int .i64 0, .int .i64 0, .int .i64 0, .int .i64 0, .int .i64 0, .int .i64 0, .int .i64 0, .int .i64 0] 42 (0, 0))) := by rw [← hW]; exact heap_alloc_newest (w := World.alloc _ _) (by simp)
  have B : Hid (Below w.heap.size w W) := by rw [← hW]; exact ext_trans (ext_trans (ext_alloc _ _) (ext_alloc _ _)) (ext_alloc _ _)
  clear hW
  obtain ⟨d0, d1, d2, d3, d4, d5, d6, d7, _, _, _, _, _, _, _, _⟩ := full8 D.out
  go_wp2_with fail
  go_loopw [4, 10] (fun cv iv wr => ∃ k : Nat, k ≤ 8 ∧ iv = .int .i64 k ∧ cv = .int .i64 (lackN m k : Nat) ∧ Hid (wr.heap[w.heap.size + 2]? = some (.cells (fillR m k) 42 (0, 0))) ∧ Hid (wr.heap[w.heap.size + 1]? = some (.cells #[.int .i64 0, .int .i64 0, .int .i64 0, .int .i64 0, .int .i64 0, .int .i64 0, .int .i64 0, .int .i64 0, .int .i64 0, .int .i64 0, .int .i64 0, .int .i64 0, .int .i64 0, .int .i64 0, .int .i64 0, .int .i64 0, .int .i64 0, .int .i64 0] 42 (0, 0))) ∧ Hid (Below w.heap.size w wr)) (fun _ iv _ => 8 - (intOf iv).toNat)
  case atStart => exact ⟨0, by omega, rfl, rfl, F0.out, R.out, B.out⟩
  case round =>
    clear d0 d1 d2 d3 d4 d5 d6 d7 D R B F0
    rename World => w2
    obtain ⟨k, hk, rfl, rfl, F, R, B⟩ := hrel
    by_cases hlt : k < 8
    · have IX := index_dig Try.underlying31 (by kernel_rfl) (by kernel_rfl) m k hlt
      obtain ⟨x, hx⟩ : ∃ x, x = byt m k := ⟨_, rfl⟩
      have xl : x < 256 := by rw [hx]; exact byt_small _ _
      obtain ⟨lo, hlo⟩ : ∃ y, y = nib m (2 * k) := ⟨_, rfl⟩
      obtain ⟨hi, hhi⟩ : ∃ y, y = nib m (2 * k + 1) := ⟨_, rfl⟩
      have elo : (x : Int) % 16 = (lo : Int) := by rw [hlo, nib_even, ← hx]; omega
      have ehi : (x : Int) / 16 = (hi : Int) := by rw [hhi, nib_odd, ← hx]; omega
      have llo : lo < 16 := by rw [hlo]; exact nib_lt _ _
      have lhi : hi < 16 := by rw [hhi]; exact nib_lt _ _
      have hlk : lackN m (k + 1) = lackN m k + (30 - lo - hi) := by rw [hlo, hhi, nib_even, nib_odd]; rfl
      have hle := lackN_le m k
      obtain ⟨L, hL⟩ : ∃ L, L = lackN m k := ⟨_, rfl⟩
      rw [← hL] at hlk hle
      rw [← hL]
      rw [← hx] at IX
      have c1 : w2.cell? ⟨w.heap.size + 2, 2 * k, none⟩ = some (.int .i64 0) := by rw [cell_of_row w2 _ _ _ _ _ F.out]; exact (fillR_at m k hlt).1
      have c2 : w2.cell? ⟨w.heap.size + 2, 2 * k + 1, none⟩ = some (.int .i64 0) := by rw [cell_of_row w2 _ _ _ _ _ F.out]; exact (fillR_at m k hlt).2
      have f1 : w2.frozen? ⟨w.heap.size + 2, 2 * k, none⟩ = false := by simp [World.frozen?, F.out]
      have f2 : w2.frozen? ⟨w.heap.size + 2, 2 * k + 1, none⟩ = false := by simp [World.frozen?, F.out]
      have F2 : Hid (((w2.setCell ⟨w.heap.size + 2, 2 * k, none⟩ (.int .i64 lo)).setCell ⟨w.heap.size + 2, 2 * k + 1, none⟩ (.int .i64 hi)).heap[w.heap.size + 2]? = some (.cells (fillR m (k + 1)) 42 (0, 0))) := by
        show _ = _
        rw [← fillR_on m k hlt, ← hlo, ← hhi]
        exact heap_set_same _ (heap_set_same _ F.out)
      have hltI : (k : Int) < 8 := by omega
      have hkI : (0 : Int) ≤ (k : Int) := by omega
      have HK := Lib.hid hlk
      clear hx hlo hhi hL hlk
      go_wp2_with fail
      exact ⟨⟨k + 1, by omega, by go_num, by rw [HK.out]; congr 1; omega, F2.out, heap_set_other _ (by omega) (heap_set_other _ (by omega) R.out), below_set (below_set B.out (Nat.le_refl _) (by omega)) (Nat.le_refl _) (by omega)⟩, by simp [intOf]; omega⟩
    · obtain rfl : k = 8 := by omega
      have hle := lackN_le m 8
      have FE := Lib.hid (fillR_end m)
      obtain ⟨L, hL⟩ : ∃ L, L = lackN m 8 := ⟨_, rfl⟩
      rw [← hL] at hle FE
      rw [← hL]
      clear hL
      obtain ⟨lo, hlo⟩ : ∃ y, y = L % 16 := ⟨_, rfl⟩
      obtain ⟨hi, hhi⟩ : ∃ y, y = L / 16 := ⟨_, rfl⟩
      rw [← hlo, ← hhi] at FE
      have elo : (L : Int) % 16 = (lo : Int) := by omega
      have ehi : (L : Int) / 16 = (hi : Int) := by omega
      clear hlo hhi
      have c1 : w2.cell? ⟨w.heap.size + 2, 16, none⟩ = some (.int .i64 0) := by rw [cell_of_row w2 _ _ _ _ _ F.out]; rfl
      have c2 : w2.cell? ⟨w.heap.size + 2, 17, none⟩ = some (.int .i64 0) := by rw [cell_of_row w2 _ _ _ _ _ F.out]; rfl
      have f1 : w2.frozen? ⟨w.heap.size + 2, 16, none⟩ = false := by simp [World.frozen?, F.out]
      have f2 : w2.frozen? ⟨w.heap.size + 2, 17, none⟩ = false := by simp [World.frozen?, F.out]
      have F2 : Hid (((w2.setCell ⟨w.heap.size + 2, 16, none⟩ (.int .i64 lo)).setCell ⟨w.heap.size + 2, 17, none⟩ (.int .i64 hi)).heap[w.heap.size + 2]? = some (.cells (digA18 m) 42 (0, 0))) := by
        show _ = _
        rw [← FE.out]
        exact heap_set_same _ (heap_set_same _ F.out)
      have R2 : Hid (((w2.setCell ⟨w.heap.size + 2, 16, none⟩ (.int .i64 lo)).setCell ⟨w.heap.size + 2, 17, none⟩ (.int .i64 hi)).heap[w.heap.size + 1]? = some (.cells #[.int .i64 0, .int .i64 0, .int .i64 0, .int .i64 0, .int .i64 0, .int .i64 0, .int .i64 0, .int .i64 0, .int .i64 0, .int .i64 0, .int .i64 0, .int .i64 0, .int .i64 0, .int .i64 0, .int .i64 0, .int .i64 0, .int .i64 0, .int .i64 0] 42 (0, 0))) := heap_set_other _ (by omega) (heap_set_other _ (by omega) R.out)
      have B2 : Hid (Below w.heap.size w ((w2.setCell ⟨w.heap.size + 2, 16, none⟩ (.int .i64 lo)).setCell ⟨w.heap.size + 2, 17, none⟩ (.int .i64 hi))) := below_set (below_set B.out (Nat.le_refl _) (by omega)) (Nat.le_refl _) (by omega)
      go_upto_region 11 with fail
      generalize (w2.setCell ⟨w.heap.size + 2, 16, none⟩ (.int .i64 lo)).setCell ⟨w.heap.size + 2, 17, none⟩ (.int .i64 hi) = w3 at *
      clear c1 c2 f1 f2 F R B
      obtain ⟨DL, hDL⟩ : ∃ l : List Value, l = (digA18 m).toList := ⟨_, rfl⟩
      have HDV : Hid (digV18 m = .agg DL.toArray) := by rw [hDL]; exact rfl
      have DL18 : DL.length = 18 := by rw [hDL]; rfl
      have ONE : Hid (∀ v ∈ DL, v.oneCell' = true) := by rw [hDL]; intro v hv; simp [digA18] at hv; rcases hv with rfl | rfl | rfl | rfl | rfl | rfl | rfl | rfl | rfl | rfl | rfl | rfl | rfl | rfl | rfl | rfl | rfl | rfl <;> rfl
      have RG : Hid (w3.rangeAt (w.heap.size + 1 + 1) 0 DL) := fun j v hv => by rw [cell_of_row w3 _ _ _ _ _ F2.out, Nat.zero_add, ← Array.getElem?_toList, ← hDL]; exact hv
      have TH : Hid (w3.there (w.heap.size + 1) 0 18) := fun j hj => ⟨by rw [cell_of_row w3 _ _ _ _ _ R2.out, Nat.zero_add]; simp [hj], by simp [World.frozen?, R2.out]⟩
      clear hDL F2
      have hst : ∃ w4, (storeCells ⟨w.heap.size + 1, 0, none⟩ DL).run Try.prog w3 = .ok () w4 ∧ w4.rangeAt (w.heap.size + 1) 0 DL ∧ Below w.heap.size w w4 := by
        refine ⟨_, run_storeCells_cells (P := Try.prog) (w.heap.size + 1) 0 DL 0 w3 (fun j hj => by have := (TH.out j (by omega)).1; simpa using this) (fun j hj => by have := (TH.out j (by omega)).2; simpa using this) ONE.out, ?_, ?_⟩
        · exact World.rangeAt_setCells_same _ _ _ _ (by rw [DL18]; exact TH.out)
        · exact below_setCells (by omega) DL _ _ B2.out
      obtain ⟨w4, hst, R4', B4⟩ := hst
      have R4 := Lib.hid R4'
      have hld : (loadVar 42 ⟨w.heap.size + 1, 0, none⟩).run Try.prog w4 = .ok (.agg DL.toArray) w4 := run_loadVar_mid w4 _ _ _ DL _ R4' Try.underlying42 rfl (by rw [DL18]; kernel_rfl)
      clear R4'
      go_wp2_with (refine wpList_load_mid (op := ⟨some 43, _, _, _, _, _⟩) rfl 42 (.tmp 3) rfl (w.heap.size + 1 + 1) 0 (by rfl) DL _ RG.out Try.underlying42 rfl (by rw [DL18]; kernel_rfl) ?_; go_simp)
      rw [HDV.out]
      refine bodyPost_ret (v := .agg DL.toArray) (by simp only [results, Try.results29]; simp [asAddr, hld]) rfl ⟨rfl, B4⟩
#print axioms reach_c
end Go.Proofs.Ytbhibfdlkahagaa
