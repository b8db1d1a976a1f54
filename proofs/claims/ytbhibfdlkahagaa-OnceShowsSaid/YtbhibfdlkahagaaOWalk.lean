/-
  once: walk at each of its closures: contracts.
-/
import Derived.Test.YtbhibfdlkahagaaOFill
namespace Go.Proofs.Ytbhibfdlkahagaa
open Go.RowKit

/-- the call hands back eighteen digests, in new memory -/
def Walked (g st : Nat → Nat) (w : World) (e : Ending) (w' : World) : Prop := ∃ b, e = .returned (.slice (some ⟨b, 0, none⟩) 18 18) ∧ RdD w' (some ⟨b, 0, none⟩) 18 18 (walkL g st) ∧ Below w.heap.size w w'
/-- what a closure tells of a chain -/
def Tells (g st : Nat → Nat) (k : Nat) (w : World) (e : Ending) (w' : World) : Prop := e = .returned (.tuple #[digV (g k), .int .i64 (st k : Nat)]) ∧ Below w.heap.size w w'

theorem zero144 : ∀ i, i < 144 → ∃ y : Nat, (Array.replicate 144 (Value.int .u8 0))[i]? = some (.int .u8 y) := fun i hi => ⟨0, by simp [hi]⟩

set_option maxRecDepth 100000 in
set_option maxHeartbeats 4000000 in
theorem walkPub_c (w : World) (g st : Nat → Nat) (hg : Hid (∀ c, c < 18 → g c < 18446744073709551616)) (p : Addr)
    (hf : Hid (∀ v, Below w.heap.size w v → ∀ k : Nat, k < 18 → Calls Try.prog 58 #[.int .i64 k, .pointer (some p)] v (Tells g st k v))) :
    Calls Try.prog 57 #[.func (.func 58) #[] #[.pointer (some p)]] w (Walked g st w) := by
  go_enter Try.func57, Try.ntmps57
  go_wp2_with fail
  go_loopw [7] (fun iv wr => ∃ k : Nat, k ≤ 18 ∧ iv = .int .i64 k ∧ Hid (WalkAt wr 92 w.heap.size (fun c => chainI (g c) (st c)) k) ∧ Hid (Below w.heap.size w wr)) (fun iv _ => 18 - (intOf iv).toNat)
  case atStart => exact ⟨0, by omega, rfl, ⟨_, Go.heap_alloc_new w _, rfl, zero144, fun j hj => absurd hj (by omega)⟩, ext_alloc _ _⟩
  case round =>
    rename World => w2
    obtain ⟨k, hk, rfl, WA, B⟩ := hrel
    by_cases hlt : k < 18
    · have hltI : (k : Int) < 18 := by omega
      have hkI : (0 : Int) ≤ (k : Int) := by omega
      obtain ⟨x, hx⟩ : ∃ x, x = g k := ⟨_, rfl⟩
      obtain ⟨n, hn⟩ : ∃ n, n = st k := ⟨_, rfl⟩
      have Lx : x < 18446744073709551616 := by rw [hx]; exact hg.out k hlt
      obtain ⟨y, hy⟩ : ∃ y, y = chainI x (n : Nat) := ⟨_, rfl⟩
      have HY : Hid (chainI x (n : Nat) = y) := hy.symm
      have HF : Hid (y = chainI (g k) (st k)) := by rw [hy, hx, hn]; exact rfl
      have HXX := Lib.hid hx
      have HN := Lib.hid hn
      clear hx hn hy
      go_wp2_with fail
      refine (hf.out w2 B.out k hlt).mono ?_
      unfold Tells
      rw [← HXX.out, ← HN.out]
      unfold digV
      rintro e w3 ⟨rfl, hb⟩
      have W3 := Lib.hid (WA.out.ext hb)
      replace B := Lib.hid (ext_trans B.out hb)
      clear hb WA
      go_wp2_with fail
      rw [← show digV x = .agg #[.int .u8 (byt x 0), .int .u8 (byt x 1), .int .u8 (byt x 2), .int .u8 (byt x 3), .int .u8 (byt x 4), .int .u8 (byt x 5), .int .u8 (byt x 6), .int .u8 (byt x 7)] from rfl]
      refine (chain_c _ x Lx (n : Nat)).mono ?_
      rw [HY.out]
      unfold digV
      rintro e w4 ⟨rfl, hb⟩
      have W4 := Lib.hid (W3.out.ext (ext_trans (ext_alloc _ _) hb))
      replace B := Lib.hid (ext_trans B.out (ext_trans (ext_alloc _ _) hb))
      clear hb W3
      obtain ⟨y0, c0⟩ := W4.out.cell (i := k * 8) (by omega)
      obtain ⟨y1, c1⟩ := W4.out.cell (i := k * 8 + 1) (by omega)
      obtain ⟨y2, c2⟩ := W4.out.cell (i := k * 8 + 2) (by omega)
      obtain ⟨y3, c3⟩ := W4.out.cell (i := k * 8 + 3) (by omega)
      obtain ⟨y4, c4⟩ := W4.out.cell (i := k * 8 + 4) (by omega)
      obtain ⟨y5, c5⟩ := W4.out.cell (i := k * 8 + 5) (by omega)
      obtain ⟨y6, c6⟩ := W4.out.cell (i := k * 8 + 6) (by omega)
      obtain ⟨y7, c7⟩ := W4.out.cell (i := k * 8 + 7) (by omega)
      have fr := W4.out.free
      go_wp2_with fail
      exact ⟨⟨k + 1, by omega, by go_num, W4.out.on hlt y HF.out, below_set8 B.out (Nat.le_refl _) (Nat.le_refl _)⟩, by simp [intOf]; omega⟩
    · obtain rfl : k = 18 := by omega
      go_wp2_with fail
      go_ret
      exact ⟨_, rfl, WA.out.rd hg.out, B.out⟩
#print axioms walkPub_c

set_option maxRecDepth 100000 in
set_option maxHeartbeats 4000000 in
theorem walkSign_c (w : World) (g st : Nat → Nat) (hg : Hid (∀ c, c < 18 → g c < 18446744073709551616)) (p q : Addr)
    (hf : Hid (∀ v, Below w.heap.size w v → ∀ k : Nat, k < 18 → Calls Try.prog 64 #[.int .i64 k, .pointer (some p), .pointer (some q)] v (Tells g st k v))) :
    Calls Try.prog 57 #[.func (.func 64) #[] #[.pointer (some p), .pointer (some q)]] w (Walked g st w) := by
  go_enter Try.func57, Try.ntmps57
  go_wp2_with fail
  go_loopw [7] (fun iv wr => ∃ k : Nat, k ≤ 18 ∧ iv = .int .i64 k ∧ Hid (WalkAt wr 92 w.heap.size (fun c => chainI (g c) (st c)) k) ∧ Hid (Below w.heap.size w wr)) (fun iv _ => 18 - (intOf iv).toNat)
  case atStart => exact ⟨0, by omega, rfl, ⟨_, Go.heap_alloc_new w _, rfl, zero144, fun j hj => absurd hj (by omega)⟩, ext_alloc _ _⟩
  case round =>
    rename World => w2
    obtain ⟨k, hk, rfl, WA, B⟩ := hrel
    by_cases hlt : k < 18
    · have hltI : (k : Int) < 18 := by omega
      have hkI : (0 : Int) ≤ (k : Int) := by omega
      obtain ⟨x, hx⟩ : ∃ x, x = g k := ⟨_, rfl⟩
      obtain ⟨n, hn⟩ : ∃ n, n = st k := ⟨_, rfl⟩
      have Lx : x < 18446744073709551616 := by rw [hx]; exact hg.out k hlt
      obtain ⟨y, hy⟩ : ∃ y, y = chainI x (n : Nat) := ⟨_, rfl⟩
      have HY : Hid (chainI x (n : Nat) = y) := hy.symm
      have HF : Hid (y = chainI (g k) (st k)) := by rw [hy, hx, hn]; exact rfl
      have HXX := Lib.hid hx
      have HN := Lib.hid hn
      clear hx hn hy
      go_wp2_with fail
      refine (hf.out w2 B.out k hlt).mono ?_
      unfold Tells
      rw [← HXX.out, ← HN.out]
      unfold digV
      rintro e w3 ⟨rfl, hb⟩
      have W3 := Lib.hid (WA.out.ext hb)
      replace B := Lib.hid (ext_trans B.out hb)
      clear hb WA
      go_wp2_with fail
      rw [← show digV x = .agg #[.int .u8 (byt x 0), .int .u8 (byt x 1), .int .u8 (byt x 2), .int .u8 (byt x 3), .int .u8 (byt x 4), .int .u8 (byt x 5), .int .u8 (byt x 6), .int .u8 (byt x 7)] from rfl]
      refine (chain_c _ x Lx (n : Nat)).mono ?_
      rw [HY.out]
      unfold digV
      rintro e w4 ⟨rfl, hb⟩
      have W4 := Lib.hid (W3.out.ext (ext_trans (ext_alloc _ _) hb))
      replace B := Lib.hid (ext_trans B.out (ext_trans (ext_alloc _ _) hb))
      clear hb W3
      obtain ⟨y0, c0⟩ := W4.out.cell (i := k * 8) (by omega)
      obtain ⟨y1, c1⟩ := W4.out.cell (i := k * 8 + 1) (by omega)
      obtain ⟨y2, c2⟩ := W4.out.cell (i := k * 8 + 2) (by omega)
      obtain ⟨y3, c3⟩ := W4.out.cell (i := k * 8 + 3) (by omega)
      obtain ⟨y4, c4⟩ := W4.out.cell (i := k * 8 + 4) (by omega)
      obtain ⟨y5, c5⟩ := W4.out.cell (i := k * 8 + 5) (by omega)
      obtain ⟨y6, c6⟩ := W4.out.cell (i := k * 8 + 6) (by omega)
      obtain ⟨y7, c7⟩ := W4.out.cell (i := k * 8 + 7) (by omega)
      have fr := W4.out.free
      go_wp2_with fail
      exact ⟨⟨k + 1, by omega, by go_num, W4.out.on hlt y HF.out, below_set8 B.out (Nat.le_refl _) (Nat.le_refl _)⟩, by simp [intOf]; omega⟩
    · obtain rfl : k = 18 := by omega
      go_wp2_with fail
      go_ret
      exact ⟨_, rfl, WA.out.rd hg.out, B.out⟩
#print axioms walkSign_c

set_option maxRecDepth 100000 in
set_option maxHeartbeats 4000000 in
theorem walkTold_c (w : World) (g st : Nat → Nat) (hg : Hid (∀ c, c < 18 → g c < 18446744073709551616)) (p q : Addr)
    (hf : Hid (∀ v, Below w.heap.size w v → ∀ k : Nat, k < 18 → Calls Try.prog 65 #[.int .i64 k, .pointer (some p), .pointer (some q)] v (Tells g st k v))) :
    Calls Try.prog 57 #[.func (.func 65) #[] #[.pointer (some p), .pointer (some q)]] w (Walked g st w) := by
  go_enter Try.func57, Try.ntmps57
  go_wp2_with fail
  go_loopw [7] (fun iv wr => ∃ k : Nat, k ≤ 18 ∧ iv = .int .i64 k ∧ Hid (WalkAt wr 92 w.heap.size (fun c => chainI (g c) (st c)) k) ∧ Hid (Below w.heap.size w wr)) (fun iv _ => 18 - (intOf iv).toNat)
  case atStart => exact ⟨0, by omega, rfl, ⟨_, Go.heap_alloc_new w _, rfl, zero144, fun j hj => absurd hj (by omega)⟩, ext_alloc _ _⟩
  case round =>
    rename World => w2
    obtain ⟨k, hk, rfl, WA, B⟩ := hrel
    by_cases hlt : k < 18
    · have hltI : (k : Int) < 18 := by omega
      have hkI : (0 : Int) ≤ (k : Int) := by omega
      obtain ⟨x, hx⟩ : ∃ x, x = g k := ⟨_, rfl⟩
      obtain ⟨n, hn⟩ : ∃ n, n = st k := ⟨_, rfl⟩
      have Lx : x < 18446744073709551616 := by rw [hx]; exact hg.out k hlt
      obtain ⟨y, hy⟩ : ∃ y, y = chainI x (n : Nat) := ⟨_, rfl⟩
      have HY : Hid (chainI x (n : Nat) = y) := hy.symm
      have HF : Hid (y = chainI (g k) (st k)) := by rw [hy, hx, hn]; exact rfl
      have HXX := Lib.hid hx
      have HN := Lib.hid hn
      clear hx hn hy
      go_wp2_with fail
      refine (hf.out w2 B.out k hlt).mono ?_
      unfold Tells
      rw [← HXX.out, ← HN.out]
      unfold digV
      rintro e w3 ⟨rfl, hb⟩
      have W3 := Lib.hid (WA.out.ext hb)
      replace B := Lib.hid (ext_trans B.out hb)
      clear hb WA
      go_wp2_with fail
      rw [← show digV x = .agg #[.int .u8 (byt x 0), .int .u8 (byt x 1), .int .u8 (byt x 2), .int .u8 (byt x 3), .int .u8 (byt x 4), .int .u8 (byt x 5), .int .u8 (byt x 6), .int .u8 (byt x 7)] from rfl]
      refine (chain_c _ x Lx (n : Nat)).mono ?_
      rw [HY.out]
      unfold digV
      rintro e w4 ⟨rfl, hb⟩
      have W4 := Lib.hid (W3.out.ext (ext_trans (ext_alloc _ _) hb))
      replace B := Lib.hid (ext_trans B.out (ext_trans (ext_alloc _ _) hb))
      clear hb W3
      obtain ⟨y0, c0⟩ := W4.out.cell (i := k * 8) (by omega)
      obtain ⟨y1, c1⟩ := W4.out.cell (i := k * 8 + 1) (by omega)
      obtain ⟨y2, c2⟩ := W4.out.cell (i := k * 8 + 2) (by omega)
      obtain ⟨y3, c3⟩ := W4.out.cell (i := k * 8 + 3) (by omega)
      obtain ⟨y4, c4⟩ := W4.out.cell (i := k * 8 + 4) (by omega)
      obtain ⟨y5, c5⟩ := W4.out.cell (i := k * 8 + 5) (by omega)
      obtain ⟨y6, c6⟩ := W4.out.cell (i := k * 8 + 6) (by omega)
      obtain ⟨y7, c7⟩ := W4.out.cell (i := k * 8 + 7) (by omega)
      have fr := W4.out.free
      go_wp2_with fail
      exact ⟨⟨k + 1, by omega, by go_num, W4.out.on hlt y HF.out, below_set8 B.out (Nat.le_refl _) (Nat.le_refl _)⟩, by simp [intOf]; omega⟩
    · obtain rfl : k = 18 := by omega
      go_wp2_with fail
      go_ret
      exact ⟨_, rfl, WA.out.rd hg.out, B.out⟩
#print axioms walkTold_c

end Go.Proofs.Ytbhibfdlkahagaa
