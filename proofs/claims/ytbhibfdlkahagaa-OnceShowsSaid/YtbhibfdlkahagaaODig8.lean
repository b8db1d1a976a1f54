/-
  once: a digest's eight bytes; a signature's bytes, as functions. No program is named here.
-/
import Derived.Test.YtbhibfdlkahagaaOPure
import Derived.Test.YtbhibfdlkahagaaHTake
namespace Go.Proofs.Ytbhibfdlkahagaa
open Go.RowKit

/-- the eight bytes of a digest -/
def dig8 (x : Nat) : List UInt8 := [UInt8.ofNat (byt x 0), UInt8.ofNat (byt x 1), UInt8.ofNat (byt x 2), UInt8.ofNat (byt x 3), UInt8.ofNat (byt x 4), UInt8.ofNat (byt x 5), UInt8.ofNat (byt x 6), UInt8.ofNat (byt x 7)]
theorem ofNat_byt (x i : Nat) : (UInt8.ofNat (byt x i)).toNat = byt x i := by
  have := byt_small x i
  rw [UInt8.toNat_ofNat']
  omega
theorem num8_dig8 {x : Nat} (h : x < 18446744073709551616) : num8 (dig8 x) = x := by
  have e := val8 h
  unfold dig8
  simp only [num8, ofNat_byt]
  omega
theorem dig8_len (x : Nat) : (dig8 x).length = 8 := rfl
theorem dig8_cells (x : Nat) : (#[.int .u8 (byt x 0), .int .u8 (byt x 1), .int .u8 (byt x 2), .int .u8 (byt x 3), .int .u8 (byt x 4), .int .u8 (byt x 5), .int .u8 (byt x 6), .int .u8 (byt x 7)] : Array Value).toList = U8 (dig8 x) := by
  unfold dig8 U8
  simp only [List.map_cons, List.map_nil, ofNat_byt]
theorem Rd.ofDig {w : World} {b : Nat} {T : TypeId} {x : Nat} (h : w.heap[b]? = some (.cells #[.int .u8 (byt x 0), .int .u8 (byt x 1), .int .u8 (byt x 2), .int .u8 (byt x 3), .int .u8 (byt x 4), .int .u8 (byt x 5), .int .u8 (byt x 6), .int .u8 (byt x 7)] T (0, 0))) : Rd w (some ⟨b, 0, none⟩) 8 8 (dig8 x) :=
  ⟨rfl, Nat.le_refl _, by omega, fun _ => ⟨b, 0, rfl, (Array.getElem?_eq_some_iff.1 h).1, fun j hj => by
    rw [cell_of_row w b (0 + j) _ T (0, 0) h, Nat.zero_add, ← Array.getElem?_toList, dig8_cells]
    exact U8_getD (by rw [dig8_len]; exact hj)⟩, fun e => by cases e⟩
def bytesL (l : List Nat) : List UInt8 := l.flatMap dig8
theorem bytesL_len : ∀ l : List Nat, (bytesL l).length = 8 * l.length
  | [] => rfl
  | x :: l => by
    show (dig8 x ++ bytesL l).length = _
    rw [List.length_append, dig8_len, bytesL_len l, List.length_cons]
    omega
theorem bytesL_take (l : List Nat) (k : Nat) (h : k < l.length) : bytesL (l.take (k + 1)) = bytesL (l.take k) ++ dig8 (l.getD k 0) := by
  unfold bytesL
  rw [List.take_add_one, List.flatMap_append]
  have e : l[k]? = some (l.getD k 0) := by simp [List.getD, h]
  rw [e]
  simp
theorem part_bytes : ∀ (l : List Nat) (c : Nat), c < l.length → ((bytesL l).drop (c * 8)).take 8 = dig8 (l.getD c 0)
  | [], c, h => by simp at h
  | x :: l, 0, _ => by
    show ((dig8 x ++ bytesL l).drop 0).take 8 = _
    rw [List.drop_zero, List.take_append_of_le_length (by rw [dig8_len]; omega), List.take_of_length_le (by rw [dig8_len]; omega)]
    rfl
  | x :: l, c + 1, h => by
    show ((dig8 x ++ bytesL l).drop ((c + 1) * 8)).take 8 = _
    rw [show (c + 1) * 8 = 8 + c * 8 by omega, ← List.drop_drop, List.drop_append_of_le_length (by rw [dig8_len]; omega), List.drop_of_length_le (l := dig8 x) (by rw [dig8_len]; omega), List.nil_append, part_bytes l c (by simpa using h)]
    rfl
def signB (s m : Nat) : List UInt8 := bytesL (signL s m)
theorem signB_len (s m : Nat) : (signB s m).length = 144 := by unfold signB signL; rw [bytesL_len, walkL_len]
theorem chainN_more (n a : Nat) : ∀ b, chainN (chainN n a) b = chainN n (a + b)
  | 0 => rfl
  | b + 1 => by
    show oneN (chainN (chainN n a) b) = oneN (chainN n (a + b))
    rw [chainN_more n a b]
theorem chainI_small (n k : Nat) (h : k ≤ 1048576) : chainI n (k : Int) = chainN n k := by
  unfold chainI
  by_cases h1 : 1 ≤ (k : Int)
  · rw [if_pos ⟨h1, by omega⟩, Int.toNat_natCast]
  · obtain rfl : k = 0 := by omega
    rw [if_neg (by omega)]
    rfl
theorem sign_part {s m c : Nat} (hs : s < 18446744073709551616) (hc : c < 18) : partN (signB s m) c = chainI (begN s c) (dg m c) := by
  unfold partN signB
  rw [part_bytes _ _ (by unfold signL; rw [walkL_len]; exact hc)]
  unfold signL
  rw [walkL_get _ _ hc, num8_dig8 (chainI_lt (begN_lt hs (by omega)) _)]
/-- what a secret signs tells its key -/
theorem told_sign {s m : Nat} (hs : s < 18446744073709551616) : toldN m (signB s m) = pubN s := by
  unfold toldN pubN walkL
  congr 1
  apply List.map_congr_left
  intro c hc
  have hc18 := List.mem_range.1 hc
  have hd := dg_lt m c
  show chainI (partN (signB s m) c) ((15 - dg m c : Nat) : Int) = chainI (begN s c) ((15 : Nat) : Int)
  rw [sign_part hs hc18, chainI_small _ _ (by omega), chainI_small _ _ (by omega), chainN_more]
  have e : dg m c + (15 - dg m c) = 15 := by omega
  rw [e]
  exact (chainI_small _ 15 (by omega)).symm
#print axioms told_sign
end Go.Proofs.Ytbhibfdlkahagaa
