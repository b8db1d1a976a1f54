/-
  veil: what is reckoned, as functions of numbers and lists. No program is named here.
-/
import Derived.Test.YtdejlahgeckobaaHByt0
namespace Go.Proofs.Ytdejlahgeckobaa

def saltN (k : Nat) (bs : List UInt8) : Nat := twoN (wordN k [115, 97, 108, 116]) (ofN bs)
def chkN (k : Nat) (bs : List UInt8) : Nat := twoN (wordN k [99, 104, 101, 99, 107]) (ofN bs)
def boxN (k c : Nat) : Nat := twoN (wordN k [98, 111, 120]) c
def commitN (k : Nat) (bs : List UInt8) : Nat := if bs.length ≤ 65536 then saltN k bs else 0
theorem saltN_lt {k : Nat} {bs : List UInt8} (hk : k < 18446744073709551616) (hn : bs.length < 18446744073709551616) : saltN k bs < 18446744073709551616 := twoN_lt (wordN_lt hk (by decide)) (ofN_lt hn)
theorem chkN_lt {k : Nat} {bs : List UInt8} (hk : k < 18446744073709551616) (hn : bs.length < 18446744073709551616) : chkN k bs < 18446744073709551616 := twoN_lt (wordN_lt hk (by decide)) (ofN_lt hn)
theorem boxN_lt {k c : Nat} (hk : k < 18446744073709551616) (hc : c < 18446744073709551616) : boxN k c < 18446744073709551616 := twoN_lt (wordN_lt hk (by decide)) hc
theorem commitN_lt {k : Nat} {bs : List UInt8} (hk : k < 18446744073709551616) : commitN k bs < 18446744073709551616 := by
  unfold commitN
  split
  · exact saltN_lt hk (by omega)
  · omega

/-- bytes, each exclusive or with that of the key's stream -/
def veilB (k c : Nat) (bs : List UInt8) : List UInt8 := List.zipWith (fun x y => x ^^^ y) (stream (boxN k c) bs.length) bs
theorem veilB_len (k c : Nat) (bs : List UInt8) : (veilB k c bs).length = bs.length := by
  unfold veilB
  rw [List.length_zipWith, stream_len]
  omega
theorem xor_back (x y : UInt8) : x ^^^ (x ^^^ y) = y := by rw [← UInt8.xor_assoc, UInt8.xor_self, UInt8.zero_xor]
theorem zip_back : ∀ (s b : List UInt8), s.length = b.length → List.zipWith (fun x y => x ^^^ y) s (List.zipWith (fun x y => x ^^^ y) s b) = b
  | [], [], _ => rfl
  | x :: s, y :: b, h => by
    simp only [List.zipWith_cons_cons, xor_back]
    rw [zip_back s b (by simpa using h)]
  | [], y :: b, h => by simp at h
  | x :: s, [], h => by simp at h
theorem veilB_back (k c : Nat) (bs : List UInt8) : veilB k c (veilB k c bs) = bs := by
  unfold veilB
  rw [List.length_zipWith, stream_len, Nat.min_self]
  exact zip_back _ _ (stream_len _ _)
/-- the eight bytes of a digest -/
def dig8 (x : Nat) : List UInt8 := [UInt8.ofNat (byt x 0), UInt8.ofNat (byt x 1), UInt8.ofNat (byt x 2), UInt8.ofNat (byt x 3), UInt8.ofNat (byt x 4), UInt8.ofNat (byt x 5), UInt8.ofNat (byt x 6), UInt8.ofNat (byt x 7)]
def boxB (k : Nat) (bs : List UInt8) : List UInt8 := dig8 (chkN k bs) ++ veilB k (chkN k bs) bs
def openB (k : Nat) (bs : List UInt8) : List UInt8 := veilB k (num8 (bs.take 8)) (bs.drop 8)
def opensB (k : Nat) (bs : List UInt8) : Bool := decide (chkN k (openB k bs) = num8 (bs.take 8))
theorem ofNat_byt (x i : Nat) : (UInt8.ofNat (byt x i)).toNat = byt x i := by
  have := byt_lt x i
  rw [UInt8.toNat_ofNat']
  omega
theorem num8_dig8 {x : Nat} (h : x < 18446744073709551616) : num8 (dig8 x) = x := by
  have e := val8 h
  unfold dig8
  simp only [num8, ofNat_byt]
  omega
theorem dig8_len (x : Nat) : (dig8 x).length = 8 := rfl
theorem boxB_len (k : Nat) (bs : List UInt8) : (boxB k bs).length = bs.length + 8 := by
  unfold boxB
  rw [List.length_append, dig8_len, veilB_len]
  omega
theorem open_box {k : Nat} {bs : List UInt8} (hk : k < 18446744073709551616) (hn : bs.length < 18446744073709551616) : openB k (boxB k bs) = bs ∧ opensB k (boxB k bs) = true := by
  have e1 : (boxB k bs).take 8 = dig8 (chkN k bs) := by
    unfold boxB
    rw [List.take_append_of_le_length (by rw [dig8_len]; omega), List.take_of_length_le (by rw [dig8_len]; omega)]
  have e2 : (boxB k bs).drop 8 = veilB k (chkN k bs) bs := by
    unfold boxB
    rw [List.drop_append_of_le_length (by rw [dig8_len]; omega), List.drop_of_length_le (by rw [dig8_len]; omega), List.nil_append]
  have e3 : openB k (boxB k bs) = bs := by
    unfold openB
    rw [e1, e2, num8_dig8 (chkN_lt hk hn), veilB_back]
  refine ⟨e3, ?_⟩
  unfold opensB
  rw [e3, e1, num8_dig8 (chkN_lt hk hn), decide_eq_true_iff]
#print axioms open_box
end Go.Proofs.Ytdejlahgeckobaa
