/-
  hash: bytes that are taken in: as functions of lists. No program is named here.
-/
import Derived.Test.YtbejjmmopdcjoaaDoorHStrm
namespace Go.Proofs.YtbejjmmopdcjoaaDoor

/-- up to eight bytes as a number, the lowest first -/
def num8 : List UInt8 → Nat
  | [] => 0
  | b :: l => b.toNat + 256 * num8 l
theorem num8_pow : ∀ l : List UInt8, num8 l < 256 ^ l.length
  | [] => by simp [num8]
  | b :: l => by
    have h := num8_pow l
    have hb : b.toNat < 256 := b.toNat_lt
    rw [num8, List.length_cons, Nat.pow_succ]
    omega
theorem num8_lt {l : List UInt8} (h : l.length ≤ 8) : num8 l < 18446744073709551616 :=
  Nat.lt_of_lt_of_le (num8_pow l) (Nat.pow_le_pow_right (n := 256) (by omega) h)
theorem byt_num8 : ∀ (l : List UInt8) (i : Nat), byt (num8 l) i = (l.getD i 0).toNat
  | [], i => by simp [num8, byt]
  | b :: l, 0 => by
    have hb : b.toNat < 256 := b.toNat_lt
    simp only [num8, byt, Nat.pow_zero, Nat.div_one, List.getD_cons_zero]
    omega
  | b :: l, i + 1 => by
    have hb : b.toNat < 256 := b.toNat_lt
    have h := byt_num8 l i
    simp only [num8, byt, List.getD_cons_succ] at *
    rw [← h, Nat.pow_succ, Nat.mul_comm (256 ^ i) 256, ← Nat.div_div_eq_div_mul]
    congr 2
    omega
theorem num8_zeros (l : List UInt8) : ∀ k, num8 (l ++ List.replicate k 0) = num8 l := by
  induction l with
  | nil =>
    intro k
    induction k with
    | zero => rfl
    | succ k ih =>
      have ih' : num8 (List.replicate k 0) = 0 := ih
      show num8 (List.replicate (k + 1) 0) = 0
      rw [List.replicate_succ, num8, ih']
      rfl
  | cons b l ih => intro k; rw [List.cons_append, num8, num8, ih k]

def rest8 (bs : List UInt8) : List UInt8 := bs.drop (8 * (bs.length / 8))
theorem rest8_len (bs : List UInt8) : (rest8 bs).length = bs.length % 8 := by
  unfold rest8
  rw [List.length_drop]
  omega
theorem rest8_lt (bs : List UInt8) : (rest8 bs).length < 8 := by rw [rest8_len]; omega
def eightsN : Nat → St → List UInt8 → St
  | 0, s, _ => s
  | k + 1, s, bs => eightsN k (takeN s (num8 (bs.take 8))) (bs.drop 8)
def eightsS (s : St) (bs : List UInt8) : St := eightsN (bs.length / 8) s bs
theorem take8_lt (bs : List UInt8) : num8 (bs.take 8) < 18446744073709551616 := num8_lt (by rw [List.length_take]; omega)
theorem eightsN_ok : ∀ (k : Nat) {s : St} (bs : List UInt8), s.Ok → (eightsN k s bs).Ok
  | 0, _, _, h => h
  | k + 1, _, bs, h => eightsN_ok k (bs.drop 8) (takeN_ok h (take8_lt bs))
theorem eightsS_on {s : St} {bs : List UInt8} (h : 8 ≤ bs.length) : eightsS s bs = eightsS (takeN s (num8 (bs.take 8))) (bs.drop 8) := by
  unfold eightsS
  rw [List.length_drop, show bs.length / 8 = (bs.length - 8) / 8 + 1 by omega]
  rfl
theorem eightsS_end {s : St} {bs : List UInt8} (h : bs.length < 8) : eightsS s bs = s := by
  unfold eightsS
  rw [show bs.length / 8 = 0 by omega]
  rfl
theorem rest8_on {bs : List UInt8} (h : 8 ≤ bs.length) : rest8 bs = rest8 (bs.drop 8) := by
  unfold rest8
  rw [List.drop_drop, List.length_drop]
  congr 1
  omega
theorem rest8_end {bs : List UInt8} (h : bs.length < 8) : rest8 bs = bs := by
  unfold rest8
  rw [show bs.length / 8 = 0 by omega]
  rfl
/-- the last number: what is left, a one, zeros -/
def lastN (bs : List UInt8) : Nat := num8 (rest8 bs ++ [1])
theorem lastN_lt (bs : List UInt8) : lastN bs < 18446744073709551616 := num8_lt (by have := rest8_lt bs; rw [List.length_append]; simp; omega)
def endS (s : St) (bs : List UInt8) (n : Nat) : St := takeN (takeN s (num8 (bs ++ [1]))) n
def fullS (s : St) (bs : List UInt8) : St := endS (eightsS s bs) (rest8 bs) bs.length
theorem endS_ok {s : St} {bs : List UInt8} {n : Nat} (h : s.Ok) (hb : bs.length < 8) (hn : n < 18446744073709551616) : (endS s bs n).Ok :=
  takeN_ok (takeN_ok h (num8_lt (by rw [List.length_append]; simp; omega))) hn
theorem fullS_ok {s : St} {bs : List UInt8} (h : s.Ok) (hn : bs.length < 18446744073709551616) : (fullS s bs).Ok := endS_ok (eightsN_ok _ _ h) (rest8_lt bs) hn
def ofN (bs : List UInt8) : Nat := outN (fullS (begin 1) bs)
def wordN (d : Nat) (bs : List UInt8) : Nat := outN (fullS (takeN (begin 4) d) bs)
theorem ofN_lt {bs : List UInt8} (hn : bs.length < 18446744073709551616) : ofN bs < 18446744073709551616 := outN_lt (fullS_ok (begin_ok (by omega)) hn)
theorem wordN_lt {d : Nat} {bs : List UInt8} (hd : d < 18446744073709551616) (hn : bs.length < 18446744073709551616) : wordN d bs < 18446744073709551616 := outN_lt (fullS_ok (takeN_ok (begin_ok (by omega)) hd) hn)
#print axioms wordN_lt
end Go.Proofs.YtbejjmmopdcjoaaDoor
