/-
  once: digits, chains, keys, as functions of numbers and lists. No program is named here.
-/
import Derived.Test.YtbhibfdlkahagaaHByt0
import Derived.Test.YtbhibfdlkahagaaHMany
import Derived.Test.YtbhibfdlkahagaaHChain
namespace Go.Proofs.Ytbhibfdlkahagaa

/-- a message's digit, of the first sixteen -/
def nib (m c : Nat) : Nat := if c % 2 = 0 then byt m (c / 2) % 16 else byt m (c / 2) / 16
/-- what the digits of so many bytes lack of 15 each -/
def lackN (m : Nat) : Nat → Nat
  | 0 => 0
  | k + 1 => lackN m k + (30 - byt m k % 16 - byt m k / 16)
def dg (m c : Nat) : Nat := if c < 16 then nib m c else if c = 16 then lackN m 8 % 16 else lackN m 8 / 16
theorem byt_small (x i : Nat) : byt x i < 256 := Nat.mod_lt _ (by omega)
theorem lackN_le (m : Nat) : ∀ k, lackN m k ≤ 30 * k
  | 0 => by simp [lackN]
  | k + 1 => by have := lackN_le m k; unfold lackN; omega
theorem nib_lt (m c : Nat) : nib m c < 16 := by
  unfold nib
  have := byt_small m (c / 2)
  split <;> omega
theorem dg_lt (m c : Nat) : dg m c < 16 := by
  unfold dg
  have := nib_lt m c
  have := lackN_le m 8
  split
  · omega
  · split <;> omega
theorem nib_even (m k : Nat) : nib m (2 * k) = byt m k % 16 := by
  unfold nib
  rw [if_pos (by omega), show 2 * k / 2 = k by omega]
theorem nib_odd (m k : Nat) : nib m (2 * k + 1) = byt m k / 16 := by
  unfold nib
  rw [if_neg (by omega), show (2 * k + 1) / 2 = k by omega]
def begN (s c : Nat) : Nat := twoN s c
theorem begN_lt {s c : Nat} (hs : s < 18446744073709551616) (hc : c < 18446744073709551616) : begN s c < 18446744073709551616 := twoN_lt hs hc
/-- what a walk over all chains gives -/
def walkL (g st : Nat → Nat) : List Nat := (List.range 18).map fun c => chainI (g c) (st c)
theorem walkL_len (g st : Nat → Nat) : (walkL g st).length = 18 := by simp [walkL]
theorem walkL_get (g st : Nat → Nat) {c : Nat} (h : c < 18) : (walkL g st).getD c 0 = chainI (g c) (st c) := by simp [walkL, List.getD, h]
theorem walkL_lt {g st : Nat → Nat} (h : ∀ c, c < 18 → g c < 18446744073709551616) : ∀ x ∈ walkL g st, x < 18446744073709551616 := fun x hx => by
  obtain ⟨c, hc, rfl⟩ := List.mem_map.1 hx
  exact chainI_lt (h c (List.mem_range.1 hc)) _
def pubN (s : Nat) : Nat := manyN (walkL (begN s) (fun _ => 15))
def signL (s m : Nat) : List Nat := walkL (begN s) (dg m)
/-- a signature's digest of a chain -/
def partN (sig : List UInt8) (c : Nat) : Nat := num8 ((sig.drop (c * 8)).take 8)
theorem partN_lt (sig : List UInt8) (c : Nat) : partN sig c < 18446744073709551616 := take8_lt _
def toldN (m : Nat) (sig : List UInt8) : Nat := manyN (walkL (partN sig) (fun c => 15 - dg m c))
theorem pubN_lt {s : Nat} (hs : s < 18446744073709551616) : pubN s < 18446744073709551616 := manyN_lt (walkL_lt fun c hc => begN_lt hs (by omega)) (by rw [walkL_len]; omega)
theorem toldN_lt (m : Nat) (sig : List UInt8) : toldN m sig < 18446744073709551616 := manyN_lt (walkL_lt fun c _ => partN_lt sig c) (by rw [walkL_len]; omega)

/-- the digits' cells once so many bytes are told -/
def rc (m k c : Nat) : Value := if c < 2 * k then .int .i64 (nib m c) else .int .i64 0
def fillR (m k : Nat) : Array Value := #[rc m k 0, rc m k 1, rc m k 2, rc m k 3, rc m k 4, rc m k 5, rc m k 6, rc m k 7, rc m k 8, rc m k 9, rc m k 10, rc m k 11, rc m k 12, rc m k 13, rc m k 14, rc m k 15, rc m k 16, rc m k 17]
theorem fillR_on (m : Nat) : ∀ k, k < 8 → ((fillR m k).setIfInBounds (2 * k) (.int .i64 (nib m (2 * k)))).setIfInBounds (2 * k + 1) (.int .i64 (nib m (2 * k + 1))) = fillR m (k + 1)
  | 0, _ => rfl
  | 1, _ => rfl
  | 2, _ => rfl
  | 3, _ => rfl
  | 4, _ => rfl
  | 5, _ => rfl
  | 6, _ => rfl
  | 7, _ => rfl
  | k + 8, h => absurd h (by omega)
theorem fillR_at (m : Nat) : ∀ (k : Nat), k < 8 → (fillR m k)[2 * k]? = some (.int .i64 0) ∧ (fillR m k)[2 * k + 1]? = some (.int .i64 0)
  | 0, _ => ⟨rfl, rfl⟩
  | 1, _ => ⟨rfl, rfl⟩
  | 2, _ => ⟨rfl, rfl⟩
  | 3, _ => ⟨rfl, rfl⟩
  | 4, _ => ⟨rfl, rfl⟩
  | 5, _ => ⟨rfl, rfl⟩
  | 6, _ => ⟨rfl, rfl⟩
  | 7, _ => ⟨rfl, rfl⟩
  | k + 8, h => absurd h (by omega)
def digA18 (m : Nat) : Array Value := #[.int .i64 (dg m 0), .int .i64 (dg m 1), .int .i64 (dg m 2), .int .i64 (dg m 3), .int .i64 (dg m 4), .int .i64 (dg m 5), .int .i64 (dg m 6), .int .i64 (dg m 7), .int .i64 (dg m 8), .int .i64 (dg m 9), .int .i64 (dg m 10), .int .i64 (dg m 11), .int .i64 (dg m 12), .int .i64 (dg m 13), .int .i64 (dg m 14), .int .i64 (dg m 15), .int .i64 (dg m 16), .int .i64 (dg m 17)]
def digV18 (m : Nat) : Value := .agg #[.int .i64 (dg m 0), .int .i64 (dg m 1), .int .i64 (dg m 2), .int .i64 (dg m 3), .int .i64 (dg m 4), .int .i64 (dg m 5), .int .i64 (dg m 6), .int .i64 (dg m 7), .int .i64 (dg m 8), .int .i64 (dg m 9), .int .i64 (dg m 10), .int .i64 (dg m 11), .int .i64 (dg m 12), .int .i64 (dg m 13), .int .i64 (dg m 14), .int .i64 (dg m 15), .int .i64 (dg m 16), .int .i64 (dg m 17)]
theorem fillR_end (m : Nat) : ((fillR m 8).setIfInBounds 16 (.int .i64 ((lackN m 8 % 16 : Nat) : Int))).setIfInBounds 17 (.int .i64 ((lackN m 8 / 16 : Nat) : Int)) = digA18 m := rfl
#print axioms fillR_end
end Go.Proofs.Ytbhibfdlkahagaa
