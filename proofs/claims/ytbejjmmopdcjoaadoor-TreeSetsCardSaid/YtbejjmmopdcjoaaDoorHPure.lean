/-
  hash: a state's stirring, a digest's number: as functions of numbers. No program is named here.
-/
import Derived.Test.YtbejjmmopdcjoaaDoorHRot
namespace Go.Proofs.YtbejjmmopdcjoaaDoor

/-- four words -/
structure St where
  a : Nat
  b : Nat
  c : Nat
  d : Nat
structure St.Ok (s : St) : Prop where
  a : s.a < 18446744073709551616
  b : s.b < 18446744073709551616
  c : s.c < 18446744073709551616
  d : s.d < 18446744073709551616
def add64 (x y : Nat) : Nat := (x + y) % 18446744073709551616
theorem add64_lt (x y : Nat) : add64 x y < 18446744073709551616 := by unfold add64; omega
theorem xor64_lt {x y : Nat} (hx : x < 18446744073709551616) (hy : y < 18446744073709551616) : x ^^^ y < 18446744073709551616 := Nat.xor_lt_two_pow (n := 64) hx hy
theorem add64_wrap (x y : Nat) : IntKind.u64.wrap ((x : Int) + (y : Int)) = ((add64 x y : Nat) : Int) := by
  rw [IntKind.wrap_u64]; unfold add64; omega

def half1 (r : Nat) (s : St) : St :=
  let a1 := add64 s.a s.b ^^^ r
  let d1 := rotl 4294967296 4294967296 (s.d ^^^ a1)
  let c1 := add64 s.c d1
  let b1 := rotl 16777216 1099511627776 (s.b ^^^ c1)
  ⟨a1, b1, c1, d1⟩
def half2 (s : St) : St :=
  let a2 := add64 s.a s.b
  let d2 := rotl 65536 281474976710656 (s.d ^^^ a2)
  let c2 := add64 s.c d2
  let b2 := rotl 9223372036854775808 2 (s.b ^^^ c2)
  ⟨a2, b2, c2, d2⟩
def rnd (r : Nat) (s : St) : St := half2 (half1 r s)
def rnds : Nat → St → St
  | 0, s => s
  | k + 1, s => rnd (k + 1) (rnds k s)
def stir (s : St) : St := rnds 6 s

theorem half1_ok {r : Nat} {s : St} (hr : r < 18446744073709551616) (h : s.Ok) : (half1 r s).Ok := by
  have h1 : add64 s.a s.b ^^^ r < 18446744073709551616 := xor64_lt (add64_lt _ _) hr
  have h2 := rotl_lt (p := 4294967296) (q := 4294967296) (xor64_lt h.d h1)
  exact ⟨h1, rotl_lt (xor64_lt h.b (add64_lt _ _)), add64_lt _ _, h2⟩
theorem half2_ok {s : St} (h : s.Ok) : (half2 s).Ok :=
  ⟨add64_lt _ _, rotl_lt (xor64_lt h.b (add64_lt _ _)), add64_lt _ _, rotl_lt (xor64_lt h.d (add64_lt _ _))⟩
theorem rnds_ok {s : St} (h : s.Ok) : ∀ (k : Nat), k < 18446744073709551615 → (rnds k s).Ok
  | 0, _ => h
  | k + 1, hk => half2_ok (half1_ok (by omega) (rnds_ok h k (by omega)))
theorem stir_ok {s : St} (h : s.Ok) : (stir s).Ok := rnds_ok h 6 (by omega)
end Go.Proofs.YtbejjmmopdcjoaaDoor
