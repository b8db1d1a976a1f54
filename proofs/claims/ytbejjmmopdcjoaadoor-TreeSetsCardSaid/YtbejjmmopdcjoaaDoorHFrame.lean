/-
  A digest that came in as a law's argument.
-/
import Derived.Test.YtbejjmmopdcjoaaDoorFrame
import Derived.Test.YtbejjmmopdcjoaaDoorHNum
namespace Go.Proofs.YtbejjmmopdcjoaaDoor
open Go.ChangeShapes Go.WideShapes Go.ChangeAt Go.RowKit

section
variable {H : Type} {enc : TypeId × Value → H}

theorem dd2 (q : Int) : q / 65536 = q / 256 / 256 := by omega
theorem dd3 (q : Int) : q / 16777216 = q / 65536 / 256 := by omega
theorem dd4 (q : Int) : q / 4294967296 = q / 16777216 / 256 := by omega
theorem dd5 (q : Int) : q / 1099511627776 = q / 4294967296 / 256 := by omega
theorem dd6 (q : Int) : q / 281474976710656 = q / 1099511627776 / 256 := by omega
theorem dd7 (q : Int) : q / 72057594037927936 = q / 281474976710656 / 256 := by omega
theorem dig_of {b0 b1 b2 b3 b4 b5 b6 b7 : Int} (l0 : 0 ≤ b0 ∧ b0 < 256) (l1 : 0 ≤ b1 ∧ b1 < 256) (l2 : 0 ≤ b2 ∧ b2 < 256) (l3 : 0 ≤ b3 ∧ b3 < 256) (l4 : 0 ≤ b4 ∧ b4 < 256) (l5 : 0 ≤ b5 ∧ b5 < 256) (l6 : 0 ≤ b6 ∧ b6 < 256) (l7 : 0 ≤ b7 ∧ b7 < 256) :
    ∃ n : Nat, (Value.agg #[.int .u8 b0, .int .u8 b1, .int .u8 b2, .int .u8 b3, .int .u8 b4, .int .u8 b5, .int .u8 b6, .int .u8 b7]) = digV n ∧ n < 18446744073709551616 := by
  obtain ⟨q7, h7⟩ : ∃ q, q = b7 := ⟨_, rfl⟩
  obtain ⟨q6, h6⟩ : ∃ q, q = b6 + 256 * q7 := ⟨_, rfl⟩
  obtain ⟨q5, h5⟩ : ∃ q, q = b5 + 256 * q6 := ⟨_, rfl⟩
  obtain ⟨q4, h4⟩ : ∃ q, q = b4 + 256 * q5 := ⟨_, rfl⟩
  obtain ⟨q3, h3⟩ : ∃ q, q = b3 + 256 * q4 := ⟨_, rfl⟩
  obtain ⟨q2, h2⟩ : ∃ q, q = b2 + 256 * q3 := ⟨_, rfl⟩
  obtain ⟨q1, h1⟩ : ∃ q, q = b1 + 256 * q2 := ⟨_, rfl⟩
  obtain ⟨q0, h0⟩ : ∃ q, q = b0 + 256 * q1 := ⟨_, rfl⟩
  have r7 : 0 ≤ q7 ∧ q7 < 256 := by omega
  have r6 : 0 ≤ q6 ∧ q6 < 65536 := by omega
  have r5 : 0 ≤ q5 ∧ q5 < 16777216 := by omega
  have r4 : 0 ≤ q4 ∧ q4 < 4294967296 := by omega
  have r3 : 0 ≤ q3 ∧ q3 < 1099511627776 := by omega
  have r2 : 0 ≤ q2 ∧ q2 < 281474976710656 := by omega
  have r1 : 0 ≤ q1 ∧ q1 < 72057594037927936 := by omega
  have r0 : 0 ≤ q0 ∧ q0 < 18446744073709551616 := by omega
  refine ⟨q0.toNat, ?_, by omega⟩
  obtain ⟨n, hn⟩ : ∃ n, n = q0.toNat := ⟨_, rfl⟩
  have hq : (n : Int) = q0 := by omega
  rw [← hn]
  obtain ⟨e0, e1, e2, e3, e4, e5, e6, e7⟩ := byt_eq n
  unfold digV
  have d1 : q0 / 256 = q1 := by omega
  have d2 : q1 / 256 = q2 := by omega
  have d3 : q2 / 256 = q3 := by omega
  have d4 : q3 / 256 = q4 := by omega
  have d5 : q4 / 256 = q5 := by omega
  have d6 : q5 / 256 = q6 := by omega
  have d7 : q6 / 256 = q7 := by omega
  have f2 : q0 / 65536 = q2 := by rw [← d2, ← d1]; exact dd2 q0
  have f3 : q0 / 16777216 = q3 := by rw [← d3, ← f2]; exact dd3 q0
  have f4 : q0 / 4294967296 = q4 := by rw [← d4, ← f3]; exact dd4 q0
  have f5 : q0 / 1099511627776 = q5 := by rw [← d5, ← f4]; exact dd5 q0
  have f6 : q0 / 281474976710656 = q6 := by rw [← d6, ← f5]; exact dd6 q0
  have f7 : q0 / 72057594037927936 = q7 := by rw [← d7, ← f6]; exact dd7 q0
  rw [e0, e1, e2, e3, e4, e5, e6, e7, hq, d1, f2, f3, f4, f5, f6, f7]
  rw [show q0 % 256 = b0 by omega, show q1 % 256 = b1 by omega, show q2 % 256 = b2 by omega, show q3 % 256 = b3 by omega, show q4 % 256 = b4 by omega, show q5 % 256 = b5 by omega, show q6 % 256 = b6 by omega, show q7 % 256 = b7 by omega]

set_option maxRecDepth 100000 in
theorem open_dig {t e : TypeId} (ht : Tryd.prog.underlying t = some (.array 8 e)) (he : Tryd.prog.underlying e = some (.int .u8)) (hce : Tryd.prog.cellsOf e = 1) (hct : Tryd.prog.cellsOf t = 8) {W : World} {base : Nat} {v : Value} {d : DataW H} {p : List MemPlace}
    (hv : Value.okWide Tryd.prog W .any base t v) (h : DataW.Trod enc Tryd.prog W 0 (fun _ => true) true t v d p) : ∃ n : Nat, v = digV n ∧ n < 18446744073709551616 := by
  simp only [Value.okWide, ht] at hv
  obtain ⟨cs, rfl, h2, _⟩ := hv
  obtain ⟨fuel, hf⟩ := h
  obtain ⟨xs, m, _, _, hl, hx, hi⟩ := DataW.trod_array ht hf
  obtain ⟨l⟩ := cs
  rw [hct] at h2
  have hl8 : l.length = 8 := by simpa using h2
  have key : ∀ i, i < 8 → ∃ b : Int, l[i]? = some (.int .u8 b) ∧ 0 ≤ b ∧ b < 256 := fun i hi8 => by
    have h1 := hi i hi8
    rw [hce] at h1
    have hsome : xs[i]? = some (xs[i]'(by omega)) := List.getElem?_eq_getElem (by omega)
    rw [hsome] at h1
    obtain ⟨b, hb, _, hw⟩ := DataW.trod_int he h1
    simp [Lit.wf, IntKind.min, IntKind.max, IntKind.signed, IntKind.bits] at hw
    refine ⟨b, ?_, by omega, by omega⟩
    have e1 : ((Value.agg { toList := l }).cells.toList.drop (i * 1)).take 1 = [l[i]'(by omega)] := by
      rw [Nat.mul_one]
      show (l.drop i).take 1 = _
      rw [List.drop_eq_getElem_cons (by omega)]
      rfl
    rw [e1] at hb
    injection hb with hb
    rw [List.getElem?_eq_getElem (by omega), hb]
  match l, hl8, key with
  | [c0, c1, c2, c3, c4, c5, c6, c7], _, key =>
    obtain ⟨b0, g0, l0⟩ := key 0 (by omega)
    obtain ⟨b1, g1, l1⟩ := key 1 (by omega)
    obtain ⟨b2, g2, l2⟩ := key 2 (by omega)
    obtain ⟨b3, g3, l3⟩ := key 3 (by omega)
    obtain ⟨b4, g4, l4⟩ := key 4 (by omega)
    obtain ⟨b5, g5, l5⟩ := key 5 (by omega)
    obtain ⟨b6, g6, l6⟩ := key 6 (by omega)
    obtain ⟨b7, g7, l7⟩ := key 7 (by omega)
    obtain rfl : c0 = .int .u8 b0 := Option.some.inj g0
    obtain rfl : c1 = .int .u8 b1 := Option.some.inj g1
    obtain rfl : c2 = .int .u8 b2 := Option.some.inj g2
    obtain rfl : c3 = .int .u8 b3 := Option.some.inj g3
    obtain rfl : c4 = .int .u8 b4 := Option.some.inj g4
    obtain rfl : c5 = .int .u8 b5 := Option.some.inj g5
    obtain rfl : c6 = .int .u8 b6 := Option.some.inj g6
    obtain rfl : c7 = .int .u8 b7 := Option.some.inj g7
    exact dig_of l0 l1 l2 l3 l4 l5 l6 l7
end
#print axioms open_dig
end Go.Proofs.YtbejjmmopdcjoaaDoor
