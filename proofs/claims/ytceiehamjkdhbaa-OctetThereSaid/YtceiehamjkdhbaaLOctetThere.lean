/-
  'OctetThere' of baizelaw01, for every input: the call returns true, and each argument reads afterwards as before. No condition.
-/
import Derived.Test.YtceiehamjkdhbaaWOctetThere
import Derived.Test.YtceiehamjkdhbaaFrame
namespace Go.Proofs.Ytceiehamjkdhbaa.octetThere
open Go.ChangeShapes Go.WideShapes Go.ChangeAt Go.RowKit
open Go.ChangeMaps (open_string shut_string)

set_option maxRecDepth 100000 in
theorem lifted (os : Os) (started : os.Started) (H : Type) (enc : TypeId × Value → H) :
    ReturnsInHanded {} Try.checked os 6 .any (Rows.octetThereSpec.pre6 enc Try.prog Try.f6 Rows.octetThereRow.domain false) (Rows.octetThereSpec.post enc Try.prog Try.f6 false true false false) := by
  refine returnsInHanded_of_change (C := Try.checked) own started (by kernel_rfl) Try.func6
    (ChangeSpec.witness6 (enc := enc) (C := Try.checked) false ⟨#[], #[.slice none 0 0, .slice none 0 0, .slice none 0 0], []⟩ 8 (by kernel_rfl) (by kernel_rfl) (by kernel_rfl) (by kernel_rfl)) ?_
  intro W base args ds gs before hval0 hW _ _
  have hval : ∀ (j : Nat) t v, Try.f6.params[j]? = some t → args[j]? = some v → Value.okWide Try.prog W .any base t v := hval0
  refine law_contract (fn := Try.f6) (spec := Rows.octetThereSpec) rfl Try.underlying4 rfl (fun ds hds => ?_) (by kernel_rfl) hW ?_
  · match ds, hds with
    | [d0, d1, d2], _ => exact ⟨rfl, rfl, rfl⟩
  · obtain ⟨p, q, hA0, _, _, _, _⟩ := hW
    have hA : DataW.TrodAll enc Try.prog W 0 (fun _ => true) true Try.f6.params.toList args.toList ds p := hA0
    rw [Try.params6] at hA hval
    obtain ⟨v0, vs0, d0, ds0, p0, q0, hargs, rfl, rfl, h0, r0⟩ := trodAll_cons hA
    obtain ⟨v1, vs1, d1, ds1, p1, q1, rfl, rfl, rfl, h1, r1⟩ := trodAll_cons r0
    obtain ⟨v2, vs2, d2, ds2, p2, q2, rfl, rfl, rfl, h2, r2⟩ := trodAll_cons r1
    obtain ⟨rfl, rfl, rfl⟩ := trodAll_nil r2
    obtain rfl : args = #[v0, v1, v2] := by cases args; simp_all
    obtain ⟨a0, n0, c0, b0, rfl, w0, u0⟩ := open_u64s Try.underlying56 Try.underlying23 (by kernel_rfl) (hval 0 56 _ rfl rfl) h0
    obtain ⟨a1, n1, c1, b1, rfl, w1, u1⟩ := open_i64s Try.underlying57 Try.underlying2 (by kernel_rfl) (hval 1 57 _ rfl rfl) h1
    obtain ⟨a2, n2, c2, b2, rfl, w2, u2⟩ := open_texts Try.underlying58 Try.underlying9 (by kernel_rfl) (hval 2 58 _ rfl rfl) h2
    exact walkOctetThere W a0 n0 c0 b0 a1 n1 c1 b1 a2 n2 c2 b2 w0 u0 w1 u1 w2 u2

theorem over : Rows.octetThereRow.holds Try.pinned (OpenSpec.ofChange Rows.octetThereSpec) :=
  OpenClaim.holds_of_wide 6 Try.f6 rfl rfl rfl rfl rfl rfl rfl ⟨rfl, rfl, rfl, rfl, rfl⟩ rfl rfl rfl rfl rfl (by kernel_rfl) Try.func6 (by kernel_rfl)
    (of_decide_eq_true (by kernel_rfl)) (by unfold Func.isWrapper; first | (rw [if_pos (by decide +kernel)]; kernel_rfl) | (rw [if_neg (by decide +kernel)]; exact ⟨rfl, rfl⟩))
    (fun os started H enc _ => lifted os started H enc)

theorem proved : Rows.OctetThereSaid := over
#print axioms proved
end Go.Proofs.Ytceiehamjkdhbaa.octetThere
