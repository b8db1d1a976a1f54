/-
  'CoinPots' of baizelaw03, for every input: the call returns true, and each argument reads afterwards as before. No condition.
-/
import Derived.Test.YthdnfnilckjldaaWCoinPots
import Derived.Test.YthdnfnilckjldaaFrame
namespace Go.Proofs.Ythdnfnilckjldaa.coinPots
open Go.ChangeShapes Go.WideShapes Go.ChangeAt Go.RowKit
open Go.ChangeMaps (open_string shut_string)

set_option maxRecDepth 100000 in
theorem lifted (os : Os) (started : os.Started) (H : Type) (enc : TypeId × Value → H) :
    ReturnsInHanded {} Try.checked os 7 .any (Rows.coinPotsSpec.pre6 enc Try.prog Try.f7 Rows.coinPotsRow.domain false) (Rows.coinPotsSpec.post enc Try.prog Try.f7 false true false false) := by
  refine returnsInHanded_of_change (C := Try.checked) own started (by kernel_rfl) Try.func7
    (ChangeSpec.witness6 (enc := enc) (C := Try.checked) false ⟨#[], #[.int .i64 0, .int .i64 0, .slice none 0 0], []⟩ 8 (by kernel_rfl) (by kernel_rfl) (by kernel_rfl) (by kernel_rfl)) ?_
  intro W base args ds gs before hval0 hW _ _
  have hval : ∀ (j : Nat) t v, Try.f7.params[j]? = some t → args[j]? = some v → Value.okWide Try.prog W .any base t v := hval0
  refine law_contract (fn := Try.f7) (spec := Rows.coinPotsSpec) rfl Try.underlying4 rfl (fun ds hds => ?_) (by kernel_rfl) hW ?_
  · match ds, hds with
    | [d0, d1, d2], _ => exact ⟨rfl, rfl, rfl⟩
  · obtain ⟨p, q, hA0, _, _, _, _⟩ := hW
    have hA : DataW.TrodAll enc Try.prog W 0 (fun _ => true) true Try.f7.params.toList args.toList ds p := hA0
    rw [Try.params7] at hA hval
    obtain ⟨v0, vs0, d0, ds0, p0, q0, hargs, rfl, rfl, h0, r0⟩ := trodAll_cons hA
    obtain ⟨v1, vs1, d1, ds1, p1, q1, rfl, rfl, rfl, h1, r1⟩ := trodAll_cons r0
    obtain ⟨v2, vs2, d2, ds2, p2, q2, rfl, rfl, rfl, h2, r2⟩ := trodAll_cons r1
    obtain ⟨rfl, rfl, rfl⟩ := trodAll_nil r2
    obtain rfl : args = #[v0, v1, v2] := by cases args; simp_all
    obtain ⟨a0, rfl, w0, u0⟩ := open_i64 Try.underlying3 (hval 0 3 _ rfl rfl) h0
    obtain ⟨a1, rfl, w1, u1⟩ := open_i64 Try.underlying3 (hval 1 3 _ rfl rfl) h1
    obtain ⟨a2, n2, c2, b2, rfl, w2⟩ := open_asks (hval 2 40 _ rfl rfl) h2
    exact walkCoinPots W a0 a1 a2 n2 c2 b2 w0 u0 w1 u1 w2

theorem over : Rows.coinPotsRow.holds Try.pinned (OpenSpec.ofChange Rows.coinPotsSpec) :=
  OpenClaim.holds_of_wide 7 Try.f7 rfl rfl rfl rfl rfl rfl rfl ⟨rfl, rfl, rfl, rfl, rfl⟩ rfl rfl rfl rfl rfl (by kernel_rfl) Try.func7 (by kernel_rfl)
    (of_decide_eq_true (by kernel_rfl)) (by unfold Func.isWrapper; first | (rw [if_pos (by decide +kernel)]; kernel_rfl) | (rw [if_neg (by decide +kernel)]; exact ⟨rfl, rfl⟩))
    (fun os started H enc _ => lifted os started H enc)

theorem proved : Rows.CoinPotsSaid := over
#print axioms proved
end Go.Proofs.Ythdnfnilckjldaa.coinPots
