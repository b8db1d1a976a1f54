/-
  'HashPieces' of baizelaw02, for every input: the call returns true, and each argument reads afterwards as before. No condition.
-/
import Derived.Test.YtbiflklmkppnkaaWHashPieces
import Derived.Test.YtbiflklmkppnkaaFrame
import Derived.Test.YtbiflklmkppnkaaHPiecS
namespace Go.Proofs.Ytbiflklmkppnkaa.hashPieces
open Go.ChangeShapes Go.WideShapes Go.ChangeAt Go.RowKit
open Go.ChangeMaps (open_string shut_string)

set_option maxRecDepth 100000 in
theorem lifted (os : Os) (started : os.Started) (H : Type) (enc : TypeId × Value → H) :
    ReturnsInHanded {} Try.checked os 8 .any (Rows.hashPiecesSpec.pre6 enc Try.prog Try.f8 Rows.hashPiecesRow.domain false) (Rows.hashPiecesSpec.post enc Try.prog Try.f8 false true false false) := by
  refine returnsInHanded_of_change_sized (C := Try.checked) own started (by kernel_rfl) Try.func8
    (ChangeSpec.witness6 (enc := enc) (C := Try.checked) false ⟨#[], #[.slice none 0 0], []⟩ 8 (by kernel_rfl) (by kernel_rfl) (by kernel_rfl) (by kernel_rfl)) ?_
  intro W base args ds gs before hval0 hW _ hz _
  have hval : ∀ (j : Nat) t v, Try.f8.params[j]? = some t → args[j]? = some v → Value.okWide Try.prog W .any base t v := hval0
  refine law_contract (fn := Try.f8) (spec := Rows.hashPiecesSpec) rfl Try.underlying4 rfl (fun ds hds => ?_) (by kernel_rfl) hW ?_
  · match ds, hds with
    | [d0], _ => exact ⟨rfl, rfl, rfl⟩
  · obtain ⟨p, q, hA0, _, _, _, _⟩ := hW
    have hA : DataW.TrodAll enc Try.prog W 0 (fun _ => true) true Try.f8.params.toList args.toList ds p := hA0
    rw [Try.params8] at hA hval hz
    obtain ⟨v0, vs0, d0, ds0, p0, q0, hargs, rfl, rfl, h0, r0⟩ := trodAll_cons hA
    obtain ⟨rfl, rfl, rfl⟩ := trodAll_nil r0
    obtain rfl : args = #[v0] := by cases args; simp_all
    obtain ⟨a0, n0, c0, f0, rfl, w0, s0⟩ := open_piecesS Try.underlying55 Try.underlying22 Try.underlying5 (by kernel_rfl) (by kernel_rfl) (by kernel_rfl) (hval 0 55 _ rfl rfl) h0 (fun k hk => by have := List.all_eq_true.1 hz k (DataW.weights_mem_each (j := 0) rfl rfl k hk); simpa using this)
    exact walkHashPieces W a0 n0 c0 f0 w0 s0

theorem over : Rows.hashPiecesRow.holds Try.pinned (OpenSpec.ofChange Rows.hashPiecesSpec) :=
  OpenClaim.holds_of_wide 8 Try.f8 rfl rfl rfl rfl rfl rfl rfl ⟨rfl, rfl, rfl, rfl, rfl⟩ rfl rfl rfl rfl rfl (by kernel_rfl) Try.func8 (by kernel_rfl)
    (of_decide_eq_true (by kernel_rfl)) (by unfold Func.isWrapper; first | (rw [if_pos (by decide +kernel)]; kernel_rfl) | (rw [if_neg (by decide +kernel)]; exact ⟨rfl, rfl⟩))
    (fun os started H enc _ => lifted os started H enc)

theorem proved : Rows.HashPiecesSaid := over
#print axioms proved
end Go.Proofs.Ytbiflklmkppnkaa.hashPieces
