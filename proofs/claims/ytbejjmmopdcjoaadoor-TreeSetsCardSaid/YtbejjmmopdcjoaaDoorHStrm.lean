/-
  hash: Stream: the contract.
-/
import Derived.Test.YtbejjmmopdcjoaaDoorHStrm0
namespace Go.Proofs.YtbejjmmopdcjoaaDoor
open Go.RowKit

/-- the call hands back a row of its own of these bytes -/
def Rows8 (w : World) (bs : List UInt8) (e : Ending) (w' : World) : Prop :=
  ∃ A n c, e = .returned (.slice A n c) ∧ Own w' 5 w.heap.size A n c bs ∧ Below w.heap.size w w'
theorem Own.void (w : World) (E : TypeId) (B : Nat) : Own w E B none 0 0 [] := ⟨rfl, by omega, World.ownsRow_nil w B E 1⟩
theorem StAt.keepG {w w' : World} {T : TypeId} {b : Nat} {s : St} (h : StAt w T b s) {g : Nat} (hg : w.grownBy w' (some g)) (hne : b ≠ g) : StAt w' T b s := ⟨Go.Proofs.YtbejjmmopdcjoaaDoor.keepG hg hne h.blk, h.ok⟩
theorem Own.keptG {w w' : World} {E : TypeId} {B g n c : Nat} {bs : List UInt8} (h : Own w E B (some ⟨g, 0, none⟩) n c bs) {k : Nat} (hk : w.grownBy w' (some k)) (hne : g ≠ k) : Own w' E B (some ⟨g, 0, none⟩) n c bs :=
  ⟨h.len, h.max, h.row.kept hk (.inr (by simpa [Value.ownBlock] using hne))⟩
theorem Rd.lit8 {w : World} {b : Nat} {T : TypeId} {x : Nat} (h : w.heap[b]? = some (.cells #[.int .u8 (byt x 0), .int .u8 (byt x 1), .int .u8 (byt x 2), .int .u8 (byt x 3), .int .u8 (byt x 4), .int .u8 (byt x 5), .int .u8 (byt x 6), .int .u8 (byt x 7)] T (0, 0))) :
    Rd w (some ⟨b, 0, none⟩) 8 8 (bytesOf x) :=
  ⟨rfl, Nat.le_refl _, by omega, fun _ => ⟨b, 0, rfl, (Array.getElem?_eq_some_iff.1 h).1, fun j hj => by
    rw [cell_of_row w b (0 + j) _ _ _ h, ← Array.getElem?_toList, Nat.zero_add, ← U8_bytesOf x]
    exact U8_getD (by simpa [bytesOf] using hj)⟩, fun h => by cases h⟩

end Go.Proofs.YtbejjmmopdcjoaaDoor
