/-
  No cell of these rows narrows 'for every input' (looked for: loops, veiled, ifaces, maps, wideKeys, modest, calm, conditions, laid).
  DERIVED. THE GIVEN ROWS OF THIS SEAT. 8 by the template 'for every input the law returns true; each argument reads behind the call as it read before'; 0 by the template 'total and deterministic' (their statements: YtbiflklmkppnkaaTotals.lean).
  GIVEN WITH THE SEED: the statements are not yours to turn. If you find one false, say at which input.
  Laid BY PROGRAM, IN A SANDBOX (cutbox-rows.mjs): the forced cells as the released guide's own fill.sh prints them over the translation 85cfc8fb56520af1… (all of the seat's roots in one cut). By AI agents, Wed Nov 11 2026. No macro, syntax, notation, axiom, sorry.
-/
import Derived.Test.YtbiflklmkppnkaaChecked
import GoSem.Claim
import GoSem.ClaimJoined
import GoSem.ClaimMapViews
import Derived.JoinedTies
import Derived.KernelRfl
namespace Go.Proofs.Ytbiflklmkppnkaa
/- THE CELL 'sum', in the pinned program and in every row, IS THE sha256 OF THE DUMP (.gsa) THAT YtbiflklmkppnkaaProg.lean LOADS. Nothing in Lean hashes anything: it is a label: what it is worth is what the hold of that sum in a sandbox is worth. -/
noncomputable def Try.pinned : Pinned := { name := "ytbiflklmkppnkaa", sum := "85cfc8fb56520af18a8b17ceefce3a51288685f3ba0ae3f4c6f96ebdeb52e0a3", checked := Try.checked }
namespace Rows
def none {H : Type} : Left H := { results := [], args := [] }

/-- 'baizelaw02.HashOf': WHATEVER THE INPUT: true; the input reads as it did. -/
def hashOfSpec : ChangeSpec := { name := "hashOf", fn := fun _ => fun
  | [d1, d2, d3] => { results := [.lit (.bool true)], args := [d1, d2, d3] }
  | _ => none }
def hashOfRow : OpenClaim := { program := "ytbiflklmkppnkaa", sum := "85cfc8fb56520af18a8b17ceefce3a51288685f3ba0ae3f4c6f96ebdeb52e0a3", func := "baize/baizelaw02.HashOf", spec := "hashOf", apart := false }
def HashOfSaid : Prop := hashOfRow.holds Try.pinned (OpenSpec.ofChange hashOfSpec)

/-- ITS FALSE NEIGHBOUR: 'it returns false'. Refute it at one input. -/
def hashOfWrong : ChangeSpec := { name := "hashOf", fn := fun _ => fun
  | [d1, d2, d3] => { results := [.lit (.bool false)], args := [d1, d2, d3] }
  | _ => none }
def HashOfWrongFalsely : Prop := hashOfRow.holds Try.pinned (OpenSpec.ofChange hashOfWrong)

/-- 'baizelaw02.HashPairs': WHATEVER THE INPUT: true; the input reads as it did. -/
def hashPairsSpec : ChangeSpec := { name := "hashPairs", fn := fun _ => fun
  | [d1, d2, d3] => { results := [.lit (.bool true)], args := [d1, d2, d3] }
  | _ => none }
def hashPairsRow : OpenClaim := { program := "ytbiflklmkppnkaa", sum := "85cfc8fb56520af18a8b17ceefce3a51288685f3ba0ae3f4c6f96ebdeb52e0a3", func := "baize/baizelaw02.HashPairs", spec := "hashPairs", apart := false }
def HashPairsSaid : Prop := hashPairsRow.holds Try.pinned (OpenSpec.ofChange hashPairsSpec)

/-- ITS FALSE NEIGHBOUR: 'it returns false'. Refute it at one input. -/
def hashPairsWrong : ChangeSpec := { name := "hashPairs", fn := fun _ => fun
  | [d1, d2, d3] => { results := [.lit (.bool false)], args := [d1, d2, d3] }
  | _ => none }
def HashPairsWrongFalsely : Prop := hashPairsRow.holds Try.pinned (OpenSpec.ofChange hashPairsWrong)

/-- 'baizelaw02.HashNums': WHATEVER THE INPUT: true; the input reads as it did. -/
def hashNumsSpec : ChangeSpec := { name := "hashNums", fn := fun _ => fun
  | [d1, d2] => { results := [.lit (.bool true)], args := [d1, d2] }
  | _ => none }
def hashNumsRow : OpenClaim := { program := "ytbiflklmkppnkaa", sum := "85cfc8fb56520af18a8b17ceefce3a51288685f3ba0ae3f4c6f96ebdeb52e0a3", func := "baize/baizelaw02.HashNums", spec := "hashNums", apart := false }
def HashNumsSaid : Prop := hashNumsRow.holds Try.pinned (OpenSpec.ofChange hashNumsSpec)

/-- ITS FALSE NEIGHBOUR: 'it returns false'. Refute it at one input. -/
def hashNumsWrong : ChangeSpec := { name := "hashNums", fn := fun _ => fun
  | [d1, d2] => { results := [.lit (.bool false)], args := [d1, d2] }
  | _ => none }
def HashNumsWrongFalsely : Prop := hashNumsRow.holds Try.pinned (OpenSpec.ofChange hashNumsWrong)

/-- 'baizelaw02.HashChains': WHATEVER THE INPUT: true; the input reads as it did. -/
def hashChainsSpec : ChangeSpec := { name := "hashChains", fn := fun _ => fun
  | [d1, d2, d3, d4] => { results := [.lit (.bool true)], args := [d1, d2, d3, d4] }
  | _ => none }
def hashChainsRow : OpenClaim := { program := "ytbiflklmkppnkaa", sum := "85cfc8fb56520af18a8b17ceefce3a51288685f3ba0ae3f4c6f96ebdeb52e0a3", func := "baize/baizelaw02.HashChains", spec := "hashChains", apart := false }
def HashChainsSaid : Prop := hashChainsRow.holds Try.pinned (OpenSpec.ofChange hashChainsSpec)

/-- ITS FALSE NEIGHBOUR: 'it returns false'. Refute it at one input. -/
def hashChainsWrong : ChangeSpec := { name := "hashChains", fn := fun _ => fun
  | [d1, d2, d3, d4] => { results := [.lit (.bool false)], args := [d1, d2, d3, d4] }
  | _ => none }
def HashChainsWrongFalsely : Prop := hashChainsRow.holds Try.pinned (OpenSpec.ofChange hashChainsWrong)

/-- 'baizelaw02.HashStream': WHATEVER THE INPUT: true; the input reads as it did. -/
def hashStreamSpec : ChangeSpec := { name := "hashStream", fn := fun _ => fun
  | [d1, d2, d3, d4] => { results := [.lit (.bool true)], args := [d1, d2, d3, d4] }
  | _ => none }
def hashStreamRow : OpenClaim := { program := "ytbiflklmkppnkaa", sum := "85cfc8fb56520af18a8b17ceefce3a51288685f3ba0ae3f4c6f96ebdeb52e0a3", func := "baize/baizelaw02.HashStream", spec := "hashStream", apart := false }
def HashStreamSaid : Prop := hashStreamRow.holds Try.pinned (OpenSpec.ofChange hashStreamSpec)

/-- ITS FALSE NEIGHBOUR: 'it returns false'. Refute it at one input. -/
def hashStreamWrong : ChangeSpec := { name := "hashStream", fn := fun _ => fun
  | [d1, d2, d3, d4] => { results := [.lit (.bool false)], args := [d1, d2, d3, d4] }
  | _ => none }
def HashStreamWrongFalsely : Prop := hashStreamRow.holds Try.pinned (OpenSpec.ofChange hashStreamWrong)

/-- 'baizelaw02.HashPieces': WHATEVER THE INPUT: true; the input reads as it did. -/
def hashPiecesSpec : ChangeSpec := { name := "hashPieces", fn := fun _ => fun
  | [d] => { results := [.lit (.bool true)], args := [d] }
  | _ => none }
def hashPiecesRow : OpenClaim := { program := "ytbiflklmkppnkaa", sum := "85cfc8fb56520af18a8b17ceefce3a51288685f3ba0ae3f4c6f96ebdeb52e0a3", func := "baize/baizelaw02.HashPieces", spec := "hashPieces", apart := false }
def HashPiecesSaid : Prop := hashPiecesRow.holds Try.pinned (OpenSpec.ofChange hashPiecesSpec)

/-- ITS FALSE NEIGHBOUR: 'it returns false'. Refute it at one input. -/
def hashPiecesWrong : ChangeSpec := { name := "hashPieces", fn := fun _ => fun
  | [d] => { results := [.lit (.bool false)], args := [d] }
  | _ => none }
def HashPiecesWrongFalsely : Prop := hashPiecesRow.holds Try.pinned (OpenSpec.ofChange hashPiecesWrong)

/-- 'baizelaw02.HashSame': WHATEVER THE INPUT: true; the input reads as it did. -/
def hashSameSpec : ChangeSpec := { name := "hashSame", fn := fun _ => fun
  | [d1, d2, d3, d4] => { results := [.lit (.bool true)], args := [d1, d2, d3, d4] }
  | _ => none }
def hashSameRow : OpenClaim := { program := "ytbiflklmkppnkaa", sum := "85cfc8fb56520af18a8b17ceefce3a51288685f3ba0ae3f4c6f96ebdeb52e0a3", func := "baize/baizelaw02.HashSame", spec := "hashSame", apart := false }
def HashSameSaid : Prop := hashSameRow.holds Try.pinned (OpenSpec.ofChange hashSameSpec)

/-- ITS FALSE NEIGHBOUR: 'it returns false'. Refute it at one input. -/
def hashSameWrong : ChangeSpec := { name := "hashSame", fn := fun _ => fun
  | [d1, d2, d3, d4] => { results := [.lit (.bool false)], args := [d1, d2, d3, d4] }
  | _ => none }
def HashSameWrongFalsely : Prop := hashSameRow.holds Try.pinned (OpenSpec.ofChange hashSameWrong)

/-- 'baizelaw02.HashKeeps': WHATEVER THE INPUT: true; the input reads as it did. -/
def hashKeepsSpec : ChangeSpec := { name := "hashKeeps", fn := fun _ => fun
  | [d1, d2, d3] => { results := [.lit (.bool true)], args := [d1, d2, d3] }
  | _ => none }
def hashKeepsRow : OpenClaim := { program := "ytbiflklmkppnkaa", sum := "85cfc8fb56520af18a8b17ceefce3a51288685f3ba0ae3f4c6f96ebdeb52e0a3", func := "baize/baizelaw02.HashKeeps", spec := "hashKeeps", apart := false }
def HashKeepsSaid : Prop := hashKeepsRow.holds Try.pinned (OpenSpec.ofChange hashKeepsSpec)

/-- ITS FALSE NEIGHBOUR: 'it returns false'. Refute it at one input. -/
def hashKeepsWrong : ChangeSpec := { name := "hashKeeps", fn := fun _ => fun
  | [d1, d2, d3] => { results := [.lit (.bool false)], args := [d1, d2, d3] }
  | _ => none }
def HashKeepsWrongFalsely : Prop := hashKeepsRow.holds Try.pinned (OpenSpec.ofChange hashKeepsWrong)

/- THE SECOND FORM. 'bulk': how many values and letters a reading holds, each counted each time it is reached (what is shared counts as often as it is met; a slice's spare places count too). A statement '..UptoSaid' is the law's where the arguments, and the package variables that the reading takes, are together of bulk at most 1048576: NARROWER than '..Said'. Prove '..Said' where nothing that the law and all that it calls make is longer than what came in: it says more and counts as full. Else prove '..UptoSaid'. A law counts once. -/
mutual
def uptoBulk {H : Type} : DataW H → Nat
  | .lit (.string bytes) => bytes.length + 1
  | .lit _ => 1
  | .nil => 1
  | .ptr d => uptoBulk d + 1
  | .slice elems spare => uptoBulkAll elems + uptoBulkAll spare + 1
  | .agg parts => uptoBulkAll parts + 1
  | .iface _ d => uptoBulk d + 1
  | .map entries => uptoBulkEntries entries + 1
  | .held _ => 1
def uptoBulkAll {H : Type} : List (DataW H) → Nat
  | [] => 0
  | d :: r => uptoBulk d + uptoBulkAll r
def uptoBulkEntries {H : Type} : List (Lit × DataW H) → Nat
  | [] => 0
  | x :: r => uptoBulkEntry x + uptoBulkEntries r
def uptoBulkEntry {H : Type} : Lit × DataW H → Nat
  | (.string bytes, d) => bytes.length + uptoBulk d + 1
  | (_, d) => uptoBulk d + 1
 end
def uptoSmall : (H : Type) → List (DataW H) → Bool := fun _ ds => decide (uptoBulkAll ds ≤ 1048576)
def OpenSpec.upto (s : _root_.Go.ChangeSpec) : _root_.Go.OpenSpec := { _root_.Go.OpenSpec.ofChange s with cond := some uptoSmall }

/-- 'baizelaw02.HashOf', WHERE WHAT IT READS IS OF BULK AT MOST 1048576: true; the input reads as it did. -/
def hashOfUptoRow : OpenClaim := { program := "ytbiflklmkppnkaa", sum := "85cfc8fb56520af18a8b17ceefce3a51288685f3ba0ae3f4c6f96ebdeb52e0a3", func := "baize/baizelaw02.HashOf", spec := "hashOf", apart := false, narrowed := true }
def HashOfUptoSaid : Prop := hashOfUptoRow.holds Try.pinned (OpenSpec.upto hashOfSpec)

/-- 'baizelaw02.HashPairs', WHERE WHAT IT READS IS OF BULK AT MOST 1048576: true; the input reads as it did. -/
def hashPairsUptoRow : OpenClaim := { program := "ytbiflklmkppnkaa", sum := "85cfc8fb56520af18a8b17ceefce3a51288685f3ba0ae3f4c6f96ebdeb52e0a3", func := "baize/baizelaw02.HashPairs", spec := "hashPairs", apart := false, narrowed := true }
def HashPairsUptoSaid : Prop := hashPairsUptoRow.holds Try.pinned (OpenSpec.upto hashPairsSpec)

/-- 'baizelaw02.HashNums', WHERE WHAT IT READS IS OF BULK AT MOST 1048576: true; the input reads as it did. -/
def hashNumsUptoRow : OpenClaim := { program := "ytbiflklmkppnkaa", sum := "85cfc8fb56520af18a8b17ceefce3a51288685f3ba0ae3f4c6f96ebdeb52e0a3", func := "baize/baizelaw02.HashNums", spec := "hashNums", apart := false, narrowed := true }
def HashNumsUptoSaid : Prop := hashNumsUptoRow.holds Try.pinned (OpenSpec.upto hashNumsSpec)

/-- 'baizelaw02.HashChains', WHERE WHAT IT READS IS OF BULK AT MOST 1048576: true; the input reads as it did. -/
def hashChainsUptoRow : OpenClaim := { program := "ytbiflklmkppnkaa", sum := "85cfc8fb56520af18a8b17ceefce3a51288685f3ba0ae3f4c6f96ebdeb52e0a3", func := "baize/baizelaw02.HashChains", spec := "hashChains", apart := false, narrowed := true }
def HashChainsUptoSaid : Prop := hashChainsUptoRow.holds Try.pinned (OpenSpec.upto hashChainsSpec)

/-- 'baizelaw02.HashStream', WHERE WHAT IT READS IS OF BULK AT MOST 1048576: true; the input reads as it did. -/
def hashStreamUptoRow : OpenClaim := { program := "ytbiflklmkppnkaa", sum := "85cfc8fb56520af18a8b17ceefce3a51288685f3ba0ae3f4c6f96ebdeb52e0a3", func := "baize/baizelaw02.HashStream", spec := "hashStream", apart := false, narrowed := true }
def HashStreamUptoSaid : Prop := hashStreamUptoRow.holds Try.pinned (OpenSpec.upto hashStreamSpec)

/-- 'baizelaw02.HashPieces', WHERE WHAT IT READS IS OF BULK AT MOST 1048576: true; the input reads as it did. -/
def hashPiecesUptoRow : OpenClaim := { program := "ytbiflklmkppnkaa", sum := "85cfc8fb56520af18a8b17ceefce3a51288685f3ba0ae3f4c6f96ebdeb52e0a3", func := "baize/baizelaw02.HashPieces", spec := "hashPieces", apart := false, narrowed := true }
def HashPiecesUptoSaid : Prop := hashPiecesUptoRow.holds Try.pinned (OpenSpec.upto hashPiecesSpec)

/-- 'baizelaw02.HashSame', WHERE WHAT IT READS IS OF BULK AT MOST 1048576: true; the input reads as it did. -/
def hashSameUptoRow : OpenClaim := { program := "ytbiflklmkppnkaa", sum := "85cfc8fb56520af18a8b17ceefce3a51288685f3ba0ae3f4c6f96ebdeb52e0a3", func := "baize/baizelaw02.HashSame", spec := "hashSame", apart := false, narrowed := true }
def HashSameUptoSaid : Prop := hashSameUptoRow.holds Try.pinned (OpenSpec.upto hashSameSpec)

/-- 'baizelaw02.HashKeeps', WHERE WHAT IT READS IS OF BULK AT MOST 1048576: true; the input reads as it did. -/
def hashKeepsUptoRow : OpenClaim := { program := "ytbiflklmkppnkaa", sum := "85cfc8fb56520af18a8b17ceefce3a51288685f3ba0ae3f4c6f96ebdeb52e0a3", func := "baize/baizelaw02.HashKeeps", spec := "hashKeeps", apart := false, narrowed := true }
def HashKeepsUptoSaid : Prop := hashKeepsUptoRow.holds Try.pinned (OpenSpec.upto hashKeepsSpec)

end Rows
end Go.Proofs.Ytbiflklmkppnkaa
