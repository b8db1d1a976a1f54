/-
  No cell of these rows narrows 'for every input' (looked for: loops, veiled, ifaces, maps, wideKeys, modest, calm, conditions, laid).
  DERIVED. THE GIVEN ROWS OF THIS SEAT. 12 by the template 'for every input the law returns true; each argument reads behind the call as it read before'; 0 by the template 'total and deterministic' (their statements: YtdejlahgeckobaaTotals.lean).
  GIVEN WITH THE SEED: the statements are not yours to turn. If you find one false, say at which input.
  Laid BY PROGRAM, IN A SANDBOX (cutbox-rows.mjs): the forced cells as the released guide's own fill.sh prints them over the translation ba095beacfabe4c9… (all of the seat's roots in one cut). By AI agents, Wed Nov 11 2026. No macro, syntax, notation, axiom, sorry.
-/
import Derived.Test.YtdejlahgeckobaaChecked
import GoSem.Claim
import GoSem.ClaimJoined
import GoSem.ClaimMapViews
import Derived.JoinedTies
import Derived.KernelRfl
namespace Go.Proofs.Ytdejlahgeckobaa
/- THE CELL 'sum', in the pinned program and in every row, IS THE sha256 OF THE DUMP (.gsa) THAT YtdejlahgeckobaaProg.lean LOADS. Nothing in Lean hashes anything: it is a label: what it is worth is what the hold of that sum in a sandbox is worth. -/
noncomputable def Try.pinned : Pinned := { name := "ytdejlahgeckobaa", sum := "ba095beacfabe4c92df96498afed26b53a0748fd9065bc233bd6fb15f43546bb", checked := Try.checked }
namespace Rows
def none {H : Type} : Left H := { results := [], args := [] }

/-- 'baizelaw02.HashSame': WHATEVER THE INPUT: true; the input reads as it did. -/
def hashSameSpec : ChangeSpec := { name := "hashSame", fn := fun _ => fun
  | [d1, d2, d3, d4] => { results := [.lit (.bool true)], args := [d1, d2, d3, d4] }
  | _ => none }
def hashSameRow : OpenClaim := { program := "ytdejlahgeckobaa", sum := "ba095beacfabe4c92df96498afed26b53a0748fd9065bc233bd6fb15f43546bb", func := "baize/baizelaw02.HashSame", spec := "hashSame", apart := false }
def HashSameSaid : Prop := hashSameRow.holds Try.pinned (OpenSpec.ofChange hashSameSpec)

/-- ITS FALSE NEIGHBOUR: 'it returns false'. Refute it at one input. -/
def hashSameWrong : ChangeSpec := { name := "hashSame", fn := fun _ => fun
  | [d1, d2, d3, d4] => { results := [.lit (.bool false)], args := [d1, d2, d3, d4] }
  | _ => none }
def HashSameWrongFalsely : Prop := hashSameRow.holds Try.pinned (OpenSpec.ofChange hashSameWrong)

/-- 'baizelaw02.HashKeeps': WHATEVER THE INPUT: true; the input reads as it did. -/
def hashKeepsSpec : ChangeSpec := { name := "hashKeeps", fn := fun _ => fun
  | [d1, d2, d3] => { results := [.lit (.bool true)], args := [d1, d2, d3] }
  | _ => none }
def hashKeepsRow : OpenClaim := { program := "ytdejlahgeckobaa", sum := "ba095beacfabe4c92df96498afed26b53a0748fd9065bc233bd6fb15f43546bb", func := "baize/baizelaw02.HashKeeps", spec := "hashKeeps", apart := false }
def HashKeepsSaid : Prop := hashKeepsRow.holds Try.pinned (OpenSpec.ofChange hashKeepsSpec)

/-- ITS FALSE NEIGHBOUR: 'it returns false'. Refute it at one input. -/
def hashKeepsWrong : ChangeSpec := { name := "hashKeeps", fn := fun _ => fun
  | [d1, d2, d3] => { results := [.lit (.bool false)], args := [d1, d2, d3] }
  | _ => none }
def HashKeepsWrongFalsely : Prop := hashKeepsRow.holds Try.pinned (OpenSpec.ofChange hashKeepsWrong)

/-- 'baizelaw05.OnceKeys': WHATEVER THE INPUT: true; the input reads as it did. -/
def onceKeysSpec : ChangeSpec := { name := "onceKeys", fn := fun _ => fun
  | [d1, d2] => { results := [.lit (.bool true)], args := [d1, d2] }
  | _ => none }
def onceKeysRow : OpenClaim := { program := "ytdejlahgeckobaa", sum := "ba095beacfabe4c92df96498afed26b53a0748fd9065bc233bd6fb15f43546bb", func := "baize/baizelaw05.OnceKeys", spec := "onceKeys", unfollowed := true, recurses := true, apart := false }
def OnceKeysSaid : Prop := onceKeysRow.holds Try.pinned (OpenSpec.ofChange onceKeysSpec)

/-- ITS FALSE NEIGHBOUR: 'it returns false'. Refute it at one input. -/
def onceKeysWrong : ChangeSpec := { name := "onceKeys", fn := fun _ => fun
  | [d1, d2] => { results := [.lit (.bool false)], args := [d1, d2] }
  | _ => none }
def OnceKeysWrongFalsely : Prop := onceKeysRow.holds Try.pinned (OpenSpec.ofChange onceKeysWrong)

/-- 'baizelaw05.OnceDigits': WHATEVER THE INPUT: true; the input reads as it did. -/
def onceDigitsSpec : ChangeSpec := { name := "onceDigits", fn := fun _ => fun
  | [d] => { results := [.lit (.bool true)], args := [d] }
  | _ => none }
def onceDigitsRow : OpenClaim := { program := "ytdejlahgeckobaa", sum := "ba095beacfabe4c92df96498afed26b53a0748fd9065bc233bd6fb15f43546bb", func := "baize/baizelaw05.OnceDigits", spec := "onceDigits", unfollowed := true, recurses := true, apart := false }
def OnceDigitsSaid : Prop := onceDigitsRow.holds Try.pinned (OpenSpec.ofChange onceDigitsSpec)

/-- ITS FALSE NEIGHBOUR: 'it returns false'. Refute it at one input. -/
def onceDigitsWrong : ChangeSpec := { name := "onceDigits", fn := fun _ => fun
  | [d] => { results := [.lit (.bool false)], args := [d] }
  | _ => none }
def OnceDigitsWrongFalsely : Prop := onceDigitsRow.holds Try.pinned (OpenSpec.ofChange onceDigitsWrong)

/-- 'baizelaw08.VeilCommits': WHATEVER THE INPUT: true; the input reads as it did. -/
def veilCommitsSpec : ChangeSpec := { name := "veilCommits", fn := fun _ => fun
  | [d1, d2, d3] => { results := [.lit (.bool true)], args := [d1, d2, d3] }
  | _ => none }
def veilCommitsRow : OpenClaim := { program := "ytdejlahgeckobaa", sum := "ba095beacfabe4c92df96498afed26b53a0748fd9065bc233bd6fb15f43546bb", func := "baize/baizelaw08.VeilCommits", spec := "veilCommits", apart := false }
def VeilCommitsSaid : Prop := veilCommitsRow.holds Try.pinned (OpenSpec.ofChange veilCommitsSpec)

/-- ITS FALSE NEIGHBOUR: 'it returns false'. Refute it at one input. -/
def veilCommitsWrong : ChangeSpec := { name := "veilCommits", fn := fun _ => fun
  | [d1, d2, d3] => { results := [.lit (.bool false)], args := [d1, d2, d3] }
  | _ => none }
def VeilCommitsWrongFalsely : Prop := veilCommitsRow.holds Try.pinned (OpenSpec.ofChange veilCommitsWrong)

/-- 'baizelaw08.VeilSeals': WHATEVER THE INPUT: true; the input reads as it did. -/
def veilSealsSpec : ChangeSpec := { name := "veilSeals", fn := fun _ => fun
  | [d1, d2] => { results := [.lit (.bool true)], args := [d1, d2] }
  | _ => none }
def veilSealsRow : OpenClaim := { program := "ytdejlahgeckobaa", sum := "ba095beacfabe4c92df96498afed26b53a0748fd9065bc233bd6fb15f43546bb", func := "baize/baizelaw08.VeilSeals", spec := "veilSeals", apart := false }
def VeilSealsSaid : Prop := veilSealsRow.holds Try.pinned (OpenSpec.ofChange veilSealsSpec)

/-- ITS FALSE NEIGHBOUR: 'it returns false'. Refute it at one input. -/
def veilSealsWrong : ChangeSpec := { name := "veilSeals", fn := fun _ => fun
  | [d1, d2] => { results := [.lit (.bool false)], args := [d1, d2] }
  | _ => none }
def VeilSealsWrongFalsely : Prop := veilSealsRow.holds Try.pinned (OpenSpec.ofChange veilSealsWrong)

/-- 'baizelaw08.VeilOpens': WHATEVER THE INPUT: true; the input reads as it did. -/
def veilOpensSpec : ChangeSpec := { name := "veilOpens", fn := fun _ => fun
  | [d1, d2] => { results := [.lit (.bool true)], args := [d1, d2] }
  | _ => none }
def veilOpensRow : OpenClaim := { program := "ytdejlahgeckobaa", sum := "ba095beacfabe4c92df96498afed26b53a0748fd9065bc233bd6fb15f43546bb", func := "baize/baizelaw08.VeilOpens", spec := "veilOpens", apart := false }
def VeilOpensSaid : Prop := veilOpensRow.holds Try.pinned (OpenSpec.ofChange veilOpensSpec)

/-- ITS FALSE NEIGHBOUR: 'it returns false'. Refute it at one input. -/
def veilOpensWrong : ChangeSpec := { name := "veilOpens", fn := fun _ => fun
  | [d1, d2] => { results := [.lit (.bool false)], args := [d1, d2] }
  | _ => none }
def VeilOpensWrongFalsely : Prop := veilOpensRow.holds Try.pinned (OpenSpec.ofChange veilOpensWrong)

/-- 'baizelaw08.VeilKeys': WHATEVER THE INPUT: true; the input reads as it did. -/
def veilKeysSpec : ChangeSpec := { name := "veilKeys", fn := fun _ => fun
  | [d1, d2, d3] => { results := [.lit (.bool true)], args := [d1, d2, d3] }
  | _ => none }
def veilKeysRow : OpenClaim := { program := "ytdejlahgeckobaa", sum := "ba095beacfabe4c92df96498afed26b53a0748fd9065bc233bd6fb15f43546bb", func := "baize/baizelaw08.VeilKeys", spec := "veilKeys", apart := false }
def VeilKeysSaid : Prop := veilKeysRow.holds Try.pinned (OpenSpec.ofChange veilKeysSpec)

/-- ITS FALSE NEIGHBOUR: 'it returns false'. Refute it at one input. -/
def veilKeysWrong : ChangeSpec := { name := "veilKeys", fn := fun _ => fun
  | [d1, d2, d3] => { results := [.lit (.bool false)], args := [d1, d2, d3] }
  | _ => none }
def VeilKeysWrongFalsely : Prop := veilKeysRow.holds Try.pinned (OpenSpec.ofChange veilKeysWrong)

/-- 'baizelaw08.VeilLengths': WHATEVER THE INPUT: true; the input reads as it did. -/
def veilLengthsSpec : ChangeSpec := { name := "veilLengths", fn := fun _ => fun
  | [d1, d2, d3] => { results := [.lit (.bool true)], args := [d1, d2, d3] }
  | _ => none }
def veilLengthsRow : OpenClaim := { program := "ytdejlahgeckobaa", sum := "ba095beacfabe4c92df96498afed26b53a0748fd9065bc233bd6fb15f43546bb", func := "baize/baizelaw08.VeilLengths", spec := "veilLengths", apart := false }
def VeilLengthsSaid : Prop := veilLengthsRow.holds Try.pinned (OpenSpec.ofChange veilLengthsSpec)

/-- ITS FALSE NEIGHBOUR: 'it returns false'. Refute it at one input. -/
def veilLengthsWrong : ChangeSpec := { name := "veilLengths", fn := fun _ => fun
  | [d1, d2, d3] => { results := [.lit (.bool false)], args := [d1, d2, d3] }
  | _ => none }
def VeilLengthsWrongFalsely : Prop := veilLengthsRow.holds Try.pinned (OpenSpec.ofChange veilLengthsWrong)

/-- 'baizelaw08.VeilTurned': WHATEVER THE INPUT: true; the input reads as it did. -/
def veilTurnedSpec : ChangeSpec := { name := "veilTurned", fn := fun _ => fun
  | [d1, d2, d3] => { results := [.lit (.bool true)], args := [d1, d2, d3] }
  | _ => none }
def veilTurnedRow : OpenClaim := { program := "ytdejlahgeckobaa", sum := "ba095beacfabe4c92df96498afed26b53a0748fd9065bc233bd6fb15f43546bb", func := "baize/baizelaw08.VeilTurned", spec := "veilTurned", apart := false }
def VeilTurnedSaid : Prop := veilTurnedRow.holds Try.pinned (OpenSpec.ofChange veilTurnedSpec)

/-- ITS FALSE NEIGHBOUR: 'it returns false'. Refute it at one input. -/
def veilTurnedWrong : ChangeSpec := { name := "veilTurned", fn := fun _ => fun
  | [d1, d2, d3] => { results := [.lit (.bool false)], args := [d1, d2, d3] }
  | _ => none }
def VeilTurnedWrongFalsely : Prop := veilTurnedRow.holds Try.pinned (OpenSpec.ofChange veilTurnedWrong)

/-- 'baizelaw08.VeilLong': WHATEVER THE INPUT: true; the input reads as it did. -/
def veilLongSpec : ChangeSpec := { name := "veilLong", fn := fun _ => fun
  | [d1, d2] => { results := [.lit (.bool true)], args := [d1, d2] }
  | _ => none }
def veilLongRow : OpenClaim := { program := "ytdejlahgeckobaa", sum := "ba095beacfabe4c92df96498afed26b53a0748fd9065bc233bd6fb15f43546bb", func := "baize/baizelaw08.VeilLong", spec := "veilLong", apart := false }
def VeilLongSaid : Prop := veilLongRow.holds Try.pinned (OpenSpec.ofChange veilLongSpec)

/-- ITS FALSE NEIGHBOUR: 'it returns false'. Refute it at one input. -/
def veilLongWrong : ChangeSpec := { name := "veilLong", fn := fun _ => fun
  | [d1, d2] => { results := [.lit (.bool false)], args := [d1, d2] }
  | _ => none }
def VeilLongWrongFalsely : Prop := veilLongRow.holds Try.pinned (OpenSpec.ofChange veilLongWrong)

/-- 'baizelaw08.VeilOwn': WHATEVER THE INPUT: true; the input reads as it did. -/
def veilOwnSpec : ChangeSpec := { name := "veilOwn", fn := fun _ => fun
  | [d1, d2, d3] => { results := [.lit (.bool true)], args := [d1, d2, d3] }
  | _ => none }
def veilOwnRow : OpenClaim := { program := "ytdejlahgeckobaa", sum := "ba095beacfabe4c92df96498afed26b53a0748fd9065bc233bd6fb15f43546bb", func := "baize/baizelaw08.VeilOwn", spec := "veilOwn", apart := false }
def VeilOwnSaid : Prop := veilOwnRow.holds Try.pinned (OpenSpec.ofChange veilOwnSpec)

/-- ITS FALSE NEIGHBOUR: 'it returns false'. Refute it at one input. -/
def veilOwnWrong : ChangeSpec := { name := "veilOwn", fn := fun _ => fun
  | [d1, d2, d3] => { results := [.lit (.bool false)], args := [d1, d2, d3] }
  | _ => none }
def VeilOwnWrongFalsely : Prop := veilOwnRow.holds Try.pinned (OpenSpec.ofChange veilOwnWrong)

/- THE SECOND FORM. 'bulk': how many values and letters a reading holds, each counted each time it is reached (what is shared counts as often as it is met; a slice's spare places count too). A statement '..UptoSaid' is the law's where the arguments, and the package variables that the reading takes, are together of bulk at most 1048576: NARROWER than '..Said'. Prove '..Said' where nothing that the law and all that it calls make is longer than what came in: it says more and counts as full. Else prove '..UptoSaid'. A law counts once. -/
mutual
def uptoBulk {H : Type} : DataW H → Nat
  | .lit (.string bytes) => bytes.length + 1
  | .lit _ => 1
  | .nil => 1
  | .ptr d => uptoBulk d + 1
  | .slice elems spare => uptoBulkAll elems + uptoBulkAll spare + 1
  | .agg parts => uptoBulkAll parts + 1
  | .iface _ d => uptoBulk d + 1
  | .map entries => uptoBulkEntries entries + 1
  | .held _ => 1
def uptoBulkAll {H : Type} : List (DataW H) → Nat
  | [] => 0
  | d :: r => uptoBulk d + uptoBulkAll r
def uptoBulkEntries {H : Type} : List (Lit × DataW H) → Nat
  | [] => 0
  | x :: r => uptoBulkEntry x + uptoBulkEntries r
def uptoBulkEntry {H : Type} : Lit × DataW H → Nat
  | (.string bytes, d) => bytes.length + uptoBulk d + 1
  | (_, d) => uptoBulk d + 1
 end
def uptoSmall : (H : Type) → List (DataW H) → Bool := fun _ ds => decide (uptoBulkAll ds ≤ 1048576)
def OpenSpec.upto (s : _root_.Go.ChangeSpec) : _root_.Go.OpenSpec := { _root_.Go.OpenSpec.ofChange s with cond := some uptoSmall }

/-- 'baizelaw02.HashSame', WHERE WHAT IT READS IS OF BULK AT MOST 1048576: true; the input reads as it did. -/
def hashSameUptoRow : OpenClaim := { program := "ytdejlahgeckobaa", sum := "ba095beacfabe4c92df96498afed26b53a0748fd9065bc233bd6fb15f43546bb", func := "baize/baizelaw02.HashSame", spec := "hashSame", apart := false, narrowed := true }
def HashSameUptoSaid : Prop := hashSameUptoRow.holds Try.pinned (OpenSpec.upto hashSameSpec)

/-- 'baizelaw02.HashKeeps', WHERE WHAT IT READS IS OF BULK AT MOST 1048576: true; the input reads as it did. -/
def hashKeepsUptoRow : OpenClaim := { program := "ytdejlahgeckobaa", sum := "ba095beacfabe4c92df96498afed26b53a0748fd9065bc233bd6fb15f43546bb", func := "baize/baizelaw02.HashKeeps", spec := "hashKeeps", apart := false, narrowed := true }
def HashKeepsUptoSaid : Prop := hashKeepsUptoRow.holds Try.pinned (OpenSpec.upto hashKeepsSpec)

/-- 'baizelaw05.OnceKeys', WHERE WHAT IT READS IS OF BULK AT MOST 1048576: true; the input reads as it did. -/
def onceKeysUptoRow : OpenClaim := { program := "ytdejlahgeckobaa", sum := "ba095beacfabe4c92df96498afed26b53a0748fd9065bc233bd6fb15f43546bb", func := "baize/baizelaw05.OnceKeys", spec := "onceKeys", unfollowed := true, recurses := true, apart := false, narrowed := true }
def OnceKeysUptoSaid : Prop := onceKeysUptoRow.holds Try.pinned (OpenSpec.upto onceKeysSpec)

/-- 'baizelaw05.OnceDigits', WHERE WHAT IT READS IS OF BULK AT MOST 1048576: true; the input reads as it did. -/
def onceDigitsUptoRow : OpenClaim := { program := "ytdejlahgeckobaa", sum := "ba095beacfabe4c92df96498afed26b53a0748fd9065bc233bd6fb15f43546bb", func := "baize/baizelaw05.OnceDigits", spec := "onceDigits", unfollowed := true, recurses := true, apart := false, narrowed := true }
def OnceDigitsUptoSaid : Prop := onceDigitsUptoRow.holds Try.pinned (OpenSpec.upto onceDigitsSpec)

/-- 'baizelaw08.VeilCommits', WHERE WHAT IT READS IS OF BULK AT MOST 1048576: true; the input reads as it did. -/
def veilCommitsUptoRow : OpenClaim := { program := "ytdejlahgeckobaa", sum := "ba095beacfabe4c92df96498afed26b53a0748fd9065bc233bd6fb15f43546bb", func := "baize/baizelaw08.VeilCommits", spec := "veilCommits", apart := false, narrowed := true }
def VeilCommitsUptoSaid : Prop := veilCommitsUptoRow.holds Try.pinned (OpenSpec.upto veilCommitsSpec)

/-- 'baizelaw08.VeilSeals', WHERE WHAT IT READS IS OF BULK AT MOST 1048576: true; the input reads as it did. -/
def veilSealsUptoRow : OpenClaim := { program := "ytdejlahgeckobaa", sum := "ba095beacfabe4c92df96498afed26b53a0748fd9065bc233bd6fb15f43546bb", func := "baize/baizelaw08.VeilSeals", spec := "veilSeals", apart := false, narrowed := true }
def VeilSealsUptoSaid : Prop := veilSealsUptoRow.holds Try.pinned (OpenSpec.upto veilSealsSpec)

/-- 'baizelaw08.VeilOpens', WHERE WHAT IT READS IS OF BULK AT MOST 1048576: true; the input reads as it did. -/
def veilOpensUptoRow : OpenClaim := { program := "ytdejlahgeckobaa", sum := "ba095beacfabe4c92df96498afed26b53a0748fd9065bc233bd6fb15f43546bb", func := "baize/baizelaw08.VeilOpens", spec := "veilOpens", apart := false, narrowed := true }
def VeilOpensUptoSaid : Prop := veilOpensUptoRow.holds Try.pinned (OpenSpec.upto veilOpensSpec)

/-- 'baizelaw08.VeilKeys', WHERE WHAT IT READS IS OF BULK AT MOST 1048576: true; the input reads as it did. -/
def veilKeysUptoRow : OpenClaim := { program := "ytdejlahgeckobaa", sum := "ba095beacfabe4c92df96498afed26b53a0748fd9065bc233bd6fb15f43546bb", func := "baize/baizelaw08.VeilKeys", spec := "veilKeys", apart := false, narrowed := true }
def VeilKeysUptoSaid : Prop := veilKeysUptoRow.holds Try.pinned (OpenSpec.upto veilKeysSpec)

/-- 'baizelaw08.VeilLengths', WHERE WHAT IT READS IS OF BULK AT MOST 1048576: true; the input reads as it did. -/
def veilLengthsUptoRow : OpenClaim := { program := "ytdejlahgeckobaa", sum := "ba095beacfabe4c92df96498afed26b53a0748fd9065bc233bd6fb15f43546bb", func := "baize/baizelaw08.VeilLengths", spec := "veilLengths", apart := false, narrowed := true }
def VeilLengthsUptoSaid : Prop := veilLengthsUptoRow.holds Try.pinned (OpenSpec.upto veilLengthsSpec)

/-- 'baizelaw08.VeilTurned', WHERE WHAT IT READS IS OF BULK AT MOST 1048576: true; the input reads as it did. -/
def veilTurnedUptoRow : OpenClaim := { program := "ytdejlahgeckobaa", sum := "ba095beacfabe4c92df96498afed26b53a0748fd9065bc233bd6fb15f43546bb", func := "baize/baizelaw08.VeilTurned", spec := "veilTurned", apart := false, narrowed := true }
def VeilTurnedUptoSaid : Prop := veilTurnedUptoRow.holds Try.pinned (OpenSpec.upto veilTurnedSpec)

/-- 'baizelaw08.VeilLong', WHERE WHAT IT READS IS OF BULK AT MOST 1048576: true; the input reads as it did. -/
def veilLongUptoRow : OpenClaim := { program := "ytdejlahgeckobaa", sum := "ba095beacfabe4c92df96498afed26b53a0748fd9065bc233bd6fb15f43546bb", func := "baize/baizelaw08.VeilLong", spec := "veilLong", apart := false, narrowed := true }
def VeilLongUptoSaid : Prop := veilLongUptoRow.holds Try.pinned (OpenSpec.upto veilLongSpec)

/-- 'baizelaw08.VeilOwn', WHERE WHAT IT READS IS OF BULK AT MOST 1048576: true; the input reads as it did. -/
def veilOwnUptoRow : OpenClaim := { program := "ytdejlahgeckobaa", sum := "ba095beacfabe4c92df96498afed26b53a0748fd9065bc233bd6fb15f43546bb", func := "baize/baizelaw08.VeilOwn", spec := "veilOwn", apart := false, narrowed := true }
def VeilOwnUptoSaid : Prop := veilOwnUptoRow.holds Try.pinned (OpenSpec.upto veilOwnSpec)

end Rows
end Go.Proofs.Ytdejlahgeckobaa
