/-
  No cell of these rows narrows 'for every input' (looked for: loops, veiled, ifaces, maps, wideKeys, modest, calm, conditions, laid).
  DERIVED. THE GIVEN ROWS OF THIS SEAT. 10 by the template 'for every input the law returns true; each argument reads behind the call as it read before'; 0 by the template 'total and deterministic' (their statements: YtbhibfdlkahagaaTotals.lean).
  GIVEN WITH THE SEED: the statements are not yours to turn. If you find one false, say at which input.
  Laid BY PROGRAM, IN A SANDBOX (cutbox-rows.mjs): the forced cells as the released guide's own fill.sh prints them over the translation 8ee2cbe87075b137… (all of the seat's roots in one cut). By AI agents, Wed Nov 11 2026. No macro, syntax, notation, axiom, sorry.
-/
import Derived.Test.YtbhibfdlkahagaaChecked
import GoSem.Claim
import GoSem.ClaimJoined
import GoSem.ClaimMapViews
import Derived.JoinedTies
import Derived.KernelRfl
namespace Go.Proofs.Ytbhibfdlkahagaa
/- THE CELL 'sum', in the pinned program and in every row, IS THE sha256 OF THE DUMP (.gsa) THAT YtbhibfdlkahagaaProg.lean LOADS. Nothing in Lean hashes anything: it is a label: what it is worth is what the hold of that sum in a sandbox is worth. -/
noncomputable def Try.pinned : Pinned := { name := "ytbhibfdlkahagaa", sum := "8ee2cbe87075b1378c5bd679e92a424422efbd9a6c7674aee2748a361dc5bc9c", checked := Try.checked }
namespace Rows
def none {H : Type} : Left H := { results := [], args := [] }

/-- 'baizelaw02.HashSame': WHATEVER THE INPUT: true; the input reads as it did. -/
def hashSameSpec : ChangeSpec := { name := "hashSame", fn := fun _ => fun
  | [d1, d2, d3, d4] => { results := [.lit (.bool true)], args := [d1, d2, d3, d4] }
  | _ => none }
def hashSameRow : OpenClaim := { program := "ytbhibfdlkahagaa", sum := "8ee2cbe87075b1378c5bd679e92a424422efbd9a6c7674aee2748a361dc5bc9c", func := "baize/baizelaw02.HashSame", spec := "hashSame", apart := false }
def HashSameSaid : Prop := hashSameRow.holds Try.pinned (OpenSpec.ofChange hashSameSpec)

/-- ITS FALSE NEIGHBOUR: 'it returns false'. Refute it at one input. -/
def hashSameWrong : ChangeSpec := { name := "hashSame", fn := fun _ => fun
  | [d1, d2, d3, d4] => { results := [.lit (.bool false)], args := [d1, d2, d3, d4] }
  | _ => none }
def HashSameWrongFalsely : Prop := hashSameRow.holds Try.pinned (OpenSpec.ofChange hashSameWrong)

/-- 'baizelaw02.HashKeeps': WHATEVER THE INPUT: true; the input reads as it did. -/
def hashKeepsSpec : ChangeSpec := { name := "hashKeeps", fn := fun _ => fun
  | [d1, d2, d3] => { results := [.lit (.bool true)], args := [d1, d2, d3] }
  | _ => none }
def hashKeepsRow : OpenClaim := { program := "ytbhibfdlkahagaa", sum := "8ee2cbe87075b1378c5bd679e92a424422efbd9a6c7674aee2748a361dc5bc9c", func := "baize/baizelaw02.HashKeeps", spec := "hashKeeps", apart := false }
def HashKeepsSaid : Prop := hashKeepsRow.holds Try.pinned (OpenSpec.ofChange hashKeepsSpec)

/-- ITS FALSE NEIGHBOUR: 'it returns false'. Refute it at one input. -/
def hashKeepsWrong : ChangeSpec := { name := "hashKeeps", fn := fun _ => fun
  | [d1, d2, d3] => { results := [.lit (.bool false)], args := [d1, d2, d3] }
  | _ => none }
def HashKeepsWrongFalsely : Prop := hashKeepsRow.holds Try.pinned (OpenSpec.ofChange hashKeepsWrong)

/-- 'baizelaw05.OnceKeys': WHATEVER THE INPUT: true; the input reads as it did. -/
def onceKeysSpec : ChangeSpec := { name := "onceKeys", fn := fun _ => fun
  | [d1, d2] => { results := [.lit (.bool true)], args := [d1, d2] }
  | _ => none }
def onceKeysRow : OpenClaim := { program := "ytbhibfdlkahagaa", sum := "8ee2cbe87075b1378c5bd679e92a424422efbd9a6c7674aee2748a361dc5bc9c", func := "baize/baizelaw05.OnceKeys", spec := "onceKeys", unfollowed := true, recurses := true, apart := false }
def OnceKeysSaid : Prop := onceKeysRow.holds Try.pinned (OpenSpec.ofChange onceKeysSpec)

/-- ITS FALSE NEIGHBOUR: 'it returns false'. Refute it at one input. -/
def onceKeysWrong : ChangeSpec := { name := "onceKeys", fn := fun _ => fun
  | [d1, d2] => { results := [.lit (.bool false)], args := [d1, d2] }
  | _ => none }
def OnceKeysWrongFalsely : Prop := onceKeysRow.holds Try.pinned (OpenSpec.ofChange onceKeysWrong)

/-- 'baizelaw05.OnceTells': WHATEVER THE INPUT: true; the input reads as it did. -/
def onceTellsSpec : ChangeSpec := { name := "onceTells", fn := fun _ => fun
  | [d1, d2, d3, d4] => { results := [.lit (.bool true)], args := [d1, d2, d3, d4] }
  | _ => none }
def onceTellsRow : OpenClaim := { program := "ytbhibfdlkahagaa", sum := "8ee2cbe87075b1378c5bd679e92a424422efbd9a6c7674aee2748a361dc5bc9c", func := "baize/baizelaw05.OnceTells", spec := "onceTells", unfollowed := true, recurses := true, apart := false }
def OnceTellsSaid : Prop := onceTellsRow.holds Try.pinned (OpenSpec.ofChange onceTellsSpec)

/-- ITS FALSE NEIGHBOUR: 'it returns false'. Refute it at one input. -/
def onceTellsWrong : ChangeSpec := { name := "onceTells", fn := fun _ => fun
  | [d1, d2, d3, d4] => { results := [.lit (.bool false)], args := [d1, d2, d3, d4] }
  | _ => none }
def OnceTellsWrongFalsely : Prop := onceTellsRow.holds Try.pinned (OpenSpec.ofChange onceTellsWrong)

/-- 'baizelaw05.OnceSigns': WHATEVER THE INPUT: true; the input reads as it did. -/
def onceSignsSpec : ChangeSpec := { name := "onceSigns", fn := fun _ => fun
  | [d1, d2] => { results := [.lit (.bool true)], args := [d1, d2] }
  | _ => none }
def onceSignsRow : OpenClaim := { program := "ytbhibfdlkahagaa", sum := "8ee2cbe87075b1378c5bd679e92a424422efbd9a6c7674aee2748a361dc5bc9c", func := "baize/baizelaw05.OnceSigns", spec := "onceSigns", unfollowed := true, recurses := true, apart := false }
def OnceSignsSaid : Prop := onceSignsRow.holds Try.pinned (OpenSpec.ofChange onceSignsSpec)

/-- ITS FALSE NEIGHBOUR: 'it returns false'. Refute it at one input. -/
def onceSignsWrong : ChangeSpec := { name := "onceSigns", fn := fun _ => fun
  | [d1, d2] => { results := [.lit (.bool false)], args := [d1, d2] }
  | _ => none }
def OnceSignsWrongFalsely : Prop := onceSignsRow.holds Try.pinned (OpenSpec.ofChange onceSignsWrong)

/-- 'baizelaw05.OnceDigits': WHATEVER THE INPUT: true; the input reads as it did. -/
def onceDigitsSpec : ChangeSpec := { name := "onceDigits", fn := fun _ => fun
  | [d] => { results := [.lit (.bool true)], args := [d] }
  | _ => none }
def onceDigitsRow : OpenClaim := { program := "ytbhibfdlkahagaa", sum := "8ee2cbe87075b1378c5bd679e92a424422efbd9a6c7674aee2748a361dc5bc9c", func := "baize/baizelaw05.OnceDigits", spec := "onceDigits", unfollowed := true, recurses := true, apart := false }
def OnceDigitsSaid : Prop := onceDigitsRow.holds Try.pinned (OpenSpec.ofChange onceDigitsSpec)

/-- ITS FALSE NEIGHBOUR: 'it returns false'. Refute it at one input. -/
def onceDigitsWrong : ChangeSpec := { name := "onceDigits", fn := fun _ => fun
  | [d] => { results := [.lit (.bool false)], args := [d] }
  | _ => none }
def OnceDigitsWrongFalsely : Prop := onceDigitsRow.holds Try.pinned (OpenSpec.ofChange onceDigitsWrong)

/-- 'baizelaw05.OnceAhead': WHATEVER THE INPUT: true; the input reads as it did. -/
def onceAheadSpec : ChangeSpec := { name := "onceAhead", fn := fun _ => fun
  | [d1, d2] => { results := [.lit (.bool true)], args := [d1, d2] }
  | _ => none }
def onceAheadRow : OpenClaim := { program := "ytbhibfdlkahagaa", sum := "8ee2cbe87075b1378c5bd679e92a424422efbd9a6c7674aee2748a361dc5bc9c", func := "baize/baizelaw05.OnceAhead", spec := "onceAhead", unfollowed := true, recurses := true, apart := false }
def OnceAheadSaid : Prop := onceAheadRow.holds Try.pinned (OpenSpec.ofChange onceAheadSpec)

/-- ITS FALSE NEIGHBOUR: 'it returns false'. Refute it at one input. -/
def onceAheadWrong : ChangeSpec := { name := "onceAhead", fn := fun _ => fun
  | [d1, d2] => { results := [.lit (.bool false)], args := [d1, d2] }
  | _ => none }
def OnceAheadWrongFalsely : Prop := onceAheadRow.holds Try.pinned (OpenSpec.ofChange onceAheadWrong)

/-- 'baizelaw05.OnceShows': WHATEVER THE INPUT: true; the input reads as it did. -/
def onceShowsSpec : ChangeSpec := { name := "onceShows", fn := fun _ => fun
  | [d1, d2, d3] => { results := [.lit (.bool true)], args := [d1, d2, d3] }
  | _ => none }
def onceShowsRow : OpenClaim := { program := "ytbhibfdlkahagaa", sum := "8ee2cbe87075b1378c5bd679e92a424422efbd9a6c7674aee2748a361dc5bc9c", func := "baize/baizelaw05.OnceShows", spec := "onceShows", unfollowed := true, recurses := true, apart := false }
def OnceShowsSaid : Prop := onceShowsRow.holds Try.pinned (OpenSpec.ofChange onceShowsSpec)

/-- ITS FALSE NEIGHBOUR: 'it returns false'. Refute it at one input. -/
def onceShowsWrong : ChangeSpec := { name := "onceShows", fn := fun _ => fun
  | [d1, d2, d3] => { results := [.lit (.bool false)], args := [d1, d2, d3] }
  | _ => none }
def OnceShowsWrongFalsely : Prop := onceShowsRow.holds Try.pinned (OpenSpec.ofChange onceShowsWrong)

/-- 'baizelaw05.OnceMixes': WHATEVER THE INPUT: true; the input reads as it did. -/
def onceMixesSpec : ChangeSpec := { name := "onceMixes", fn := fun _ => fun
  | [d1, d2, d3, d4, d5] => { results := [.lit (.bool true)], args := [d1, d2, d3, d4, d5] }
  | _ => none }
def onceMixesRow : OpenClaim := { program := "ytbhibfdlkahagaa", sum := "8ee2cbe87075b1378c5bd679e92a424422efbd9a6c7674aee2748a361dc5bc9c", func := "baize/baizelaw05.OnceMixes", spec := "onceMixes", unfollowed := true, recurses := true, apart := false }
def OnceMixesSaid : Prop := onceMixesRow.holds Try.pinned (OpenSpec.ofChange onceMixesSpec)

/-- ITS FALSE NEIGHBOUR: 'it returns false'. Refute it at one input. -/
def onceMixesWrong : ChangeSpec := { name := "onceMixes", fn := fun _ => fun
  | [d1, d2, d3, d4, d5] => { results := [.lit (.bool false)], args := [d1, d2, d3, d4, d5] }
  | _ => none }
def OnceMixesWrongFalsely : Prop := onceMixesRow.holds Try.pinned (OpenSpec.ofChange onceMixesWrong)

/-- 'baizelaw05.OnceApart': WHATEVER THE INPUT: true; the input reads as it did. -/
def onceApartSpec : ChangeSpec := { name := "onceApart", fn := fun _ => fun
  | [d1, d2, d3] => { results := [.lit (.bool true)], args := [d1, d2, d3] }
  | _ => none }
def onceApartRow : OpenClaim := { program := "ytbhibfdlkahagaa", sum := "8ee2cbe87075b1378c5bd679e92a424422efbd9a6c7674aee2748a361dc5bc9c", func := "baize/baizelaw05.OnceApart", spec := "onceApart", unfollowed := true, recurses := true, apart := false }
def OnceApartSaid : Prop := onceApartRow.holds Try.pinned (OpenSpec.ofChange onceApartSpec)

/-- ITS FALSE NEIGHBOUR: 'it returns false'. Refute it at one input. -/
def onceApartWrong : ChangeSpec := { name := "onceApart", fn := fun _ => fun
  | [d1, d2, d3] => { results := [.lit (.bool false)], args := [d1, d2, d3] }
  | _ => none }
def OnceApartWrongFalsely : Prop := onceApartRow.holds Try.pinned (OpenSpec.ofChange onceApartWrong)

/- THE SECOND FORM. 'bulk': how many values and letters a reading holds, each counted each time it is reached (what is shared counts as often as it is met; a slice's spare places count too). A statement '..UptoSaid' is the law's where the arguments, and the package variables that the reading takes, are together of bulk at most 1048576: NARROWER than '..Said'. Prove '..Said' where nothing that the law and all that it calls make is longer than what came in: it says more and counts as full. Else prove '..UptoSaid'. A law counts once. -/
mutual
def uptoBulk {H : Type} : DataW H → Nat
  | .lit (.string bytes) => bytes.length + 1
  | .lit _ => 1
  | .nil => 1
  | .ptr d => uptoBulk d + 1
  | .slice elems spare => uptoBulkAll elems + uptoBulkAll spare + 1
  | .agg parts => uptoBulkAll parts + 1
  | .iface _ d => uptoBulk d + 1
  | .map entries => uptoBulkEntries entries + 1
  | .held _ => 1
def uptoBulkAll {H : Type} : List (DataW H) → Nat
  | [] => 0
  | d :: r => uptoBulk d + uptoBulkAll r
def uptoBulkEntries {H : Type} : List (Lit × DataW H) → Nat
  | [] => 0
  | x :: r => uptoBulkEntry x + uptoBulkEntries r
def uptoBulkEntry {H : Type} : Lit × DataW H → Nat
  | (.string bytes, d) => bytes.length + uptoBulk d + 1
  | (_, d) => uptoBulk d + 1
 end
def uptoSmall : (H : Type) → List (DataW H) → Bool := fun _ ds => decide (uptoBulkAll ds ≤ 1048576)
def OpenSpec.upto (s : _root_.Go.ChangeSpec) : _root_.Go.OpenSpec := { _root_.Go.OpenSpec.ofChange s with cond := some uptoSmall }

/-- 'baizelaw02.HashSame', WHERE WHAT IT READS IS OF BULK AT MOST 1048576: true; the input reads as it did. -/
def hashSameUptoRow : OpenClaim := { program := "ytbhibfdlkahagaa", sum := "8ee2cbe87075b1378c5bd679e92a424422efbd9a6c7674aee2748a361dc5bc9c", func := "baize/baizelaw02.HashSame", spec := "hashSame", apart := false, narrowed := true }
def HashSameUptoSaid : Prop := hashSameUptoRow.holds Try.pinned (OpenSpec.upto hashSameSpec)

/-- 'baizelaw02.HashKeeps', WHERE WHAT IT READS IS OF BULK AT MOST 1048576: true; the input reads as it did. -/
def hashKeepsUptoRow : OpenClaim := { program := "ytbhibfdlkahagaa", sum := "8ee2cbe87075b1378c5bd679e92a424422efbd9a6c7674aee2748a361dc5bc9c", func := "baize/baizelaw02.HashKeeps", spec := "hashKeeps", apart := false, narrowed := true }
def HashKeepsUptoSaid : Prop := hashKeepsUptoRow.holds Try.pinned (OpenSpec.upto hashKeepsSpec)

/-- 'baizelaw05.OnceKeys', WHERE WHAT IT READS IS OF BULK AT MOST 1048576: true; the input reads as it did. -/
def onceKeysUptoRow : OpenClaim := { program := "ytbhibfdlkahagaa", sum := "8ee2cbe87075b1378c5bd679e92a424422efbd9a6c7674aee2748a361dc5bc9c", func := "baize/baizelaw05.OnceKeys", spec := "onceKeys", unfollowed := true, recurses := true, apart := false, narrowed := true }
def OnceKeysUptoSaid : Prop := onceKeysUptoRow.holds Try.pinned (OpenSpec.upto onceKeysSpec)

/-- 'baizelaw05.OnceTells', WHERE WHAT IT READS IS OF BULK AT MOST 1048576: true; the input reads as it did. -/
def onceTellsUptoRow : OpenClaim := { program := "ytbhibfdlkahagaa", sum := "8ee2cbe87075b1378c5bd679e92a424422efbd9a6c7674aee2748a361dc5bc9c", func := "baize/baizelaw05.OnceTells", spec := "onceTells", unfollowed := true, recurses := true, apart := false, narrowed := true }
def OnceTellsUptoSaid : Prop := onceTellsUptoRow.holds Try.pinned (OpenSpec.upto onceTellsSpec)

/-- 'baizelaw05.OnceSigns', WHERE WHAT IT READS IS OF BULK AT MOST 1048576: true; the input reads as it did. -/
def onceSignsUptoRow : OpenClaim := { program := "ytbhibfdlkahagaa", sum := "8ee2cbe87075b1378c5bd679e92a424422efbd9a6c7674aee2748a361dc5bc9c", func := "baize/baizelaw05.OnceSigns", spec := "onceSigns", unfollowed := true, recurses := true, apart := false, narrowed := true }
def OnceSignsUptoSaid : Prop := onceSignsUptoRow.holds Try.pinned (OpenSpec.upto onceSignsSpec)

/-- 'baizelaw05.OnceDigits', WHERE WHAT IT READS IS OF BULK AT MOST 1048576: true; the input reads as it did. -/
def onceDigitsUptoRow : OpenClaim := { program := "ytbhibfdlkahagaa", sum := "8ee2cbe87075b1378c5bd679e92a424422efbd9a6c7674aee2748a361dc5bc9c", func := "baize/baizelaw05.OnceDigits", spec := "onceDigits", unfollowed := true, recurses := true, apart := false, narrowed := true }
def OnceDigitsUptoSaid : Prop := onceDigitsUptoRow.holds Try.pinned (OpenSpec.upto onceDigitsSpec)

/-- 'baizelaw05.OnceAhead', WHERE WHAT IT READS IS OF BULK AT MOST 1048576: true; the input reads as it did. -/
def onceAheadUptoRow : OpenClaim := { program := "ytbhibfdlkahagaa", sum := "8ee2cbe87075b1378c5bd679e92a424422efbd9a6c7674aee2748a361dc5bc9c", func := "baize/baizelaw05.OnceAhead", spec := "onceAhead", unfollowed := true, recurses := true, apart := false, narrowed := true }
def OnceAheadUptoSaid : Prop := onceAheadUptoRow.holds Try.pinned (OpenSpec.upto onceAheadSpec)

/-- 'baizelaw05.OnceShows', WHERE WHAT IT READS IS OF BULK AT MOST 1048576: true; the input reads as it did. -/
def onceShowsUptoRow : OpenClaim := { program := "ytbhibfdlkahagaa", sum := "8ee2cbe87075b1378c5bd679e92a424422efbd9a6c7674aee2748a361dc5bc9c", func := "baize/baizelaw05.OnceShows", spec := "onceShows", unfollowed := true, recurses := true, apart := false, narrowed := true }
def OnceShowsUptoSaid : Prop := onceShowsUptoRow.holds Try.pinned (OpenSpec.upto onceShowsSpec)

/-- 'baizelaw05.OnceMixes', WHERE WHAT IT READS IS OF BULK AT MOST 1048576: true; the input reads as it did. -/
def onceMixesUptoRow : OpenClaim := { program := "ytbhibfdlkahagaa", sum := "8ee2cbe87075b1378c5bd679e92a424422efbd9a6c7674aee2748a361dc5bc9c", func := "baize/baizelaw05.OnceMixes", spec := "onceMixes", unfollowed := true, recurses := true, apart := false, narrowed := true }
def OnceMixesUptoSaid : Prop := onceMixesUptoRow.holds Try.pinned (OpenSpec.upto onceMixesSpec)

/-- 'baizelaw05.OnceApart', WHERE WHAT IT READS IS OF BULK AT MOST 1048576: true; the input reads as it did. -/
def onceApartUptoRow : OpenClaim := { program := "ytbhibfdlkahagaa", sum := "8ee2cbe87075b1378c5bd679e92a424422efbd9a6c7674aee2748a361dc5bc9c", func := "baize/baizelaw05.OnceApart", spec := "onceApart", unfollowed := true, recurses := true, apart := false, narrowed := true }
def OnceApartUptoSaid : Prop := onceApartUptoRow.holds Try.pinned (OpenSpec.upto onceApartSpec)

end Rows
end Go.Proofs.Ytbhibfdlkahagaa
