/-
  No cell of these rows narrows 'for every input' (looked for: loops, veiled, ifaces, maps, wideKeys, modest, calm, conditions, laid).
  DERIVED. THE GIVEN ROWS OF THIS SEAT. 6 by the template 'for every input the law returns true; each argument reads behind the call as it read before'; 0 by the template 'total and deterministic' (their statements: YtbkpekpajeaacaaTotals.lean).
  GIVEN WITH THE SEED: the statements are not yours to turn. If you find one false, say at which input.
  Laid BY PROGRAM, IN A SANDBOX (cutbox-rows.mjs): the forced cells as the released guide's own fill.sh prints them over the translation 0f23d1d99ed61f6d… (all of the seat's roots in one cut). By AI agents, Wed Nov 11 2026. No macro, syntax, notation, axiom, sorry.
-/
import Derived.Test.YtbkpekpajeaacaaChecked
import GoSem.Claim
import GoSem.ClaimJoined
import GoSem.ClaimMapViews
import Derived.JoinedTies
import Derived.KernelRfl
namespace Go.Proofs.Ytbkpekpajeaacaa
/- THE CELL 'sum', in the pinned program and in every row, IS THE sha256 OF THE DUMP (.gsa) THAT YtbkpekpajeaacaaProg.lean LOADS. Nothing in Lean hashes anything: it is a label: what it is worth is what the hold of that sum in a sandbox is worth. -/
noncomputable def Try.pinned : Pinned := { name := "ytbkpekpajeaacaa", sum := "0f23d1d99ed61f6d35a215093644c129da1640e93bf8e4c5ac24a370fb5172f8", checked := Try.checked }
namespace Rows
def none {H : Type} : Left H := { results := [], args := [] }

/-- 'selvedgelaw18.PostWrites': WHATEVER THE INPUT: true; the input reads as it did. -/
def postWritesSpec : ChangeSpec := { name := "postWrites", fn := fun _ => fun
  | [d] => { results := [.lit (.bool true)], args := [d] }
  | _ => none }
def postWritesRow : OpenClaim := { program := "ytbkpekpajeaacaa", sum := "0f23d1d99ed61f6d35a215093644c129da1640e93bf8e4c5ac24a370fb5172f8", func := "selvedge/selvedgelaw18.PostWrites", spec := "postWrites", inPlace := ["internal/abi.NoEscape"], unfollowed := true, recurses := true, apart := false }
def PostWritesSaid : Prop := postWritesRow.holds Try.pinned (OpenSpec.ofChange postWritesSpec)

/-- ITS FALSE NEIGHBOUR: 'it returns false'. Refute it at one input. -/
def postWritesWrong : ChangeSpec := { name := "postWrites", fn := fun _ => fun
  | [d] => { results := [.lit (.bool false)], args := [d] }
  | _ => none }
def PostWritesWrongFalsely : Prop := postWritesRow.holds Try.pinned (OpenSpec.ofChange postWritesWrong)

/-- 'selvedgelaw18.PostTakes': WHATEVER THE INPUT: true; the input reads as it did. -/
def postTakesSpec : ChangeSpec := { name := "postTakes", fn := fun _ => fun
  | [d1, d2] => { results := [.lit (.bool true)], args := [d1, d2] }
  | _ => none }
def postTakesRow : OpenClaim := { program := "ytbkpekpajeaacaa", sum := "0f23d1d99ed61f6d35a215093644c129da1640e93bf8e4c5ac24a370fb5172f8", func := "selvedge/selvedgelaw18.PostTakes", spec := "postTakes", unfollowed := true, recurses := true, apart := false }
def PostTakesSaid : Prop := postTakesRow.holds Try.pinned (OpenSpec.ofChange postTakesSpec)

/-- ITS FALSE NEIGHBOUR: 'it returns false'. Refute it at one input. -/
def postTakesWrong : ChangeSpec := { name := "postTakes", fn := fun _ => fun
  | [d1, d2] => { results := [.lit (.bool false)], args := [d1, d2] }
  | _ => none }
def PostTakesWrongFalsely : Prop := postTakesRow.holds Try.pinned (OpenSpec.ofChange postTakesWrong)

/-- 'selvedgelaw18.PostBack': WHATEVER THE INPUT: true; the input reads as it did. -/
def postBackSpec : ChangeSpec := { name := "postBack", fn := fun _ => fun
  | [d] => { results := [.lit (.bool true)], args := [d] }
  | _ => none }
def postBackRow : OpenClaim := { program := "ytbkpekpajeaacaa", sum := "0f23d1d99ed61f6d35a215093644c129da1640e93bf8e4c5ac24a370fb5172f8", func := "selvedge/selvedgelaw18.PostBack", spec := "postBack", inPlace := ["internal/abi.NoEscape"], unfollowed := true, recurses := true, apart := false }
def PostBackSaid : Prop := postBackRow.holds Try.pinned (OpenSpec.ofChange postBackSpec)

/-- ITS FALSE NEIGHBOUR: 'it returns false'. Refute it at one input. -/
def postBackWrong : ChangeSpec := { name := "postBack", fn := fun _ => fun
  | [d] => { results := [.lit (.bool false)], args := [d] }
  | _ => none }
def PostBackWrongFalsely : Prop := postBackRow.holds Try.pinned (OpenSpec.ofChange postBackWrong)

/-- 'selvedgelaw18.PostOwn': WHATEVER THE INPUT: true; the input reads as it did. -/
def postOwnSpec : ChangeSpec := { name := "postOwn", fn := fun _ => fun
  | [d1, d2] => { results := [.lit (.bool true)], args := [d1, d2] }
  | _ => none }
def postOwnRow : OpenClaim := { program := "ytbkpekpajeaacaa", sum := "0f23d1d99ed61f6d35a215093644c129da1640e93bf8e4c5ac24a370fb5172f8", func := "selvedge/selvedgelaw18.PostOwn", spec := "postOwn", unfollowed := true, recurses := true, apart := false }
def PostOwnSaid : Prop := postOwnRow.holds Try.pinned (OpenSpec.ofChange postOwnSpec)

/-- ITS FALSE NEIGHBOUR: 'it returns false'. Refute it at one input. -/
def postOwnWrong : ChangeSpec := { name := "postOwn", fn := fun _ => fun
  | [d1, d2] => { results := [.lit (.bool false)], args := [d1, d2] }
  | _ => none }
def PostOwnWrongFalsely : Prop := postOwnRow.holds Try.pinned (OpenSpec.ofChange postOwnWrong)

/-- 'selvedgelaw18.PostCut': WHATEVER THE INPUT: true; the input reads as it did. -/
def postCutSpec : ChangeSpec := { name := "postCut", fn := fun _ => fun
  | [d1, d2] => { results := [.lit (.bool true)], args := [d1, d2] }
  | _ => none }
def postCutRow : OpenClaim := { program := "ytbkpekpajeaacaa", sum := "0f23d1d99ed61f6d35a215093644c129da1640e93bf8e4c5ac24a370fb5172f8", func := "selvedge/selvedgelaw18.PostCut", spec := "postCut", unfollowed := true, recurses := true, apart := false }
def PostCutSaid : Prop := postCutRow.holds Try.pinned (OpenSpec.ofChange postCutSpec)

/-- ITS FALSE NEIGHBOUR: 'it returns false'. Refute it at one input. -/
def postCutWrong : ChangeSpec := { name := "postCut", fn := fun _ => fun
  | [d1, d2] => { results := [.lit (.bool false)], args := [d1, d2] }
  | _ => none }
def PostCutWrongFalsely : Prop := postCutRow.holds Try.pinned (OpenSpec.ofChange postCutWrong)

/-- 'selvedgelaw18.PostLetters': WHATEVER THE INPUT: true; the input reads as it did. -/
def postLettersSpec : ChangeSpec := { name := "postLetters", fn := fun _ => fun
  | [d] => { results := [.lit (.bool true)], args := [d] }
  | _ => none }
def postLettersRow : OpenClaim := { program := "ytbkpekpajeaacaa", sum := "0f23d1d99ed61f6d35a215093644c129da1640e93bf8e4c5ac24a370fb5172f8", func := "selvedge/selvedgelaw18.PostLetters", spec := "postLetters", inPlace := ["internal/abi.NoEscape"], unfollowed := true, recurses := true, apart := false }
def PostLettersSaid : Prop := postLettersRow.holds Try.pinned (OpenSpec.ofChange postLettersSpec)

/-- ITS FALSE NEIGHBOUR: 'it returns false'. Refute it at one input. -/
def postLettersWrong : ChangeSpec := { name := "postLetters", fn := fun _ => fun
  | [d] => { results := [.lit (.bool false)], args := [d] }
  | _ => none }
def PostLettersWrongFalsely : Prop := postLettersRow.holds Try.pinned (OpenSpec.ofChange postLettersWrong)

/- THE SECOND FORM. 'bulk': how many values and letters a reading holds, each counted each time it is reached (what is shared counts as often as it is met; a slice's spare places count too). A statement '..UptoSaid' is the law's where the arguments, and the package variables that the reading takes, are together of bulk at most 1048576: NARROWER than '..Said'. Prove '..Said' where nothing that the law and all that it calls make is longer than what came in: it says more and counts as full. Else prove '..UptoSaid'. A law counts once. -/
mutual
def uptoBulk {H : Type} : DataW H → Nat
  | .lit (.string bytes) => bytes.length + 1
  | .lit _ => 1
  | .nil => 1
  | .ptr d => uptoBulk d + 1
  | .slice elems spare => uptoBulkAll elems + uptoBulkAll spare + 1
  | .agg parts => uptoBulkAll parts + 1
  | .iface _ d => uptoBulk d + 1
  | .map entries => uptoBulkEntries entries + 1
  | .held _ => 1
def uptoBulkAll {H : Type} : List (DataW H) → Nat
  | [] => 0
  | d :: r => uptoBulk d + uptoBulkAll r
def uptoBulkEntries {H : Type} : List (Lit × DataW H) → Nat
  | [] => 0
  | x :: r => uptoBulkEntry x + uptoBulkEntries r
def uptoBulkEntry {H : Type} : Lit × DataW H → Nat
  | (.string bytes, d) => bytes.length + uptoBulk d + 1
  | (_, d) => uptoBulk d + 1
 end
def uptoSmall : (H : Type) → List (DataW H) → Bool := fun _ ds => decide (uptoBulkAll ds ≤ 1048576)
def OpenSpec.upto (s : _root_.Go.ChangeSpec) : _root_.Go.OpenSpec := { _root_.Go.OpenSpec.ofChange s with cond := some uptoSmall }

/-- 'selvedgelaw18.PostWrites', WHERE WHAT IT READS IS OF BULK AT MOST 1048576: true; the input reads as it did. -/
def postWritesUptoRow : OpenClaim := { program := "ytbkpekpajeaacaa", sum := "0f23d1d99ed61f6d35a215093644c129da1640e93bf8e4c5ac24a370fb5172f8", func := "selvedge/selvedgelaw18.PostWrites", spec := "postWrites", inPlace := ["internal/abi.NoEscape"], unfollowed := true, recurses := true, apart := false, narrowed := true }
def PostWritesUptoSaid : Prop := postWritesUptoRow.holds Try.pinned (OpenSpec.upto postWritesSpec)

/-- 'selvedgelaw18.PostTakes', WHERE WHAT IT READS IS OF BULK AT MOST 1048576: true; the input reads as it did. -/
def postTakesUptoRow : OpenClaim := { program := "ytbkpekpajeaacaa", sum := "0f23d1d99ed61f6d35a215093644c129da1640e93bf8e4c5ac24a370fb5172f8", func := "selvedge/selvedgelaw18.PostTakes", spec := "postTakes", unfollowed := true, recurses := true, apart := false, narrowed := true }
def PostTakesUptoSaid : Prop := postTakesUptoRow.holds Try.pinned (OpenSpec.upto postTakesSpec)

/-- 'selvedgelaw18.PostBack', WHERE WHAT IT READS IS OF BULK AT MOST 1048576: true; the input reads as it did. -/
def postBackUptoRow : OpenClaim := { program := "ytbkpekpajeaacaa", sum := "0f23d1d99ed61f6d35a215093644c129da1640e93bf8e4c5ac24a370fb5172f8", func := "selvedge/selvedgelaw18.PostBack", spec := "postBack", inPlace := ["internal/abi.NoEscape"], unfollowed := true, recurses := true, apart := false, narrowed := true }
def PostBackUptoSaid : Prop := postBackUptoRow.holds Try.pinned (OpenSpec.upto postBackSpec)

/-- 'selvedgelaw18.PostOwn', WHERE WHAT IT READS IS OF BULK AT MOST 1048576: true; the input reads as it did. -/
def postOwnUptoRow : OpenClaim := { program := "ytbkpekpajeaacaa", sum := "0f23d1d99ed61f6d35a215093644c129da1640e93bf8e4c5ac24a370fb5172f8", func := "selvedge/selvedgelaw18.PostOwn", spec := "postOwn", unfollowed := true, recurses := true, apart := false, narrowed := true }
def PostOwnUptoSaid : Prop := postOwnUptoRow.holds Try.pinned (OpenSpec.upto postOwnSpec)

/-- 'selvedgelaw18.PostCut', WHERE WHAT IT READS IS OF BULK AT MOST 1048576: true; the input reads as it did. -/
def postCutUptoRow : OpenClaim := { program := "ytbkpekpajeaacaa", sum := "0f23d1d99ed61f6d35a215093644c129da1640e93bf8e4c5ac24a370fb5172f8", func := "selvedge/selvedgelaw18.PostCut", spec := "postCut", unfollowed := true, recurses := true, apart := false, narrowed := true }
def PostCutUptoSaid : Prop := postCutUptoRow.holds Try.pinned (OpenSpec.upto postCutSpec)

/-- 'selvedgelaw18.PostLetters', WHERE WHAT IT READS IS OF BULK AT MOST 1048576: true; the input reads as it did. -/
def postLettersUptoRow : OpenClaim := { program := "ytbkpekpajeaacaa", sum := "0f23d1d99ed61f6d35a215093644c129da1640e93bf8e4c5ac24a370fb5172f8", func := "selvedge/selvedgelaw18.PostLetters", spec := "postLetters", inPlace := ["internal/abi.NoEscape"], unfollowed := true, recurses := true, apart := false, narrowed := true }
def PostLettersUptoSaid : Prop := postLettersUptoRow.holds Try.pinned (OpenSpec.upto postLettersSpec)

end Rows
end Go.Proofs.Ytbkpekpajeaacaa
