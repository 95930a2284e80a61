/-
  No cell of these rows narrows 'for every input' (looked for: loops, veiled, ifaces, maps, wideKeys, modest, calm, conditions, laid).
  DERIVED. THE GIVEN ROWS OF THIS SEAT. 8 by the template 'for every input the law returns true; each argument reads behind the call as it read before'; 0 by the template 'total and deterministic' (their statements: YtngmkokmomficaaTotals.lean).
  GIVEN WITH THE SEED: the statements are not yours to turn. If you find one false, say at which input.
  Laid BY PROGRAM, IN A SANDBOX (cutbox-rows.mjs): the forced cells as the released guide's own fill.sh prints them over the translation fc57a4797746d928… (all of the seat's roots in one cut). By AI agents, Wed Nov 11 2026. No macro, syntax, notation, axiom, sorry.
-/
import Derived.Test.YtngmkokmomficaaChecked
import GoSem.Claim
import GoSem.ClaimJoined
import GoSem.ClaimMapViews
import Derived.JoinedTies
import Derived.KernelRfl
namespace Go.Proofs.Ytngmkokmomficaa
/- THE CELL 'sum', in the pinned program and in every row, IS THE sha256 OF THE DUMP (.gsa) THAT YtngmkokmomficaaProg.lean LOADS. Nothing in Lean hashes anything: it is a label: what it is worth is what the hold of that sum in a sandbox is worth. -/
noncomputable def Try.pinned : Pinned := { name := "ytngmkokmomficaa", sum := "fc57a4797746d928b72203b3d3a32adf54163fce3a89f77f66002a4897f9c439", checked := Try.checked }
namespace Rows
def none {H : Type} : Left H := { results := [], args := [] }

/-- 'selvedgelaw04.ShareEvals': WHATEVER THE INPUT: true; the input reads as it did. -/
def shareEvalsSpec : ChangeSpec := { name := "shareEvals", fn := fun _ => fun
  | [d1, d2, d3] => { results := [.lit (.bool true)], args := [d1, d2, d3] }
  | _ => none }
def shareEvalsRow : OpenClaim := { program := "ytngmkokmomficaa", sum := "fc57a4797746d928b72203b3d3a32adf54163fce3a89f77f66002a4897f9c439", func := "selvedge/selvedgelaw04.ShareEvals", spec := "shareEvals", inPlace := ["math.archFloor", "math.Float64bits", "math.Float64frombits", "math.archTrunc"], unfollowed := true, recurses := true, apart := false }
def ShareEvalsSaid : Prop := shareEvalsRow.holds Try.pinned (OpenSpec.ofChange shareEvalsSpec)

/-- ITS FALSE NEIGHBOUR: 'it returns false'. Refute it at one input. -/
def shareEvalsWrong : ChangeSpec := { name := "shareEvals", fn := fun _ => fun
  | [d1, d2, d3] => { results := [.lit (.bool false)], args := [d1, d2, d3] }
  | _ => none }
def ShareEvalsWrongFalsely : Prop := shareEvalsRow.holds Try.pinned (OpenSpec.ofChange shareEvalsWrong)

/-- 'selvedgelaw04.ShareOpens': WHATEVER THE INPUT: true; the input reads as it did. -/
def shareOpensSpec : ChangeSpec := { name := "shareOpens", fn := fun _ => fun
  | [d1, d2] => { results := [.lit (.bool true)], args := [d1, d2] }
  | _ => none }
def shareOpensRow : OpenClaim := { program := "ytngmkokmomficaa", sum := "fc57a4797746d928b72203b3d3a32adf54163fce3a89f77f66002a4897f9c439", func := "selvedge/selvedgelaw04.ShareOpens", spec := "shareOpens", inPlace := ["math.archFloor", "math.Float64bits", "math.Float64frombits", "math.archTrunc"], unfollowed := true, recurses := true, apart := false }
def ShareOpensSaid : Prop := shareOpensRow.holds Try.pinned (OpenSpec.ofChange shareOpensSpec)

/-- ITS FALSE NEIGHBOUR: 'it returns false'. Refute it at one input. -/
def shareOpensWrong : ChangeSpec := { name := "shareOpens", fn := fun _ => fun
  | [d1, d2] => { results := [.lit (.bool false)], args := [d1, d2] }
  | _ => none }
def ShareOpensWrongFalsely : Prop := shareOpensRow.holds Try.pinned (OpenSpec.ofChange shareOpensWrong)

/-- 'selvedgelaw04.ShareSecret': WHATEVER THE INPUT: true; the input reads as it did. -/
def shareSecretSpec : ChangeSpec := { name := "shareSecret", fn := fun _ => fun
  | [d1, d2] => { results := [.lit (.bool true)], args := [d1, d2] }
  | _ => none }
def shareSecretRow : OpenClaim := { program := "ytngmkokmomficaa", sum := "fc57a4797746d928b72203b3d3a32adf54163fce3a89f77f66002a4897f9c439", func := "selvedge/selvedgelaw04.ShareSecret", spec := "shareSecret", inPlace := ["math.archFloor", "math.Float64bits", "math.Float64frombits", "math.archTrunc"], unfollowed := true, recurses := true, apart := false }
def ShareSecretSaid : Prop := shareSecretRow.holds Try.pinned (OpenSpec.ofChange shareSecretSpec)

/-- ITS FALSE NEIGHBOUR: 'it returns false'. Refute it at one input. -/
def shareSecretWrong : ChangeSpec := { name := "shareSecret", fn := fun _ => fun
  | [d1, d2] => { results := [.lit (.bool false)], args := [d1, d2] }
  | _ => none }
def ShareSecretWrongFalsely : Prop := shareSecretRow.holds Try.pinned (OpenSpec.ofChange shareSecretWrong)

/-- 'selvedgelaw04.ShareHides': WHATEVER THE INPUT: true; the input reads as it did. -/
def shareHidesSpec : ChangeSpec := { name := "shareHides", fn := fun _ => fun
  | [d1, d2, d3] => { results := [.lit (.bool true)], args := [d1, d2, d3] }
  | _ => none }
def shareHidesRow : OpenClaim := { program := "ytngmkokmomficaa", sum := "fc57a4797746d928b72203b3d3a32adf54163fce3a89f77f66002a4897f9c439", func := "selvedge/selvedgelaw04.ShareHides", spec := "shareHides", inPlace := ["math.archFloor", "math.Float64bits", "math.Float64frombits", "math.archTrunc"], unfollowed := true, recurses := true, apart := false }
def ShareHidesSaid : Prop := shareHidesRow.holds Try.pinned (OpenSpec.ofChange shareHidesSpec)

/-- ITS FALSE NEIGHBOUR: 'it returns false'. Refute it at one input. -/
def shareHidesWrong : ChangeSpec := { name := "shareHides", fn := fun _ => fun
  | [d1, d2, d3] => { results := [.lit (.bool false)], args := [d1, d2, d3] }
  | _ => none }
def ShareHidesWrongFalsely : Prop := shareHidesRow.holds Try.pinned (OpenSpec.ofChange shareHidesWrong)

/-- 'selvedgelaw04.ShareAdds': WHATEVER THE INPUT: true; the input reads as it did. -/
def shareAddsSpec : ChangeSpec := { name := "shareAdds", fn := fun _ => fun
  | [d1, d2, d3] => { results := [.lit (.bool true)], args := [d1, d2, d3] }
  | _ => none }
def shareAddsRow : OpenClaim := { program := "ytngmkokmomficaa", sum := "fc57a4797746d928b72203b3d3a32adf54163fce3a89f77f66002a4897f9c439", func := "selvedge/selvedgelaw04.ShareAdds", spec := "shareAdds", inPlace := ["math.archFloor", "math.Float64bits", "math.Float64frombits", "math.archTrunc"], unfollowed := true, recurses := true, apart := false }
def ShareAddsSaid : Prop := shareAddsRow.holds Try.pinned (OpenSpec.ofChange shareAddsSpec)

/-- ITS FALSE NEIGHBOUR: 'it returns false'. Refute it at one input. -/
def shareAddsWrong : ChangeSpec := { name := "shareAdds", fn := fun _ => fun
  | [d1, d2, d3] => { results := [.lit (.bool false)], args := [d1, d2, d3] }
  | _ => none }
def ShareAddsWrongFalsely : Prop := shareAddsRow.holds Try.pinned (OpenSpec.ofChange shareAddsWrong)

/-- 'selvedgelaw04.ShareOrder': WHATEVER THE INPUT: true; the input reads as it did. -/
def shareOrderSpec : ChangeSpec := { name := "shareOrder", fn := fun _ => fun
  | [d] => { results := [.lit (.bool true)], args := [d] }
  | _ => none }
def shareOrderRow : OpenClaim := { program := "ytngmkokmomficaa", sum := "fc57a4797746d928b72203b3d3a32adf54163fce3a89f77f66002a4897f9c439", func := "selvedge/selvedgelaw04.ShareOrder", spec := "shareOrder", inPlace := ["math.archFloor", "math.Float64bits", "math.Float64frombits", "math.archTrunc"], unfollowed := true, recurses := true, apart := false }
def ShareOrderSaid : Prop := shareOrderRow.holds Try.pinned (OpenSpec.ofChange shareOrderSpec)

/-- ITS FALSE NEIGHBOUR: 'it returns false'. Refute it at one input. -/
def shareOrderWrong : ChangeSpec := { name := "shareOrder", fn := fun _ => fun
  | [d] => { results := [.lit (.bool false)], args := [d] }
  | _ => none }
def ShareOrderWrongFalsely : Prop := shareOrderRow.holds Try.pinned (OpenSpec.ofChange shareOrderWrong)

/-- 'selvedgelaw04.ShareWeights': WHATEVER THE INPUT: true; the input reads as it did. -/
def shareWeightsSpec : ChangeSpec := { name := "shareWeights", fn := fun _ => fun
  | [d] => { results := [.lit (.bool true)], args := [d] }
  | _ => none }
def shareWeightsRow : OpenClaim := { program := "ytngmkokmomficaa", sum := "fc57a4797746d928b72203b3d3a32adf54163fce3a89f77f66002a4897f9c439", func := "selvedge/selvedgelaw04.ShareWeights", spec := "shareWeights", inPlace := ["math.archFloor", "math.Float64bits", "math.Float64frombits", "math.archTrunc"], unfollowed := true, recurses := true, apart := false }
def ShareWeightsSaid : Prop := shareWeightsRow.holds Try.pinned (OpenSpec.ofChange shareWeightsSpec)

/-- ITS FALSE NEIGHBOUR: 'it returns false'. Refute it at one input. -/
def shareWeightsWrong : ChangeSpec := { name := "shareWeights", fn := fun _ => fun
  | [d] => { results := [.lit (.bool false)], args := [d] }
  | _ => none }
def ShareWeightsWrongFalsely : Prop := shareWeightsRow.holds Try.pinned (OpenSpec.ofChange shareWeightsWrong)

/-- 'selvedgelaw04.ShareSpoilt': WHATEVER THE INPUT: true; the input reads as it did. -/
def shareSpoiltSpec : ChangeSpec := { name := "shareSpoilt", fn := fun _ => fun
  | [d] => { results := [.lit (.bool true)], args := [d] }
  | _ => none }
def shareSpoiltRow : OpenClaim := { program := "ytngmkokmomficaa", sum := "fc57a4797746d928b72203b3d3a32adf54163fce3a89f77f66002a4897f9c439", func := "selvedge/selvedgelaw04.ShareSpoilt", spec := "shareSpoilt", inPlace := ["math.archFloor", "math.Float64bits", "math.Float64frombits", "math.archTrunc"], unfollowed := true, recurses := true, apart := false }
def ShareSpoiltSaid : Prop := shareSpoiltRow.holds Try.pinned (OpenSpec.ofChange shareSpoiltSpec)

/-- ITS FALSE NEIGHBOUR: 'it returns false'. Refute it at one input. -/
def shareSpoiltWrong : ChangeSpec := { name := "shareSpoilt", fn := fun _ => fun
  | [d] => { results := [.lit (.bool false)], args := [d] }
  | _ => none }
def ShareSpoiltWrongFalsely : Prop := shareSpoiltRow.holds Try.pinned (OpenSpec.ofChange shareSpoiltWrong)

/- THE SECOND FORM. 'bulk': how many values and letters a reading holds, each counted each time it is reached (what is shared counts as often as it is met; a slice's spare places count too). A statement '..UptoSaid' is the law's where the arguments, and the package variables that the reading takes, are together of bulk at most 1048576: NARROWER than '..Said'. Prove '..Said' where nothing that the law and all that it calls make is longer than what came in: it says more and counts as full. Else prove '..UptoSaid'. A law counts once. -/
mutual
def uptoBulk {H : Type} : DataW H → Nat
  | .lit (.string bytes) => bytes.length + 1
  | .lit _ => 1
  | .nil => 1
  | .ptr d => uptoBulk d + 1
  | .slice elems spare => uptoBulkAll elems + uptoBulkAll spare + 1
  | .agg parts => uptoBulkAll parts + 1
  | .iface _ d => uptoBulk d + 1
  | .map entries => uptoBulkEntries entries + 1
  | .held _ => 1
def uptoBulkAll {H : Type} : List (DataW H) → Nat
  | [] => 0
  | d :: r => uptoBulk d + uptoBulkAll r
def uptoBulkEntries {H : Type} : List (Lit × DataW H) → Nat
  | [] => 0
  | x :: r => uptoBulkEntry x + uptoBulkEntries r
def uptoBulkEntry {H : Type} : Lit × DataW H → Nat
  | (.string bytes, d) => bytes.length + uptoBulk d + 1
  | (_, d) => uptoBulk d + 1
 end
def uptoSmall : (H : Type) → List (DataW H) → Bool := fun _ ds => decide (uptoBulkAll ds ≤ 1048576)
def OpenSpec.upto (s : _root_.Go.ChangeSpec) : _root_.Go.OpenSpec := { _root_.Go.OpenSpec.ofChange s with cond := some uptoSmall }

/-- 'selvedgelaw04.ShareEvals', WHERE WHAT IT READS IS OF BULK AT MOST 1048576: true; the input reads as it did. -/
def shareEvalsUptoRow : OpenClaim := { program := "ytngmkokmomficaa", sum := "fc57a4797746d928b72203b3d3a32adf54163fce3a89f77f66002a4897f9c439", func := "selvedge/selvedgelaw04.ShareEvals", spec := "shareEvals", inPlace := ["math.archFloor", "math.Float64bits", "math.Float64frombits", "math.archTrunc"], unfollowed := true, recurses := true, apart := false, narrowed := true }
def ShareEvalsUptoSaid : Prop := shareEvalsUptoRow.holds Try.pinned (OpenSpec.upto shareEvalsSpec)

/-- 'selvedgelaw04.ShareOpens', WHERE WHAT IT READS IS OF BULK AT MOST 1048576: true; the input reads as it did. -/
def shareOpensUptoRow : OpenClaim := { program := "ytngmkokmomficaa", sum := "fc57a4797746d928b72203b3d3a32adf54163fce3a89f77f66002a4897f9c439", func := "selvedge/selvedgelaw04.ShareOpens", spec := "shareOpens", inPlace := ["math.archFloor", "math.Float64bits", "math.Float64frombits", "math.archTrunc"], unfollowed := true, recurses := true, apart := false, narrowed := true }
def ShareOpensUptoSaid : Prop := shareOpensUptoRow.holds Try.pinned (OpenSpec.upto shareOpensSpec)

/-- 'selvedgelaw04.ShareSecret', WHERE WHAT IT READS IS OF BULK AT MOST 1048576: true; the input reads as it did. -/
def shareSecretUptoRow : OpenClaim := { program := "ytngmkokmomficaa", sum := "fc57a4797746d928b72203b3d3a32adf54163fce3a89f77f66002a4897f9c439", func := "selvedge/selvedgelaw04.ShareSecret", spec := "shareSecret", inPlace := ["math.archFloor", "math.Float64bits", "math.Float64frombits", "math.archTrunc"], unfollowed := true, recurses := true, apart := false, narrowed := true }
def ShareSecretUptoSaid : Prop := shareSecretUptoRow.holds Try.pinned (OpenSpec.upto shareSecretSpec)

/-- 'selvedgelaw04.ShareHides', WHERE WHAT IT READS IS OF BULK AT MOST 1048576: true; the input reads as it did. -/
def shareHidesUptoRow : OpenClaim := { program := "ytngmkokmomficaa", sum := "fc57a4797746d928b72203b3d3a32adf54163fce3a89f77f66002a4897f9c439", func := "selvedge/selvedgelaw04.ShareHides", spec := "shareHides", inPlace := ["math.archFloor", "math.Float64bits", "math.Float64frombits", "math.archTrunc"], unfollowed := true, recurses := true, apart := false, narrowed := true }
def ShareHidesUptoSaid : Prop := shareHidesUptoRow.holds Try.pinned (OpenSpec.upto shareHidesSpec)

/-- 'selvedgelaw04.ShareAdds', WHERE WHAT IT READS IS OF BULK AT MOST 1048576: true; the input reads as it did. -/
def shareAddsUptoRow : OpenClaim := { program := "ytngmkokmomficaa", sum := "fc57a4797746d928b72203b3d3a32adf54163fce3a89f77f66002a4897f9c439", func := "selvedge/selvedgelaw04.ShareAdds", spec := "shareAdds", inPlace := ["math.archFloor", "math.Float64bits", "math.Float64frombits", "math.archTrunc"], unfollowed := true, recurses := true, apart := false, narrowed := true }
def ShareAddsUptoSaid : Prop := shareAddsUptoRow.holds Try.pinned (OpenSpec.upto shareAddsSpec)

/-- 'selvedgelaw04.ShareOrder', WHERE WHAT IT READS IS OF BULK AT MOST 1048576: true; the input reads as it did. -/
def shareOrderUptoRow : OpenClaim := { program := "ytngmkokmomficaa", sum := "fc57a4797746d928b72203b3d3a32adf54163fce3a89f77f66002a4897f9c439", func := "selvedge/selvedgelaw04.ShareOrder", spec := "shareOrder", inPlace := ["math.archFloor", "math.Float64bits", "math.Float64frombits", "math.archTrunc"], unfollowed := true, recurses := true, apart := false, narrowed := true }
def ShareOrderUptoSaid : Prop := shareOrderUptoRow.holds Try.pinned (OpenSpec.upto shareOrderSpec)

/-- 'selvedgelaw04.ShareWeights', WHERE WHAT IT READS IS OF BULK AT MOST 1048576: true; the input reads as it did. -/
def shareWeightsUptoRow : OpenClaim := { program := "ytngmkokmomficaa", sum := "fc57a4797746d928b72203b3d3a32adf54163fce3a89f77f66002a4897f9c439", func := "selvedge/selvedgelaw04.ShareWeights", spec := "shareWeights", inPlace := ["math.archFloor", "math.Float64bits", "math.Float64frombits", "math.archTrunc"], unfollowed := true, recurses := true, apart := false, narrowed := true }
def ShareWeightsUptoSaid : Prop := shareWeightsUptoRow.holds Try.pinned (OpenSpec.upto shareWeightsSpec)

/-- 'selvedgelaw04.ShareSpoilt', WHERE WHAT IT READS IS OF BULK AT MOST 1048576: true; the input reads as it did. -/
def shareSpoiltUptoRow : OpenClaim := { program := "ytngmkokmomficaa", sum := "fc57a4797746d928b72203b3d3a32adf54163fce3a89f77f66002a4897f9c439", func := "selvedge/selvedgelaw04.ShareSpoilt", spec := "shareSpoilt", inPlace := ["math.archFloor", "math.Float64bits", "math.Float64frombits", "math.archTrunc"], unfollowed := true, recurses := true, apart := false, narrowed := true }
def ShareSpoiltUptoSaid : Prop := shareSpoiltUptoRow.holds Try.pinned (OpenSpec.upto shareSpoiltSpec)

end Rows
end Go.Proofs.Ytngmkokmomficaa
