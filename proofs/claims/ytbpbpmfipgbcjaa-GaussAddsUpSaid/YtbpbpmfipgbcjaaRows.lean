/-
  No cell of these rows narrows 'for every input' (looked for: loops, veiled, ifaces, maps, wideKeys, modest, calm, conditions, laid).
  DERIVED. THE GIVEN ROWS OF THIS SEAT. 10 by the template 'for every input the law returns true; each argument reads behind the call as it read before'; 0 by the template 'total and deterministic' (their statements: YtbpbpmfipgbcjaaTotals.lean).
  GIVEN WITH THE SEED: the statements are not yours to turn. If you find one false, say at which input.
  Laid BY PROGRAM, IN A SANDBOX (cutbox-rows.mjs): the forced cells as the released guide's own fill.sh prints them over the translation af925e4ea3573bdc… (all of the seat's roots in one cut). By AI agents, Wed Nov 11 2026. No macro, syntax, notation, axiom, sorry.
-/
import Derived.Test.YtbpbpmfipgbcjaaChecked
import GoSem.Claim
import GoSem.ClaimJoined
import GoSem.ClaimMapViews
import Derived.JoinedTies
import Derived.KernelRfl
namespace Go.Proofs.Ytbpbpmfipgbcjaa
/- THE CELL 'sum', in the pinned program and in every row, IS THE sha256 OF THE DUMP (.gsa) THAT YtbpbpmfipgbcjaaProg.lean LOADS. Nothing in Lean hashes anything: it is a label: what it is worth is what the hold of that sum in a sandbox is worth. -/
noncomputable def Try.pinned : Pinned := { name := "ytbpbpmfipgbcjaa", sum := "af925e4ea3573bdca3c4411843f8bc1e3b0118a0a46ce54b3dfc5171fbe348c9", checked := Try.checked }
namespace Rows
def none {H : Type} : Left H := { results := [], args := [] }

/-- 'selvedgelaw03.GaussAdds': WHATEVER THE INPUT: true; the input reads as it did. -/
def gaussAddsSpec : ChangeSpec := { name := "gaussAdds", fn := fun _ => fun
  | [d1, d2] => { results := [.lit (.bool true)], args := [d1, d2] }
  | _ => none }
def gaussAddsRow : OpenClaim := { program := "ytbpbpmfipgbcjaa", sum := "af925e4ea3573bdca3c4411843f8bc1e3b0118a0a46ce54b3dfc5171fbe348c9", func := "selvedge/selvedgelaw03.GaussAdds", spec := "gaussAdds", inPlace := ["math.archFloor", "math.Float64bits", "math.Float64frombits", "math.archTrunc"], unfollowed := true, recurses := true, apart := false }
def GaussAddsSaid : Prop := gaussAddsRow.holds Try.pinned (OpenSpec.ofChange gaussAddsSpec)

/-- ITS FALSE NEIGHBOUR: 'it returns false'. Refute it at one input. -/
def gaussAddsWrong : ChangeSpec := { name := "gaussAdds", fn := fun _ => fun
  | [d1, d2] => { results := [.lit (.bool false)], args := [d1, d2] }
  | _ => none }
def GaussAddsWrongFalsely : Prop := gaussAddsRow.holds Try.pinned (OpenSpec.ofChange gaussAddsWrong)

/-- 'selvedgelaw03.GaussMuls': WHATEVER THE INPUT: true; the input reads as it did. -/
def gaussMulsSpec : ChangeSpec := { name := "gaussMuls", fn := fun _ => fun
  | [d1, d2] => { results := [.lit (.bool true)], args := [d1, d2] }
  | _ => none }
def gaussMulsRow : OpenClaim := { program := "ytbpbpmfipgbcjaa", sum := "af925e4ea3573bdca3c4411843f8bc1e3b0118a0a46ce54b3dfc5171fbe348c9", func := "selvedge/selvedgelaw03.GaussMuls", spec := "gaussMuls", inPlace := ["math.archFloor", "math.Float64bits", "math.Float64frombits", "math.archTrunc"], unfollowed := true, recurses := true, apart := false }
def GaussMulsSaid : Prop := gaussMulsRow.holds Try.pinned (OpenSpec.ofChange gaussMulsSpec)

/-- ITS FALSE NEIGHBOUR: 'it returns false'. Refute it at one input. -/
def gaussMulsWrong : ChangeSpec := { name := "gaussMuls", fn := fun _ => fun
  | [d1, d2] => { results := [.lit (.bool false)], args := [d1, d2] }
  | _ => none }
def GaussMulsWrongFalsely : Prop := gaussMulsRow.holds Try.pinned (OpenSpec.ofChange gaussMulsWrong)

/-- 'selvedgelaw03.GaussPows': WHATEVER THE INPUT: true; the input reads as it did. -/
def gaussPowsSpec : ChangeSpec := { name := "gaussPows", fn := fun _ => fun
  | [d1, d2] => { results := [.lit (.bool true)], args := [d1, d2] }
  | _ => none }
def gaussPowsRow : OpenClaim := { program := "ytbpbpmfipgbcjaa", sum := "af925e4ea3573bdca3c4411843f8bc1e3b0118a0a46ce54b3dfc5171fbe348c9", func := "selvedge/selvedgelaw03.GaussPows", spec := "gaussPows", inPlace := ["math.archFloor", "math.Float64bits", "math.Float64frombits", "math.archTrunc"], unfollowed := true, recurses := true, apart := false }
def GaussPowsSaid : Prop := gaussPowsRow.holds Try.pinned (OpenSpec.ofChange gaussPowsSpec)

/-- ITS FALSE NEIGHBOUR: 'it returns false'. Refute it at one input. -/
def gaussPowsWrong : ChangeSpec := { name := "gaussPows", fn := fun _ => fun
  | [d1, d2] => { results := [.lit (.bool false)], args := [d1, d2] }
  | _ => none }
def GaussPowsWrongFalsely : Prop := gaussPowsRow.holds Try.pinned (OpenSpec.ofChange gaussPowsWrong)

/-- 'selvedgelaw03.GaussInvs': WHATEVER THE INPUT: true; the input reads as it did. -/
def gaussInvsSpec : ChangeSpec := { name := "gaussInvs", fn := fun _ => fun
  | [d] => { results := [.lit (.bool true)], args := [d] }
  | _ => none }
def gaussInvsRow : OpenClaim := { program := "ytbpbpmfipgbcjaa", sum := "af925e4ea3573bdca3c4411843f8bc1e3b0118a0a46ce54b3dfc5171fbe348c9", func := "selvedge/selvedgelaw03.GaussInvs", spec := "gaussInvs", inPlace := ["math.archFloor", "math.Float64bits", "math.Float64frombits", "math.archTrunc"], unfollowed := true, recurses := true, apart := false }
def GaussInvsSaid : Prop := gaussInvsRow.holds Try.pinned (OpenSpec.ofChange gaussInvsSpec)

/-- ITS FALSE NEIGHBOUR: 'it returns false'. Refute it at one input. -/
def gaussInvsWrong : ChangeSpec := { name := "gaussInvs", fn := fun _ => fun
  | [d] => { results := [.lit (.bool false)], args := [d] }
  | _ => none }
def GaussInvsWrongFalsely : Prop := gaussInvsRow.holds Try.pinned (OpenSpec.ofChange gaussInvsWrong)

/-- 'selvedgelaw03.GaussRing': WHATEVER THE INPUT: true; the input reads as it did. -/
def gaussRingSpec : ChangeSpec := { name := "gaussRing", fn := fun _ => fun
  | [d1, d2, d3] => { results := [.lit (.bool true)], args := [d1, d2, d3] }
  | _ => none }
def gaussRingRow : OpenClaim := { program := "ytbpbpmfipgbcjaa", sum := "af925e4ea3573bdca3c4411843f8bc1e3b0118a0a46ce54b3dfc5171fbe348c9", func := "selvedge/selvedgelaw03.GaussRing", spec := "gaussRing", inPlace := ["math.archFloor", "math.Float64bits", "math.Float64frombits", "math.archTrunc"], unfollowed := true, recurses := true, apart := false }
def GaussRingSaid : Prop := gaussRingRow.holds Try.pinned (OpenSpec.ofChange gaussRingSpec)

/-- ITS FALSE NEIGHBOUR: 'it returns false'. Refute it at one input. -/
def gaussRingWrong : ChangeSpec := { name := "gaussRing", fn := fun _ => fun
  | [d1, d2, d3] => { results := [.lit (.bool false)], args := [d1, d2, d3] }
  | _ => none }
def GaussRingWrongFalsely : Prop := gaussRingRow.holds Try.pinned (OpenSpec.ofChange gaussRingWrong)

/-- 'selvedgelaw03.GaussField': WHATEVER THE INPUT: true; the input reads as it did. -/
def gaussFieldSpec : ChangeSpec := { name := "gaussField", fn := fun _ => fun
  | [d1, d2] => { results := [.lit (.bool true)], args := [d1, d2] }
  | _ => none }
def gaussFieldRow : OpenClaim := { program := "ytbpbpmfipgbcjaa", sum := "af925e4ea3573bdca3c4411843f8bc1e3b0118a0a46ce54b3dfc5171fbe348c9", func := "selvedge/selvedgelaw03.GaussField", spec := "gaussField", inPlace := ["math.archFloor", "math.Float64bits", "math.Float64frombits", "math.archTrunc"], unfollowed := true, recurses := true, apart := false }
def GaussFieldSaid : Prop := gaussFieldRow.holds Try.pinned (OpenSpec.ofChange gaussFieldSpec)

/-- ITS FALSE NEIGHBOUR: 'it returns false'. Refute it at one input. -/
def gaussFieldWrong : ChangeSpec := { name := "gaussField", fn := fun _ => fun
  | [d1, d2] => { results := [.lit (.bool false)], args := [d1, d2] }
  | _ => none }
def GaussFieldWrongFalsely : Prop := gaussFieldRow.holds Try.pinned (OpenSpec.ofChange gaussFieldWrong)

/-- 'selvedgelaw03.GaussNorms': WHATEVER THE INPUT: true; the input reads as it did. -/
def gaussNormsSpec : ChangeSpec := { name := "gaussNorms", fn := fun _ => fun
  | [d1, d2] => { results := [.lit (.bool true)], args := [d1, d2] }
  | _ => none }
def gaussNormsRow : OpenClaim := { program := "ytbpbpmfipgbcjaa", sum := "af925e4ea3573bdca3c4411843f8bc1e3b0118a0a46ce54b3dfc5171fbe348c9", func := "selvedge/selvedgelaw03.GaussNorms", spec := "gaussNorms", inPlace := ["math.archFloor", "math.Float64bits", "math.Float64frombits", "math.archTrunc"], unfollowed := true, recurses := true, apart := false }
def GaussNormsSaid : Prop := gaussNormsRow.holds Try.pinned (OpenSpec.ofChange gaussNormsSpec)

/-- ITS FALSE NEIGHBOUR: 'it returns false'. Refute it at one input. -/
def gaussNormsWrong : ChangeSpec := { name := "gaussNorms", fn := fun _ => fun
  | [d1, d2] => { results := [.lit (.bool false)], args := [d1, d2] }
  | _ => none }
def GaussNormsWrongFalsely : Prop := gaussNormsRow.holds Try.pinned (OpenSpec.ofChange gaussNormsWrong)

/-- 'selvedgelaw03.GaussOf': WHATEVER THE INPUT: true; the input reads as it did. -/
def gaussOfSpec : ChangeSpec := { name := "gaussOf", fn := fun _ => fun
  | [d1, d2] => { results := [.lit (.bool true)], args := [d1, d2] }
  | _ => none }
def gaussOfRow : OpenClaim := { program := "ytbpbpmfipgbcjaa", sum := "af925e4ea3573bdca3c4411843f8bc1e3b0118a0a46ce54b3dfc5171fbe348c9", func := "selvedge/selvedgelaw03.GaussOf", spec := "gaussOf", inPlace := ["math.archFloor", "math.Float64bits", "math.Float64frombits", "math.archTrunc"], unfollowed := true, recurses := true, apart := false }
def GaussOfSaid : Prop := gaussOfRow.holds Try.pinned (OpenSpec.ofChange gaussOfSpec)

/-- ITS FALSE NEIGHBOUR: 'it returns false'. Refute it at one input. -/
def gaussOfWrong : ChangeSpec := { name := "gaussOf", fn := fun _ => fun
  | [d1, d2] => { results := [.lit (.bool false)], args := [d1, d2] }
  | _ => none }
def GaussOfWrongFalsely : Prop := gaussOfRow.holds Try.pinned (OpenSpec.ofChange gaussOfWrong)

/-- 'selvedgelaw03.GaussAddsUp': WHATEVER THE INPUT: true; the input reads as it did. -/
def gaussAddsUpSpec : ChangeSpec := { name := "gaussAddsUp", fn := fun _ => fun
  | [d1, d2, d3] => { results := [.lit (.bool true)], args := [d1, d2, d3] }
  | _ => none }
def gaussAddsUpRow : OpenClaim := { program := "ytbpbpmfipgbcjaa", sum := "af925e4ea3573bdca3c4411843f8bc1e3b0118a0a46ce54b3dfc5171fbe348c9", func := "selvedge/selvedgelaw03.GaussAddsUp", spec := "gaussAddsUp", inPlace := ["math.archFloor", "math.Float64bits", "math.Float64frombits", "math.archTrunc"], unfollowed := true, recurses := true, apart := false }
def GaussAddsUpSaid : Prop := gaussAddsUpRow.holds Try.pinned (OpenSpec.ofChange gaussAddsUpSpec)

/-- ITS FALSE NEIGHBOUR: 'it returns false'. Refute it at one input. -/
def gaussAddsUpWrong : ChangeSpec := { name := "gaussAddsUp", fn := fun _ => fun
  | [d1, d2, d3] => { results := [.lit (.bool false)], args := [d1, d2, d3] }
  | _ => none }
def GaussAddsUpWrongFalsely : Prop := gaussAddsUpRow.holds Try.pinned (OpenSpec.ofChange gaussAddsUpWrong)

/-- 'selvedgelaw03.GaussUnits': WHATEVER THE INPUT: true; the input reads as it did. -/
def gaussUnitsSpec : ChangeSpec := { name := "gaussUnits", fn := fun _ => fun
  | [d] => { results := [.lit (.bool true)], args := [d] }
  | _ => none }
def gaussUnitsRow : OpenClaim := { program := "ytbpbpmfipgbcjaa", sum := "af925e4ea3573bdca3c4411843f8bc1e3b0118a0a46ce54b3dfc5171fbe348c9", func := "selvedge/selvedgelaw03.GaussUnits", spec := "gaussUnits", inPlace := ["math.archFloor", "math.Float64bits", "math.Float64frombits", "math.archTrunc"], unfollowed := true, recurses := true, apart := false }
def GaussUnitsSaid : Prop := gaussUnitsRow.holds Try.pinned (OpenSpec.ofChange gaussUnitsSpec)

/-- ITS FALSE NEIGHBOUR: 'it returns false'. Refute it at one input. -/
def gaussUnitsWrong : ChangeSpec := { name := "gaussUnits", fn := fun _ => fun
  | [d] => { results := [.lit (.bool false)], args := [d] }
  | _ => none }
def GaussUnitsWrongFalsely : Prop := gaussUnitsRow.holds Try.pinned (OpenSpec.ofChange gaussUnitsWrong)

/- THE SECOND FORM. 'bulk': how many values and letters a reading holds, each counted each time it is reached (what is shared counts as often as it is met; a slice's spare places count too). A statement '..UptoSaid' is the law's where the arguments, and the package variables that the reading takes, are together of bulk at most 1048576: NARROWER than '..Said'. Prove '..Said' where nothing that the law and all that it calls make is longer than what came in: it says more and counts as full. Else prove '..UptoSaid'. A law counts once. -/
mutual
def uptoBulk {H : Type} : DataW H → Nat
  | .lit (.string bytes) => bytes.length + 1
  | .lit _ => 1
  | .nil => 1
  | .ptr d => uptoBulk d + 1
  | .slice elems spare => uptoBulkAll elems + uptoBulkAll spare + 1
  | .agg parts => uptoBulkAll parts + 1
  | .iface _ d => uptoBulk d + 1
  | .map entries => uptoBulkEntries entries + 1
  | .held _ => 1
def uptoBulkAll {H : Type} : List (DataW H) → Nat
  | [] => 0
  | d :: r => uptoBulk d + uptoBulkAll r
def uptoBulkEntries {H : Type} : List (Lit × DataW H) → Nat
  | [] => 0
  | x :: r => uptoBulkEntry x + uptoBulkEntries r
def uptoBulkEntry {H : Type} : Lit × DataW H → Nat
  | (.string bytes, d) => bytes.length + uptoBulk d + 1
  | (_, d) => uptoBulk d + 1
 end
def uptoSmall : (H : Type) → List (DataW H) → Bool := fun _ ds => decide (uptoBulkAll ds ≤ 1048576)
def OpenSpec.upto (s : _root_.Go.ChangeSpec) : _root_.Go.OpenSpec := { _root_.Go.OpenSpec.ofChange s with cond := some uptoSmall }

/-- 'selvedgelaw03.GaussAdds', WHERE WHAT IT READS IS OF BULK AT MOST 1048576: true; the input reads as it did. -/
def gaussAddsUptoRow : OpenClaim := { program := "ytbpbpmfipgbcjaa", sum := "af925e4ea3573bdca3c4411843f8bc1e3b0118a0a46ce54b3dfc5171fbe348c9", func := "selvedge/selvedgelaw03.GaussAdds", spec := "gaussAdds", inPlace := ["math.archFloor", "math.Float64bits", "math.Float64frombits", "math.archTrunc"], unfollowed := true, recurses := true, apart := false, narrowed := true }
def GaussAddsUptoSaid : Prop := gaussAddsUptoRow.holds Try.pinned (OpenSpec.upto gaussAddsSpec)

/-- 'selvedgelaw03.GaussMuls', WHERE WHAT IT READS IS OF BULK AT MOST 1048576: true; the input reads as it did. -/
def gaussMulsUptoRow : OpenClaim := { program := "ytbpbpmfipgbcjaa", sum := "af925e4ea3573bdca3c4411843f8bc1e3b0118a0a46ce54b3dfc5171fbe348c9", func := "selvedge/selvedgelaw03.GaussMuls", spec := "gaussMuls", inPlace := ["math.archFloor", "math.Float64bits", "math.Float64frombits", "math.archTrunc"], unfollowed := true, recurses := true, apart := false, narrowed := true }
def GaussMulsUptoSaid : Prop := gaussMulsUptoRow.holds Try.pinned (OpenSpec.upto gaussMulsSpec)

/-- 'selvedgelaw03.GaussPows', WHERE WHAT IT READS IS OF BULK AT MOST 1048576: true; the input reads as it did. -/
def gaussPowsUptoRow : OpenClaim := { program := "ytbpbpmfipgbcjaa", sum := "af925e4ea3573bdca3c4411843f8bc1e3b0118a0a46ce54b3dfc5171fbe348c9", func := "selvedge/selvedgelaw03.GaussPows", spec := "gaussPows", inPlace := ["math.archFloor", "math.Float64bits", "math.Float64frombits", "math.archTrunc"], unfollowed := true, recurses := true, apart := false, narrowed := true }
def GaussPowsUptoSaid : Prop := gaussPowsUptoRow.holds Try.pinned (OpenSpec.upto gaussPowsSpec)

/-- 'selvedgelaw03.GaussInvs', WHERE WHAT IT READS IS OF BULK AT MOST 1048576: true; the input reads as it did. -/
def gaussInvsUptoRow : OpenClaim := { program := "ytbpbpmfipgbcjaa", sum := "af925e4ea3573bdca3c4411843f8bc1e3b0118a0a46ce54b3dfc5171fbe348c9", func := "selvedge/selvedgelaw03.GaussInvs", spec := "gaussInvs", inPlace := ["math.archFloor", "math.Float64bits", "math.Float64frombits", "math.archTrunc"], unfollowed := true, recurses := true, apart := false, narrowed := true }
def GaussInvsUptoSaid : Prop := gaussInvsUptoRow.holds Try.pinned (OpenSpec.upto gaussInvsSpec)

/-- 'selvedgelaw03.GaussRing', WHERE WHAT IT READS IS OF BULK AT MOST 1048576: true; the input reads as it did. -/
def gaussRingUptoRow : OpenClaim := { program := "ytbpbpmfipgbcjaa", sum := "af925e4ea3573bdca3c4411843f8bc1e3b0118a0a46ce54b3dfc5171fbe348c9", func := "selvedge/selvedgelaw03.GaussRing", spec := "gaussRing", inPlace := ["math.archFloor", "math.Float64bits", "math.Float64frombits", "math.archTrunc"], unfollowed := true, recurses := true, apart := false, narrowed := true }
def GaussRingUptoSaid : Prop := gaussRingUptoRow.holds Try.pinned (OpenSpec.upto gaussRingSpec)

/-- 'selvedgelaw03.GaussField', WHERE WHAT IT READS IS OF BULK AT MOST 1048576: true; the input reads as it did. -/
def gaussFieldUptoRow : OpenClaim := { program := "ytbpbpmfipgbcjaa", sum := "af925e4ea3573bdca3c4411843f8bc1e3b0118a0a46ce54b3dfc5171fbe348c9", func := "selvedge/selvedgelaw03.GaussField", spec := "gaussField", inPlace := ["math.archFloor", "math.Float64bits", "math.Float64frombits", "math.archTrunc"], unfollowed := true, recurses := true, apart := false, narrowed := true }
def GaussFieldUptoSaid : Prop := gaussFieldUptoRow.holds Try.pinned (OpenSpec.upto gaussFieldSpec)

/-- 'selvedgelaw03.GaussNorms', WHERE WHAT IT READS IS OF BULK AT MOST 1048576: true; the input reads as it did. -/
def gaussNormsUptoRow : OpenClaim := { program := "ytbpbpmfipgbcjaa", sum := "af925e4ea3573bdca3c4411843f8bc1e3b0118a0a46ce54b3dfc5171fbe348c9", func := "selvedge/selvedgelaw03.GaussNorms", spec := "gaussNorms", inPlace := ["math.archFloor", "math.Float64bits", "math.Float64frombits", "math.archTrunc"], unfollowed := true, recurses := true, apart := false, narrowed := true }
def GaussNormsUptoSaid : Prop := gaussNormsUptoRow.holds Try.pinned (OpenSpec.upto gaussNormsSpec)

/-- 'selvedgelaw03.GaussOf', WHERE WHAT IT READS IS OF BULK AT MOST 1048576: true; the input reads as it did. -/
def gaussOfUptoRow : OpenClaim := { program := "ytbpbpmfipgbcjaa", sum := "af925e4ea3573bdca3c4411843f8bc1e3b0118a0a46ce54b3dfc5171fbe348c9", func := "selvedge/selvedgelaw03.GaussOf", spec := "gaussOf", inPlace := ["math.archFloor", "math.Float64bits", "math.Float64frombits", "math.archTrunc"], unfollowed := true, recurses := true, apart := false, narrowed := true }
def GaussOfUptoSaid : Prop := gaussOfUptoRow.holds Try.pinned (OpenSpec.upto gaussOfSpec)

/-- 'selvedgelaw03.GaussAddsUp', WHERE WHAT IT READS IS OF BULK AT MOST 1048576: true; the input reads as it did. -/
def gaussAddsUpUptoRow : OpenClaim := { program := "ytbpbpmfipgbcjaa", sum := "af925e4ea3573bdca3c4411843f8bc1e3b0118a0a46ce54b3dfc5171fbe348c9", func := "selvedge/selvedgelaw03.GaussAddsUp", spec := "gaussAddsUp", inPlace := ["math.archFloor", "math.Float64bits", "math.Float64frombits", "math.archTrunc"], unfollowed := true, recurses := true, apart := false, narrowed := true }
def GaussAddsUpUptoSaid : Prop := gaussAddsUpUptoRow.holds Try.pinned (OpenSpec.upto gaussAddsUpSpec)

/-- 'selvedgelaw03.GaussUnits', WHERE WHAT IT READS IS OF BULK AT MOST 1048576: true; the input reads as it did. -/
def gaussUnitsUptoRow : OpenClaim := { program := "ytbpbpmfipgbcjaa", sum := "af925e4ea3573bdca3c4411843f8bc1e3b0118a0a46ce54b3dfc5171fbe348c9", func := "selvedge/selvedgelaw03.GaussUnits", spec := "gaussUnits", inPlace := ["math.archFloor", "math.Float64bits", "math.Float64frombits", "math.archTrunc"], unfollowed := true, recurses := true, apart := false, narrowed := true }
def GaussUnitsUptoSaid : Prop := gaussUnitsUptoRow.holds Try.pinned (OpenSpec.upto gaussUnitsSpec)

end Rows
end Go.Proofs.Ytbpbpmfipgbcjaa
