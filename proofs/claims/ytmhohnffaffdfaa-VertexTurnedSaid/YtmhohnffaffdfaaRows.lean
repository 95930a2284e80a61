/-
  No cell of these rows narrows 'for every input' (looked for: loops, veiled, ifaces, maps, wideKeys, modest, calm, conditions, laid).
  DERIVED. THE GIVEN ROWS OF THIS SEAT. 4 by the template 'for every input the law returns true; each argument reads behind the call as it read before'; 0 by the template 'total and deterministic' (their statements: YtmhohnffaffdfaaTotals.lean).
  GIVEN WITH THE SEED: the statements are not yours to turn. If you find one false, say at which input.
  Laid BY PROGRAM, IN A SANDBOX (cutbox-rows.mjs): the forced cells as the released guide's own fill.sh prints them over the translation 9a0e56a0ec59d417… (all of the seat's roots in one cut). By AI agents, Wed Nov 11 2026. No macro, syntax, notation, axiom, sorry.
-/
import Derived.Test.YtmhohnffaffdfaaChecked
import GoSem.Claim
import GoSem.ClaimJoined
import GoSem.ClaimMapViews
import Derived.JoinedTies
import Derived.KernelRfl
namespace Go.Proofs.Ytmhohnffaffdfaa
/- THE CELL 'sum', in the pinned program and in every row, IS THE sha256 OF THE DUMP (.gsa) THAT YtmhohnffaffdfaaProg.lean LOADS. Nothing in Lean hashes anything: it is a label: what it is worth is what the hold of that sum in a sandbox is worth. -/
noncomputable def Try.pinned : Pinned := { name := "ytmhohnffaffdfaa", sum := "9a0e56a0ec59d4172d666a3efa98c823aa82c3183367a92f5d9aebdd02c3db92", checked := Try.checked }
namespace Rows
def none {H : Type} : Left H := { results := [], args := [] }

/-- 'selvedgelaw08.VertexTakes': WHATEVER THE INPUT: true; the input reads as it did. -/
def vertexTakesSpec : ChangeSpec := { name := "vertexTakes", fn := fun _ => fun
  | [d1, d2] => { results := [.lit (.bool true)], args := [d1, d2] }
  | _ => none }
def vertexTakesRow : OpenClaim := { program := "ytmhohnffaffdfaa", sum := "9a0e56a0ec59d4172d666a3efa98c823aa82c3183367a92f5d9aebdd02c3db92", func := "selvedge/selvedgelaw08.VertexTakes", spec := "vertexTakes", inPlace := ["internal/abi.NoEscape"], unfollowed := true, recurses := true, apart := false }
def VertexTakesSaid : Prop := vertexTakesRow.holds Try.pinned (OpenSpec.ofChange vertexTakesSpec)

/-- ITS FALSE NEIGHBOUR: 'it returns false'. Refute it at one input. -/
def vertexTakesWrong : ChangeSpec := { name := "vertexTakes", fn := fun _ => fun
  | [d1, d2] => { results := [.lit (.bool false)], args := [d1, d2] }
  | _ => none }
def VertexTakesWrongFalsely : Prop := vertexTakesRow.holds Try.pinned (OpenSpec.ofChange vertexTakesWrong)

/-- 'selvedgelaw08.VertexBack': WHATEVER THE INPUT: true; the input reads as it did. -/
def vertexBackSpec : ChangeSpec := { name := "vertexBack", fn := fun _ => fun
  | [d1, d2, d3] => { results := [.lit (.bool true)], args := [d1, d2, d3] }
  | _ => none }
def vertexBackRow : OpenClaim := { program := "ytmhohnffaffdfaa", sum := "9a0e56a0ec59d4172d666a3efa98c823aa82c3183367a92f5d9aebdd02c3db92", func := "selvedge/selvedgelaw08.VertexBack", spec := "vertexBack", inPlace := ["internal/abi.NoEscape"], unfollowed := true, recurses := true, apart := false }
def VertexBackSaid : Prop := vertexBackRow.holds Try.pinned (OpenSpec.ofChange vertexBackSpec)

/-- ITS FALSE NEIGHBOUR: 'it returns false'. Refute it at one input. -/
def vertexBackWrong : ChangeSpec := { name := "vertexBack", fn := fun _ => fun
  | [d1, d2, d3] => { results := [.lit (.bool false)], args := [d1, d2, d3] }
  | _ => none }
def VertexBackWrongFalsely : Prop := vertexBackRow.holds Try.pinned (OpenSpec.ofChange vertexBackWrong)

/-- 'selvedgelaw08.VertexApart': WHATEVER THE INPUT: true; the input reads as it did. -/
def vertexApartSpec : ChangeSpec := { name := "vertexApart", fn := fun _ => fun
  | [d1, d2, d3] => { results := [.lit (.bool true)], args := [d1, d2, d3] }
  | _ => none }
def vertexApartRow : OpenClaim := { program := "ytmhohnffaffdfaa", sum := "9a0e56a0ec59d4172d666a3efa98c823aa82c3183367a92f5d9aebdd02c3db92", func := "selvedge/selvedgelaw08.VertexApart", spec := "vertexApart", inPlace := ["internal/abi.NoEscape"], unfollowed := true, recurses := true, apart := false }
def VertexApartSaid : Prop := vertexApartRow.holds Try.pinned (OpenSpec.ofChange vertexApartSpec)

/-- ITS FALSE NEIGHBOUR: 'it returns false'. Refute it at one input. -/
def vertexApartWrong : ChangeSpec := { name := "vertexApart", fn := fun _ => fun
  | [d1, d2, d3] => { results := [.lit (.bool false)], args := [d1, d2, d3] }
  | _ => none }
def VertexApartWrongFalsely : Prop := vertexApartRow.holds Try.pinned (OpenSpec.ofChange vertexApartWrong)

/-- 'selvedgelaw08.VertexTurned': WHATEVER THE INPUT: true; the input reads as it did. -/
def vertexTurnedSpec : ChangeSpec := { name := "vertexTurned", fn := fun _ => fun
  | [d] => { results := [.lit (.bool true)], args := [d] }
  | _ => none }
def vertexTurnedRow : OpenClaim := { program := "ytmhohnffaffdfaa", sum := "9a0e56a0ec59d4172d666a3efa98c823aa82c3183367a92f5d9aebdd02c3db92", func := "selvedge/selvedgelaw08.VertexTurned", spec := "vertexTurned", inPlace := ["internal/abi.NoEscape"], unfollowed := true, recurses := true, apart := false }
def VertexTurnedSaid : Prop := vertexTurnedRow.holds Try.pinned (OpenSpec.ofChange vertexTurnedSpec)

/-- ITS FALSE NEIGHBOUR: 'it returns false'. Refute it at one input. -/
def vertexTurnedWrong : ChangeSpec := { name := "vertexTurned", fn := fun _ => fun
  | [d] => { results := [.lit (.bool false)], args := [d] }
  | _ => none }
def VertexTurnedWrongFalsely : Prop := vertexTurnedRow.holds Try.pinned (OpenSpec.ofChange vertexTurnedWrong)

/- THE SECOND FORM. 'bulk': how many values and letters a reading holds, each counted each time it is reached (what is shared counts as often as it is met; a slice's spare places count too). A statement '..UptoSaid' is the law's where the arguments, and the package variables that the reading takes, are together of bulk at most 1048576: NARROWER than '..Said'. Prove '..Said' where nothing that the law and all that it calls make is longer than what came in: it says more and counts as full. Else prove '..UptoSaid'. A law counts once. -/
mutual
def uptoBulk {H : Type} : DataW H → Nat
  | .lit (.string bytes) => bytes.length + 1
  | .lit _ => 1
  | .nil => 1
  | .ptr d => uptoBulk d + 1
  | .slice elems spare => uptoBulkAll elems + uptoBulkAll spare + 1
  | .agg parts => uptoBulkAll parts + 1
  | .iface _ d => uptoBulk d + 1
  | .map entries => uptoBulkEntries entries + 1
  | .held _ => 1
def uptoBulkAll {H : Type} : List (DataW H) → Nat
  | [] => 0
  | d :: r => uptoBulk d + uptoBulkAll r
def uptoBulkEntries {H : Type} : List (Lit × DataW H) → Nat
  | [] => 0
  | x :: r => uptoBulkEntry x + uptoBulkEntries r
def uptoBulkEntry {H : Type} : Lit × DataW H → Nat
  | (.string bytes, d) => bytes.length + uptoBulk d + 1
  | (_, d) => uptoBulk d + 1
 end
def uptoSmall : (H : Type) → List (DataW H) → Bool := fun _ ds => decide (uptoBulkAll ds ≤ 1048576)
def OpenSpec.upto (s : _root_.Go.ChangeSpec) : _root_.Go.OpenSpec := { _root_.Go.OpenSpec.ofChange s with cond := some uptoSmall }

/-- 'selvedgelaw08.VertexTakes', WHERE WHAT IT READS IS OF BULK AT MOST 1048576: true; the input reads as it did. -/
def vertexTakesUptoRow : OpenClaim := { program := "ytmhohnffaffdfaa", sum := "9a0e56a0ec59d4172d666a3efa98c823aa82c3183367a92f5d9aebdd02c3db92", func := "selvedge/selvedgelaw08.VertexTakes", spec := "vertexTakes", inPlace := ["internal/abi.NoEscape"], unfollowed := true, recurses := true, apart := false, narrowed := true }
def VertexTakesUptoSaid : Prop := vertexTakesUptoRow.holds Try.pinned (OpenSpec.upto vertexTakesSpec)

/-- 'selvedgelaw08.VertexBack', WHERE WHAT IT READS IS OF BULK AT MOST 1048576: true; the input reads as it did. -/
def vertexBackUptoRow : OpenClaim := { program := "ytmhohnffaffdfaa", sum := "9a0e56a0ec59d4172d666a3efa98c823aa82c3183367a92f5d9aebdd02c3db92", func := "selvedge/selvedgelaw08.VertexBack", spec := "vertexBack", inPlace := ["internal/abi.NoEscape"], unfollowed := true, recurses := true, apart := false, narrowed := true }
def VertexBackUptoSaid : Prop := vertexBackUptoRow.holds Try.pinned (OpenSpec.upto vertexBackSpec)

/-- 'selvedgelaw08.VertexApart', WHERE WHAT IT READS IS OF BULK AT MOST 1048576: true; the input reads as it did. -/
def vertexApartUptoRow : OpenClaim := { program := "ytmhohnffaffdfaa", sum := "9a0e56a0ec59d4172d666a3efa98c823aa82c3183367a92f5d9aebdd02c3db92", func := "selvedge/selvedgelaw08.VertexApart", spec := "vertexApart", inPlace := ["internal/abi.NoEscape"], unfollowed := true, recurses := true, apart := false, narrowed := true }
def VertexApartUptoSaid : Prop := vertexApartUptoRow.holds Try.pinned (OpenSpec.upto vertexApartSpec)

/-- 'selvedgelaw08.VertexTurned', WHERE WHAT IT READS IS OF BULK AT MOST 1048576: true; the input reads as it did. -/
def vertexTurnedUptoRow : OpenClaim := { program := "ytmhohnffaffdfaa", sum := "9a0e56a0ec59d4172d666a3efa98c823aa82c3183367a92f5d9aebdd02c3db92", func := "selvedge/selvedgelaw08.VertexTurned", spec := "vertexTurned", inPlace := ["internal/abi.NoEscape"], unfollowed := true, recurses := true, apart := false, narrowed := true }
def VertexTurnedUptoSaid : Prop := vertexTurnedUptoRow.holds Try.pinned (OpenSpec.upto vertexTurnedSpec)

end Rows
end Go.Proofs.Ytmhohnffaffdfaa
