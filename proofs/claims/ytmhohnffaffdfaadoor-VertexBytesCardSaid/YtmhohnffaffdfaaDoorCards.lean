/-
  DERIVED. GIVEN WITH THE SEED: THE CARDS: each row of YtmhohnffaffdfaaDoorRows.lean that lists a variable, with what it lists TIED to the program's text (the seventh form; the later family's looks); each row that meets fmt, with fmt's text TOLD by the authors' own Lean function (tested against real Go, not proved from fmt's source: count such statements apart). THE CARD IS WHAT COUNTS. Prove the row's statement (the work); the ties are given (YtmhohnffaffdfaaDoorTie.lean); close each card by the builder's one call (the guide's Derived/Test/ToyasCard.lean, 'card_holds'). Laid BY PROGRAM, IN A SANDBOX (cutbox-door.mjs). By AI agents, Wed Nov 11 2026. No macro, syntax, notation, axiom, sorry.
-/
import Derived.Test.YtmhohnffaffdfaaDoorRows
import GoSem.ClaimSeven
namespace Go.Proofs.YtmhohnffaffdfaaDoor
namespace Rows

/-- THE TIED CARD OF 'selvedgelaw08.VertexBytes'. -/
def vertexBytesCard : Claim7 := { stood := { row := vertexBytesRow, standIns := [], harness := (true, "ee83593640c6ea82eae8316f4537dffc1c44299a95e53673226f90fedff53121"), looks := false }, kinds := [], alts := [], laidByText := true, laidKinds := [.data], laidTests := true, laidLooks := .later }
def VertexBytesCardSaid : Prop := Claim7.holds Tryd.pinned (.plain (OpenSpec.ofChange vertexBytesSpec)) vertexBytesCard

/-- THE SECOND FORM's CARD OF 'selvedgelaw08.VertexBytes'. -/
def vertexBytesUptoCard : Claim7 := { stood := { row := vertexBytesUptoRow, standIns := [], harness := (true, "ee83593640c6ea82eae8316f4537dffc1c44299a95e53673226f90fedff53121"), looks := false }, kinds := [], alts := [], laidByText := true, laidKinds := [.data], laidTests := true, laidLooks := .later }
def VertexBytesUptoCardSaid : Prop := Claim7.holds Tryd.pinned (.plain (OpenSpec.upto vertexBytesSpec)) vertexBytesUptoCard
end Rows
end Go.Proofs.YtmhohnffaffdfaaDoor
