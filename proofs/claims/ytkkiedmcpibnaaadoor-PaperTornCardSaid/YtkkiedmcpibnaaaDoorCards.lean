/-
  DERIVED. GIVEN WITH THE SEED: THE CARDS: each row of YtkkiedmcpibnaaaDoorRows.lean that lists a variable, with what it lists TIED to the program's text (the seventh form; the later family's looks); each row that meets fmt, with fmt's text TOLD by the authors' own Lean function (tested against real Go, not proved from fmt's source: count such statements apart). THE CARD IS WHAT COUNTS. Prove the row's statement (the work); the ties are given (YtkkiedmcpibnaaaDoorTie.lean); close each card by the builder's one call (the guide's Derived/Test/ToyasCard.lean, 'card_holds'). Laid BY PROGRAM, IN A SANDBOX (cutbox-door.mjs). By AI agents, Wed Nov 11 2026. No macro, syntax, notation, axiom, sorry.
-/
import Derived.Test.YtkkiedmcpibnaaaDoorRows
import GoSem.ClaimSeven
namespace Go.Proofs.YtkkiedmcpibnaaaDoor
namespace Rows

/-- THE TIED CARD OF 'selvedgelaw17.PaperReads'. -/
def paperReadsCard : Claim7 := { stood := { row := paperReadsRow, standIns := [], harness := (true, "7d526c273c31c6845e4ef0e1c6bf5d427218154e336bf9c2c8954a62f224d221"), looks := false }, kinds := [], alts := [], laidByText := true, laidKinds := [.data], laidTests := true, laidLooks := .later }
def PaperReadsCardSaid : Prop := Claim7.holds Tryd.pinned (.plain (OpenSpec.ofChange paperReadsSpec)) paperReadsCard

/-- THE TIED CARD OF 'selvedgelaw17.PaperActs'. -/
def paperActsCard : Claim7 := { stood := { row := paperActsRow, standIns := [], harness := (true, "7d526c273c31c6845e4ef0e1c6bf5d427218154e336bf9c2c8954a62f224d221"), looks := false }, kinds := [], alts := [], laidByText := true, laidKinds := [.data], laidTests := true, laidLooks := .later }
def PaperActsCardSaid : Prop := Claim7.holds Tryd.pinned (.plain (OpenSpec.ofChange paperActsSpec)) paperActsCard

/-- THE TIED CARD OF 'selvedgelaw17.PaperLasts'. -/
def paperLastsCard : Claim7 := { stood := { row := paperLastsRow, standIns := [], harness := (true, "7d526c273c31c6845e4ef0e1c6bf5d427218154e336bf9c2c8954a62f224d221"), looks := false }, kinds := [], alts := [], laidByText := true, laidKinds := [.data], laidTests := true, laidLooks := .later }
def PaperLastsCardSaid : Prop := Claim7.holds Tryd.pinned (.plain (OpenSpec.ofChange paperLastsSpec)) paperLastsCard

/-- THE TIED CARD OF 'selvedgelaw17.PaperTorn'. -/
def paperTornCard : Claim7 := { stood := { row := paperTornRow, standIns := [], harness := (true, "7d526c273c31c6845e4ef0e1c6bf5d427218154e336bf9c2c8954a62f224d221"), looks := false }, kinds := [], alts := [], laidByText := true, laidKinds := [.data], laidTests := true, laidLooks := .later }
def PaperTornCardSaid : Prop := Claim7.holds Tryd.pinned (.plain (OpenSpec.ofChange paperTornSpec)) paperTornCard

/-- THE TIED CARD OF 'selvedgelaw17.PaperOff'. -/
def paperOffCard : Claim7 := { stood := { row := paperOffRow, standIns := [], harness := (true, "7d526c273c31c6845e4ef0e1c6bf5d427218154e336bf9c2c8954a62f224d221"), looks := false }, kinds := [], alts := [], laidByText := true, laidKinds := [.data], laidTests := true, laidLooks := .later }
def PaperOffCardSaid : Prop := Claim7.holds Tryd.pinned (.plain (OpenSpec.ofChange paperOffSpec)) paperOffCard

/-- THE TIED CARD OF 'selvedgelaw17.PaperAgain'. -/
def paperAgainCard : Claim7 := { stood := { row := paperAgainRow, standIns := [], harness := (true, "7d526c273c31c6845e4ef0e1c6bf5d427218154e336bf9c2c8954a62f224d221"), looks := false }, kinds := [], alts := [], laidByText := true, laidKinds := [.data], laidTests := true, laidLooks := .later }
def PaperAgainCardSaid : Prop := Claim7.holds Tryd.pinned (.plain (OpenSpec.ofChange paperAgainSpec)) paperAgainCard

/-- THE SECOND FORM's CARD OF 'selvedgelaw17.PaperReads'. -/
def paperReadsUptoCard : Claim7 := { stood := { row := paperReadsUptoRow, standIns := [], harness := (true, "7d526c273c31c6845e4ef0e1c6bf5d427218154e336bf9c2c8954a62f224d221"), looks := false }, kinds := [], alts := [], laidByText := true, laidKinds := [.data], laidTests := true, laidLooks := .later }
def PaperReadsUptoCardSaid : Prop := Claim7.holds Tryd.pinned (.plain (OpenSpec.upto paperReadsSpec)) paperReadsUptoCard

/-- THE SECOND FORM's CARD OF 'selvedgelaw17.PaperActs'. -/
def paperActsUptoCard : Claim7 := { stood := { row := paperActsUptoRow, standIns := [], harness := (true, "7d526c273c31c6845e4ef0e1c6bf5d427218154e336bf9c2c8954a62f224d221"), looks := false }, kinds := [], alts := [], laidByText := true, laidKinds := [.data], laidTests := true, laidLooks := .later }
def PaperActsUptoCardSaid : Prop := Claim7.holds Tryd.pinned (.plain (OpenSpec.upto paperActsSpec)) paperActsUptoCard

/-- THE SECOND FORM's CARD OF 'selvedgelaw17.PaperLasts'. -/
def paperLastsUptoCard : Claim7 := { stood := { row := paperLastsUptoRow, standIns := [], harness := (true, "7d526c273c31c6845e4ef0e1c6bf5d427218154e336bf9c2c8954a62f224d221"), looks := false }, kinds := [], alts := [], laidByText := true, laidKinds := [.data], laidTests := true, laidLooks := .later }
def PaperLastsUptoCardSaid : Prop := Claim7.holds Tryd.pinned (.plain (OpenSpec.upto paperLastsSpec)) paperLastsUptoCard

/-- THE SECOND FORM's CARD OF 'selvedgelaw17.PaperTorn'. -/
def paperTornUptoCard : Claim7 := { stood := { row := paperTornUptoRow, standIns := [], harness := (true, "7d526c273c31c6845e4ef0e1c6bf5d427218154e336bf9c2c8954a62f224d221"), looks := false }, kinds := [], alts := [], laidByText := true, laidKinds := [.data], laidTests := true, laidLooks := .later }
def PaperTornUptoCardSaid : Prop := Claim7.holds Tryd.pinned (.plain (OpenSpec.upto paperTornSpec)) paperTornUptoCard

/-- THE SECOND FORM's CARD OF 'selvedgelaw17.PaperOff'. -/
def paperOffUptoCard : Claim7 := { stood := { row := paperOffUptoRow, standIns := [], harness := (true, "7d526c273c31c6845e4ef0e1c6bf5d427218154e336bf9c2c8954a62f224d221"), looks := false }, kinds := [], alts := [], laidByText := true, laidKinds := [.data], laidTests := true, laidLooks := .later }
def PaperOffUptoCardSaid : Prop := Claim7.holds Tryd.pinned (.plain (OpenSpec.upto paperOffSpec)) paperOffUptoCard

/-- THE SECOND FORM's CARD OF 'selvedgelaw17.PaperAgain'. -/
def paperAgainUptoCard : Claim7 := { stood := { row := paperAgainUptoRow, standIns := [], harness := (true, "7d526c273c31c6845e4ef0e1c6bf5d427218154e336bf9c2c8954a62f224d221"), looks := false }, kinds := [], alts := [], laidByText := true, laidKinds := [.data], laidTests := true, laidLooks := .later }
def PaperAgainUptoCardSaid : Prop := Claim7.holds Tryd.pinned (.plain (OpenSpec.upto paperAgainSpec)) paperAgainUptoCard
end Rows
end Go.Proofs.YtkkiedmcpibnaaaDoor
