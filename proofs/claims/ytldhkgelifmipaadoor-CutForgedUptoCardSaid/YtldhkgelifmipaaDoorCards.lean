/-
  DERIVED. GIVEN WITH THE SEED: THE CARDS: each row of YtldhkgelifmipaaDoorRows.lean that lists a variable, with what it lists TIED to the program's text (the seventh form; the later family's looks); each row that meets fmt, with fmt's text TOLD by the authors' own Lean function (tested against real Go, not proved from fmt's source: count such statements apart). THE CARD IS WHAT COUNTS. Prove the row's statement (the work); the ties are given (YtldhkgelifmipaaDoorTie.lean); close each card by the builder's one call (the guide's Derived/Test/ToyasCard.lean, 'card_holds'). Laid BY PROGRAM, IN A SANDBOX (cutbox-door.mjs). By AI agents, Wed Nov 11 2026. No macro, syntax, notation, axiom, sorry.
-/
import Derived.Test.YtldhkgelifmipaaDoorRows
import GoSem.ClaimSeven
namespace Go.Proofs.YtldhkgelifmipaaDoor
namespace Rows

/-- THE TIED CARD OF 'selvedgelaw15.CutFeeds'. -/
def cutFeedsCard : Claim7 := { stood := { row := cutFeedsRow, standIns := [], harness := (true, "3b5a967a0f5768472c63915325329eece2fabdd7527c757f269c6d81b5e7348f"), looks := false }, kinds := [], alts := [], laidByText := true, laidKinds := [.data], laidTests := true, laidLooks := .later }
def CutFeedsCardSaid : Prop := Claim7.holds Tryd.pinned (.plain (OpenSpec.ofChange cutFeedsSpec)) cutFeedsCard

/-- THE TIED CARD OF 'selvedgelaw15.CutChains'. -/
def cutChainsCard : Claim7 := { stood := { row := cutChainsRow, standIns := [], harness := (true, "3b5a967a0f5768472c63915325329eece2fabdd7527c757f269c6d81b5e7348f"), looks := false }, kinds := [], alts := [], laidByText := true, laidKinds := [.data], laidTests := true, laidLooks := .later }
def CutChainsCardSaid : Prop := Claim7.holds Tryd.pinned (.plain (OpenSpec.ofChange cutChainsSpec)) cutChainsCard

/-- THE TIED CARD OF 'selvedgelaw15.CutAll'. -/
def cutAllCard : Claim7 := { stood := { row := cutAllRow, standIns := [], harness := (true, "3b5a967a0f5768472c63915325329eece2fabdd7527c757f269c6d81b5e7348f"), looks := false }, kinds := [], alts := [], laidByText := true, laidKinds := [.data], laidTests := true, laidLooks := .later }
def CutAllCardSaid : Prop := Claim7.holds Tryd.pinned (.plain (OpenSpec.ofChange cutAllSpec)) cutAllCard

/-- THE TIED CARD OF 'selvedgelaw15.CutFull'. -/
def cutFullCard : Claim7 := { stood := { row := cutFullRow, standIns := [], harness := (true, "3b5a967a0f5768472c63915325329eece2fabdd7527c757f269c6d81b5e7348f"), looks := false }, kinds := [], alts := [], laidByText := true, laidKinds := [.data], laidTests := true, laidLooks := .later }
def CutFullCardSaid : Prop := Claim7.holds Tryd.pinned (.plain (OpenSpec.ofChange cutFullSpec)) cutFullCard

/-- THE TIED CARD OF 'selvedgelaw15.CutPrefix'. -/
def cutPrefixCard : Claim7 := { stood := { row := cutPrefixRow, standIns := [], harness := (true, "3b5a967a0f5768472c63915325329eece2fabdd7527c757f269c6d81b5e7348f"), looks := false }, kinds := [], alts := [], laidByText := true, laidKinds := [.data], laidTests := true, laidLooks := .later }
def CutPrefixCardSaid : Prop := Claim7.holds Tryd.pinned (.plain (OpenSpec.ofChange cutPrefixSpec)) cutPrefixCard

/-- THE TIED CARD OF 'selvedgelaw15.CutTwo'. -/
def cutTwoCard : Claim7 := { stood := { row := cutTwoRow, standIns := [], harness := (true, "3b5a967a0f5768472c63915325329eece2fabdd7527c757f269c6d81b5e7348f"), looks := false }, kinds := [], alts := [], laidByText := true, laidKinds := [.data], laidTests := true, laidLooks := .later }
def CutTwoCardSaid : Prop := Claim7.holds Tryd.pinned (.plain (OpenSpec.ofChange cutTwoSpec)) cutTwoCard

/-- THE TIED CARD OF 'selvedgelaw15.CutForged'. -/
def cutForgedCard : Claim7 := { stood := { row := cutForgedRow, standIns := [], harness := (true, "3b5a967a0f5768472c63915325329eece2fabdd7527c757f269c6d81b5e7348f"), looks := false }, kinds := [], alts := [], laidByText := true, laidKinds := [.data], laidTests := true, laidLooks := .later }
def CutForgedCardSaid : Prop := Claim7.holds Tryd.pinned (.plain (OpenSpec.ofChange cutForgedSpec)) cutForgedCard

/-- THE SECOND FORM's CARD OF 'selvedgelaw15.CutFeeds'. -/
def cutFeedsUptoCard : Claim7 := { stood := { row := cutFeedsUptoRow, standIns := [], harness := (true, "3b5a967a0f5768472c63915325329eece2fabdd7527c757f269c6d81b5e7348f"), looks := false }, kinds := [], alts := [], laidByText := true, laidKinds := [.data], laidTests := true, laidLooks := .later }
def CutFeedsUptoCardSaid : Prop := Claim7.holds Tryd.pinned (.plain (OpenSpec.upto cutFeedsSpec)) cutFeedsUptoCard

/-- THE SECOND FORM's CARD OF 'selvedgelaw15.CutChains'. -/
def cutChainsUptoCard : Claim7 := { stood := { row := cutChainsUptoRow, standIns := [], harness := (true, "3b5a967a0f5768472c63915325329eece2fabdd7527c757f269c6d81b5e7348f"), looks := false }, kinds := [], alts := [], laidByText := true, laidKinds := [.data], laidTests := true, laidLooks := .later }
def CutChainsUptoCardSaid : Prop := Claim7.holds Tryd.pinned (.plain (OpenSpec.upto cutChainsSpec)) cutChainsUptoCard

/-- THE SECOND FORM's CARD OF 'selvedgelaw15.CutAll'. -/
def cutAllUptoCard : Claim7 := { stood := { row := cutAllUptoRow, standIns := [], harness := (true, "3b5a967a0f5768472c63915325329eece2fabdd7527c757f269c6d81b5e7348f"), looks := false }, kinds := [], alts := [], laidByText := true, laidKinds := [.data], laidTests := true, laidLooks := .later }
def CutAllUptoCardSaid : Prop := Claim7.holds Tryd.pinned (.plain (OpenSpec.upto cutAllSpec)) cutAllUptoCard

/-- THE SECOND FORM's CARD OF 'selvedgelaw15.CutFull'. -/
def cutFullUptoCard : Claim7 := { stood := { row := cutFullUptoRow, standIns := [], harness := (true, "3b5a967a0f5768472c63915325329eece2fabdd7527c757f269c6d81b5e7348f"), looks := false }, kinds := [], alts := [], laidByText := true, laidKinds := [.data], laidTests := true, laidLooks := .later }
def CutFullUptoCardSaid : Prop := Claim7.holds Tryd.pinned (.plain (OpenSpec.upto cutFullSpec)) cutFullUptoCard

/-- THE SECOND FORM's CARD OF 'selvedgelaw15.CutPrefix'. -/
def cutPrefixUptoCard : Claim7 := { stood := { row := cutPrefixUptoRow, standIns := [], harness := (true, "3b5a967a0f5768472c63915325329eece2fabdd7527c757f269c6d81b5e7348f"), looks := false }, kinds := [], alts := [], laidByText := true, laidKinds := [.data], laidTests := true, laidLooks := .later }
def CutPrefixUptoCardSaid : Prop := Claim7.holds Tryd.pinned (.plain (OpenSpec.upto cutPrefixSpec)) cutPrefixUptoCard

/-- THE SECOND FORM's CARD OF 'selvedgelaw15.CutTwo'. -/
def cutTwoUptoCard : Claim7 := { stood := { row := cutTwoUptoRow, standIns := [], harness := (true, "3b5a967a0f5768472c63915325329eece2fabdd7527c757f269c6d81b5e7348f"), looks := false }, kinds := [], alts := [], laidByText := true, laidKinds := [.data], laidTests := true, laidLooks := .later }
def CutTwoUptoCardSaid : Prop := Claim7.holds Tryd.pinned (.plain (OpenSpec.upto cutTwoSpec)) cutTwoUptoCard

/-- THE SECOND FORM's CARD OF 'selvedgelaw15.CutForged'. -/
def cutForgedUptoCard : Claim7 := { stood := { row := cutForgedUptoRow, standIns := [], harness := (true, "3b5a967a0f5768472c63915325329eece2fabdd7527c757f269c6d81b5e7348f"), looks := false }, kinds := [], alts := [], laidByText := true, laidKinds := [.data], laidTests := true, laidLooks := .later }
def CutForgedUptoCardSaid : Prop := Claim7.holds Tryd.pinned (.plain (OpenSpec.upto cutForgedSpec)) cutForgedUptoCard
end Rows
end Go.Proofs.YtldhkgelifmipaaDoor
