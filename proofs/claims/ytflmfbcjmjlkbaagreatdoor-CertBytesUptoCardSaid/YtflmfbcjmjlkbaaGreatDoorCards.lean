/-
  DERIVED. GIVEN WITH THE SEED: THE CARDS: each row of YtflmfbcjmjlkbaaGreatDoorRows.lean that lists a variable, with what it lists TIED to the program's text (the seventh form; the later family's looks); each row that meets fmt, with fmt's text TOLD by the authors' own Lean function (tested against real Go, not proved from fmt's source: count such statements apart). THE CARD IS WHAT COUNTS. Prove the row's statement (the work); the ties are given (YtflmfbcjmjlkbaaGreatDoorTie.lean); close each card by the builder's one call (the guide's Derived/Test/ToyasCard.lean, 'card_holds'). Laid BY PROGRAM, IN A SANDBOX (cutbox-door.mjs). By AI agents, Wed Nov 11 2026. No macro, syntax, notation, axiom, sorry.
-/
import Derived.Test.YtflmfbcjmjlkbaaGreatDoorRows
import GoSem.ClaimSeven
namespace Go.Proofs.YtflmfbcjmjlkbaaGreatDoor
namespace Rows

/-- THE TIED CARD OF 'selvedgelaw10.CertBytes'. -/
def certBytesCard : Claim7 := { stood := { row := certBytesRow, standIns := [], harness := (true, "c2b11a3f5d5c9f1b4834f186421ac0b420f6060ed8815cd479183c46b94e6a9f"), looks := false }, kinds := [], alts := [], laidByText := true, laidKinds := [.data], laidTests := true, laidLooks := .later }
def CertBytesCardSaid : Prop := Claim7.holds Tryz.pinned (.plain (OpenSpec.ofChange certBytesSpec)) certBytesCard

/-- THE SECOND FORM's CARD OF 'selvedgelaw10.CertBytes'. -/
def certBytesUptoCard : Claim7 := { stood := { row := certBytesUptoRow, standIns := [], harness := (true, "c2b11a3f5d5c9f1b4834f186421ac0b420f6060ed8815cd479183c46b94e6a9f"), looks := false }, kinds := [], alts := [], laidByText := true, laidKinds := [.data], laidTests := true, laidLooks := .later }
def CertBytesUptoCardSaid : Prop := Claim7.holds Tryz.pinned (.plain (OpenSpec.upto certBytesSpec)) certBytesUptoCard
end Rows
end Go.Proofs.YtflmfbcjmjlkbaaGreatDoor
