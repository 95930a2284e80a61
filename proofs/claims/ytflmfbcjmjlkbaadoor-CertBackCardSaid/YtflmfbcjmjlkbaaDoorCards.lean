/-
  DERIVED. GIVEN WITH THE SEED: THE CARDS: each row of YtflmfbcjmjlkbaaDoorRows.lean that lists a variable, with what it lists TIED to the program's text (the seventh form; the later family's looks); each row that meets fmt, with fmt's text TOLD by the authors' own Lean function (tested against real Go, not proved from fmt's source: count such statements apart). THE CARD IS WHAT COUNTS. Prove the row's statement (the work); the ties are given (YtflmfbcjmjlkbaaDoorTie.lean); close each card by the builder's one call (the guide's Derived/Test/ToyasCard.lean, 'card_holds'). Laid BY PROGRAM, IN A SANDBOX (cutbox-door.mjs). By AI agents, Wed Nov 11 2026. No macro, syntax, notation, axiom, sorry.
-/
import Derived.Test.YtflmfbcjmjlkbaaDoorRows
import GoSem.ClaimSeven
namespace Go.Proofs.YtflmfbcjmjlkbaaDoor
namespace Rows

/-- THE TIED CARD OF 'selvedgelaw10.CertChecks'. -/
def certChecksCard : Claim7 := { stood := { row := certChecksRow, standIns := [], harness := (true, "54c19b83e99754d7dcf9e24ee7b776f4caeee67fe2533b1101b8d4a4ab979ba6"), looks := false }, kinds := [], alts := [], laidByText := true, laidKinds := [.data], laidTests := true, laidLooks := .later }
def CertChecksCardSaid : Prop := Claim7.holds Tryd.pinned (.plain (OpenSpec.ofChange certChecksSpec)) certChecksCard

/-- THE TIED CARD OF 'selvedgelaw10.CertBack'. -/
def certBackCard : Claim7 := { stood := { row := certBackRow, standIns := [], harness := (true, "54c19b83e99754d7dcf9e24ee7b776f4caeee67fe2533b1101b8d4a4ab979ba6"), looks := false }, kinds := [], alts := [], laidByText := true, laidKinds := [.data], laidTests := true, laidLooks := .later }
def CertBackCardSaid : Prop := Claim7.holds Tryd.pinned (.plain (OpenSpec.ofChange certBackSpec)) certBackCard

/-- THE TIED CARD OF 'selvedgelaw10.CertMeet'. -/
def certMeetCard : Claim7 := { stood := { row := certMeetRow, standIns := [], harness := (true, "54c19b83e99754d7dcf9e24ee7b776f4caeee67fe2533b1101b8d4a4ab979ba6"), looks := false }, kinds := [], alts := [], laidByText := true, laidKinds := [.data], laidTests := true, laidLooks := .later }
def CertMeetCardSaid : Prop := Claim7.holds Tryd.pinned (.plain (OpenSpec.ofChange certMeetSpec)) certMeetCard

/-- THE TIED CARD OF 'selvedgelaw10.CertGrows'. -/
def certGrowsCard : Claim7 := { stood := { row := certGrowsRow, standIns := [], harness := (true, "54c19b83e99754d7dcf9e24ee7b776f4caeee67fe2533b1101b8d4a4ab979ba6"), looks := false }, kinds := [], alts := [], laidByText := true, laidKinds := [.data], laidTests := true, laidLooks := .later }
def CertGrowsCardSaid : Prop := Claim7.holds Tryd.pinned (.plain (OpenSpec.ofChange certGrowsSpec)) certGrowsCard

/-- THE TIED CARD OF 'selvedgelaw10.CertFewer'. -/
def certFewerCard : Claim7 := { stood := { row := certFewerRow, standIns := [], harness := (true, "54c19b83e99754d7dcf9e24ee7b776f4caeee67fe2533b1101b8d4a4ab979ba6"), looks := false }, kinds := [], alts := [], laidByText := true, laidKinds := [.data], laidTests := true, laidLooks := .later }
def CertFewerCardSaid : Prop := Claim7.holds Tryd.pinned (.plain (OpenSpec.ofChange certFewerSpec)) certFewerCard

/-- THE TIED CARD OF 'selvedgelaw10.CertOwn'. -/
def certOwnCard : Claim7 := { stood := { row := certOwnRow, standIns := [], harness := (true, "54c19b83e99754d7dcf9e24ee7b776f4caeee67fe2533b1101b8d4a4ab979ba6"), looks := false }, kinds := [], alts := [], laidByText := true, laidKinds := [.data], laidTests := true, laidLooks := .later }
def CertOwnCardSaid : Prop := Claim7.holds Tryd.pinned (.plain (OpenSpec.ofChange certOwnSpec)) certOwnCard

/-- THE SECOND FORM's CARD OF 'selvedgelaw10.CertChecks'. -/
def certChecksUptoCard : Claim7 := { stood := { row := certChecksUptoRow, standIns := [], harness := (true, "54c19b83e99754d7dcf9e24ee7b776f4caeee67fe2533b1101b8d4a4ab979ba6"), looks := false }, kinds := [], alts := [], laidByText := true, laidKinds := [.data], laidTests := true, laidLooks := .later }
def CertChecksUptoCardSaid : Prop := Claim7.holds Tryd.pinned (.plain (OpenSpec.upto certChecksSpec)) certChecksUptoCard

/-- THE SECOND FORM's CARD OF 'selvedgelaw10.CertBack'. -/
def certBackUptoCard : Claim7 := { stood := { row := certBackUptoRow, standIns := [], harness := (true, "54c19b83e99754d7dcf9e24ee7b776f4caeee67fe2533b1101b8d4a4ab979ba6"), looks := false }, kinds := [], alts := [], laidByText := true, laidKinds := [.data], laidTests := true, laidLooks := .later }
def CertBackUptoCardSaid : Prop := Claim7.holds Tryd.pinned (.plain (OpenSpec.upto certBackSpec)) certBackUptoCard

/-- THE SECOND FORM's CARD OF 'selvedgelaw10.CertMeet'. -/
def certMeetUptoCard : Claim7 := { stood := { row := certMeetUptoRow, standIns := [], harness := (true, "54c19b83e99754d7dcf9e24ee7b776f4caeee67fe2533b1101b8d4a4ab979ba6"), looks := false }, kinds := [], alts := [], laidByText := true, laidKinds := [.data], laidTests := true, laidLooks := .later }
def CertMeetUptoCardSaid : Prop := Claim7.holds Tryd.pinned (.plain (OpenSpec.upto certMeetSpec)) certMeetUptoCard

/-- THE SECOND FORM's CARD OF 'selvedgelaw10.CertGrows'. -/
def certGrowsUptoCard : Claim7 := { stood := { row := certGrowsUptoRow, standIns := [], harness := (true, "54c19b83e99754d7dcf9e24ee7b776f4caeee67fe2533b1101b8d4a4ab979ba6"), looks := false }, kinds := [], alts := [], laidByText := true, laidKinds := [.data], laidTests := true, laidLooks := .later }
def CertGrowsUptoCardSaid : Prop := Claim7.holds Tryd.pinned (.plain (OpenSpec.upto certGrowsSpec)) certGrowsUptoCard

/-- THE SECOND FORM's CARD OF 'selvedgelaw10.CertFewer'. -/
def certFewerUptoCard : Claim7 := { stood := { row := certFewerUptoRow, standIns := [], harness := (true, "54c19b83e99754d7dcf9e24ee7b776f4caeee67fe2533b1101b8d4a4ab979ba6"), looks := false }, kinds := [], alts := [], laidByText := true, laidKinds := [.data], laidTests := true, laidLooks := .later }
def CertFewerUptoCardSaid : Prop := Claim7.holds Tryd.pinned (.plain (OpenSpec.upto certFewerSpec)) certFewerUptoCard

/-- THE SECOND FORM's CARD OF 'selvedgelaw10.CertOwn'. -/
def certOwnUptoCard : Claim7 := { stood := { row := certOwnUptoRow, standIns := [], harness := (true, "54c19b83e99754d7dcf9e24ee7b776f4caeee67fe2533b1101b8d4a4ab979ba6"), looks := false }, kinds := [], alts := [], laidByText := true, laidKinds := [.data], laidTests := true, laidLooks := .later }
def CertOwnUptoCardSaid : Prop := Claim7.holds Tryd.pinned (.plain (OpenSpec.upto certOwnSpec)) certOwnUptoCard
end Rows
end Go.Proofs.YtflmfbcjmjlkbaaDoor
