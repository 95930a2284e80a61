/-
  DERIVED. GIVEN WITH THE SEED: THE CARDS: each row of YtlejffgmaokpnaaDoorRows.lean that lists a variable, with what it lists TIED to the program's text (the seventh form; the later family's looks); each row that meets fmt, with fmt's text TOLD by the authors' own Lean function (tested against real Go, not proved from fmt's source: count such statements apart). THE CARD IS WHAT COUNTS. Prove the row's statement (the work); the ties are given (YtlejffgmaokpnaaDoorTie.lean); close each card by the builder's one call (the guide's Derived/Test/ToyasCard.lean, 'card_holds'). Laid BY PROGRAM, IN A SANDBOX (cutbox-door.mjs). By AI agents, Wed Nov 11 2026. No macro, syntax, notation, axiom, sorry.
-/
import Derived.Test.YtlejffgmaokpnaaDoorRows
import GoSem.ClaimSeven
namespace Go.Proofs.YtlejffgmaokpnaaDoor
namespace Rows

/-- THE TIED CARD OF 'selvedgelaw07.BatchBytes'. -/
def batchBytesCard : Claim7 := { stood := { row := batchBytesRow, standIns := [], harness := (true, "776ca8f980e8f5db9fc0d44334ed3840d0cbfab4393cc9b8e9a977c31c4466da"), looks := false }, kinds := [], alts := [], laidByText := true, laidKinds := [.data], laidTests := true, laidLooks := .later }
def BatchBytesCardSaid : Prop := Claim7.holds Tryd.pinned (.plain (OpenSpec.ofChange batchBytesSpec)) batchBytesCard

/-- THE TIED CARD OF 'selvedgelaw07.BatchDigests'. -/
def batchDigestsCard : Claim7 := { stood := { row := batchDigestsRow, standIns := [], harness := (true, "776ca8f980e8f5db9fc0d44334ed3840d0cbfab4393cc9b8e9a977c31c4466da"), looks := false }, kinds := [], alts := [], laidByText := true, laidKinds := [.data], laidTests := true, laidLooks := .later }
def BatchDigestsCardSaid : Prop := Claim7.holds Tryd.pinned (.plain (OpenSpec.ofChange batchDigestsSpec)) batchDigestsCard

/-- THE SECOND FORM's CARD OF 'selvedgelaw07.BatchBytes'. -/
def batchBytesUptoCard : Claim7 := { stood := { row := batchBytesUptoRow, standIns := [], harness := (true, "776ca8f980e8f5db9fc0d44334ed3840d0cbfab4393cc9b8e9a977c31c4466da"), looks := false }, kinds := [], alts := [], laidByText := true, laidKinds := [.data], laidTests := true, laidLooks := .later }
def BatchBytesUptoCardSaid : Prop := Claim7.holds Tryd.pinned (.plain (OpenSpec.upto batchBytesSpec)) batchBytesUptoCard

/-- THE SECOND FORM's CARD OF 'selvedgelaw07.BatchDigests'. -/
def batchDigestsUptoCard : Claim7 := { stood := { row := batchDigestsUptoRow, standIns := [], harness := (true, "776ca8f980e8f5db9fc0d44334ed3840d0cbfab4393cc9b8e9a977c31c4466da"), looks := false }, kinds := [], alts := [], laidByText := true, laidKinds := [.data], laidTests := true, laidLooks := .later }
def BatchDigestsUptoCardSaid : Prop := Claim7.holds Tryd.pinned (.plain (OpenSpec.upto batchDigestsSpec)) batchDigestsUptoCard
end Rows
end Go.Proofs.YtlejffgmaokpnaaDoor
