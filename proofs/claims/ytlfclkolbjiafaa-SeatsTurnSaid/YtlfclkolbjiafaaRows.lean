/-
  No cell of these rows narrows 'for every input' (looked for: loops, veiled, ifaces, maps, wideKeys, modest, calm, conditions, laid).
  DERIVED. THE GIVEN ROWS OF THIS SEAT. 8 by the template 'for every input the law returns true; each argument reads behind the call as it read before'; 0 by the template 'total and deterministic' (their statements: YtlfclkolbjiafaaTotals.lean).
  GIVEN WITH THE SEED: the statements are not yours to turn. If you find one false, say at which input.
  Laid BY PROGRAM, IN A SANDBOX (cutbox-rows.mjs): the forced cells as the released guide's own fill.sh prints them over the translation eb6b09ae62c47d82… (all of the seat's roots in one cut). By AI agents, Wed Nov 11 2026. No macro, syntax, notation, axiom, sorry.
-/
import Derived.Test.YtlfclkolbjiafaaChecked
import GoSem.Claim
import GoSem.ClaimJoined
import GoSem.ClaimMapViews
import Derived.JoinedTies
import Derived.KernelRfl
namespace Go.Proofs.Ytlfclkolbjiafaa
/- THE CELL 'sum', in the pinned program and in every row, IS THE sha256 OF THE DUMP (.gsa) THAT YtlfclkolbjiafaaProg.lean LOADS. Nothing in Lean hashes anything: it is a label: what it is worth is what the hold of that sum in a sandbox is worth. -/
noncomputable def Try.pinned : Pinned := { name := "ytlfclkolbjiafaa", sum := "eb6b09ae62c47d82f8f8a180b8098e52df053b703906ae535ee4869f035b7831", checked := Try.checked }
namespace Rows
def none {H : Type} : Left H := { results := [], args := [] }

/-- 'selvedgelaw05.SeatsMay': WHATEVER THE INPUT: true; the input reads as it did. -/
def seatsMaySpec : ChangeSpec := { name := "seatsMay", fn := fun _ => fun
  | [d] => { results := [.lit (.bool true)], args := [d] }
  | _ => none }
def seatsMayRow : OpenClaim := { program := "ytlfclkolbjiafaa", sum := "eb6b09ae62c47d82f8f8a180b8098e52df053b703906ae535ee4869f035b7831", func := "selvedge/selvedgelaw05.SeatsMay", spec := "seatsMay", unfollowed := true, recurses := true, apart := false }
def SeatsMaySaid : Prop := seatsMayRow.holds Try.pinned (OpenSpec.ofChange seatsMaySpec)

/-- ITS FALSE NEIGHBOUR: 'it returns false'. Refute it at one input. -/
def seatsMayWrong : ChangeSpec := { name := "seatsMay", fn := fun _ => fun
  | [d] => { results := [.lit (.bool false)], args := [d] }
  | _ => none }
def SeatsMayWrongFalsely : Prop := seatsMayRow.holds Try.pinned (OpenSpec.ofChange seatsMayWrong)

/-- 'selvedgelaw05.SeatsBits': WHATEVER THE INPUT: true; the input reads as it did. -/
def seatsBitsSpec : ChangeSpec := { name := "seatsBits", fn := fun _ => fun
  | [d] => { results := [.lit (.bool true)], args := [d] }
  | _ => none }
def seatsBitsRow : OpenClaim := { program := "ytlfclkolbjiafaa", sum := "eb6b09ae62c47d82f8f8a180b8098e52df053b703906ae535ee4869f035b7831", func := "selvedge/selvedgelaw05.SeatsBits", spec := "seatsBits", unfollowed := true, recurses := true, apart := false }
def SeatsBitsSaid : Prop := seatsBitsRow.holds Try.pinned (OpenSpec.ofChange seatsBitsSpec)

/-- ITS FALSE NEIGHBOUR: 'it returns false'. Refute it at one input. -/
def seatsBitsWrong : ChangeSpec := { name := "seatsBits", fn := fun _ => fun
  | [d] => { results := [.lit (.bool false)], args := [d] }
  | _ => none }
def SeatsBitsWrongFalsely : Prop := seatsBitsRow.holds Try.pinned (OpenSpec.ofChange seatsBitsWrong)

/-- 'selvedgelaw05.SeatsMeet': WHATEVER THE INPUT: true; the input reads as it did. -/
def seatsMeetSpec : ChangeSpec := { name := "seatsMeet", fn := fun _ => fun
  | [d1, d2, d3] => { results := [.lit (.bool true)], args := [d1, d2, d3] }
  | _ => none }
def seatsMeetRow : OpenClaim := { program := "ytlfclkolbjiafaa", sum := "eb6b09ae62c47d82f8f8a180b8098e52df053b703906ae535ee4869f035b7831", func := "selvedge/selvedgelaw05.SeatsMeet", spec := "seatsMeet", unfollowed := true, recurses := true, apart := false }
def SeatsMeetSaid : Prop := seatsMeetRow.holds Try.pinned (OpenSpec.ofChange seatsMeetSpec)

/-- ITS FALSE NEIGHBOUR: 'it returns false'. Refute it at one input. -/
def seatsMeetWrong : ChangeSpec := { name := "seatsMeet", fn := fun _ => fun
  | [d1, d2, d3] => { results := [.lit (.bool false)], args := [d1, d2, d3] }
  | _ => none }
def SeatsMeetWrongFalsely : Prop := seatsMeetRow.holds Try.pinned (OpenSpec.ofChange seatsMeetWrong)

/-- 'selvedgelaw05.SeatsTurn': WHATEVER THE INPUT: true; the input reads as it did. -/
def seatsTurnSpec : ChangeSpec := { name := "seatsTurn", fn := fun _ => fun
  | [d] => { results := [.lit (.bool true)], args := [d] }
  | _ => none }
def seatsTurnRow : OpenClaim := { program := "ytlfclkolbjiafaa", sum := "eb6b09ae62c47d82f8f8a180b8098e52df053b703906ae535ee4869f035b7831", func := "selvedge/selvedgelaw05.SeatsTurn", spec := "seatsTurn", unfollowed := true, recurses := true, apart := false }
def SeatsTurnSaid : Prop := seatsTurnRow.holds Try.pinned (OpenSpec.ofChange seatsTurnSpec)

/-- ITS FALSE NEIGHBOUR: 'it returns false'. Refute it at one input. -/
def seatsTurnWrong : ChangeSpec := { name := "seatsTurn", fn := fun _ => fun
  | [d] => { results := [.lit (.bool false)], args := [d] }
  | _ => none }
def SeatsTurnWrongFalsely : Prop := seatsTurnRow.holds Try.pinned (OpenSpec.ofChange seatsTurnWrong)

/-- 'selvedgelaw05.SeatsHonest': WHATEVER THE INPUT: true; the input reads as it did. -/
def seatsHonestSpec : ChangeSpec := { name := "seatsHonest", fn := fun _ => fun
  | [d1, d2, d3] => { results := [.lit (.bool true)], args := [d1, d2, d3] }
  | _ => none }
def seatsHonestRow : OpenClaim := { program := "ytlfclkolbjiafaa", sum := "eb6b09ae62c47d82f8f8a180b8098e52df053b703906ae535ee4869f035b7831", func := "selvedge/selvedgelaw05.SeatsHonest", spec := "seatsHonest", unfollowed := true, recurses := true, apart := false }
def SeatsHonestSaid : Prop := seatsHonestRow.holds Try.pinned (OpenSpec.ofChange seatsHonestSpec)

/-- ITS FALSE NEIGHBOUR: 'it returns false'. Refute it at one input. -/
def seatsHonestWrong : ChangeSpec := { name := "seatsHonest", fn := fun _ => fun
  | [d1, d2, d3] => { results := [.lit (.bool false)], args := [d1, d2, d3] }
  | _ => none }
def SeatsHonestWrongFalsely : Prop := seatsHonestRow.holds Try.pinned (OpenSpec.ofChange seatsHonestWrong)

/-- 'selvedgelaw05.SeatsPuts': WHATEVER THE INPUT: true; the input reads as it did. -/
def seatsPutsSpec : ChangeSpec := { name := "seatsPuts", fn := fun _ => fun
  | [d1, d2, d3] => { results := [.lit (.bool true)], args := [d1, d2, d3] }
  | _ => none }
def seatsPutsRow : OpenClaim := { program := "ytlfclkolbjiafaa", sum := "eb6b09ae62c47d82f8f8a180b8098e52df053b703906ae535ee4869f035b7831", func := "selvedge/selvedgelaw05.SeatsPuts", spec := "seatsPuts", unfollowed := true, recurses := true, apart := false }
def SeatsPutsSaid : Prop := seatsPutsRow.holds Try.pinned (OpenSpec.ofChange seatsPutsSpec)

/-- ITS FALSE NEIGHBOUR: 'it returns false'. Refute it at one input. -/
def seatsPutsWrong : ChangeSpec := { name := "seatsPuts", fn := fun _ => fun
  | [d1, d2, d3] => { results := [.lit (.bool false)], args := [d1, d2, d3] }
  | _ => none }
def SeatsPutsWrongFalsely : Prop := seatsPutsRow.holds Try.pinned (OpenSpec.ofChange seatsPutsWrong)

/-- 'selvedgelaw05.SeatsSums': WHATEVER THE INPUT: true; the input reads as it did. -/
def seatsSumsSpec : ChangeSpec := { name := "seatsSums", fn := fun _ => fun
  | [d1, d2] => { results := [.lit (.bool true)], args := [d1, d2] }
  | _ => none }
def seatsSumsRow : OpenClaim := { program := "ytlfclkolbjiafaa", sum := "eb6b09ae62c47d82f8f8a180b8098e52df053b703906ae535ee4869f035b7831", func := "selvedge/selvedgelaw05.SeatsSums", spec := "seatsSums", unfollowed := true, recurses := true, apart := false }
def SeatsSumsSaid : Prop := seatsSumsRow.holds Try.pinned (OpenSpec.ofChange seatsSumsSpec)

/-- ITS FALSE NEIGHBOUR: 'it returns false'. Refute it at one input. -/
def seatsSumsWrong : ChangeSpec := { name := "seatsSums", fn := fun _ => fun
  | [d1, d2] => { results := [.lit (.bool false)], args := [d1, d2] }
  | _ => none }
def SeatsSumsWrongFalsely : Prop := seatsSumsRow.holds Try.pinned (OpenSpec.ofChange seatsSumsWrong)

/-- 'selvedgelaw05.SeatsInside': WHATEVER THE INPUT: true; the input reads as it did. -/
def seatsInsideSpec : ChangeSpec := { name := "seatsInside", fn := fun _ => fun
  | [d1, d2] => { results := [.lit (.bool true)], args := [d1, d2] }
  | _ => none }
def seatsInsideRow : OpenClaim := { program := "ytlfclkolbjiafaa", sum := "eb6b09ae62c47d82f8f8a180b8098e52df053b703906ae535ee4869f035b7831", func := "selvedge/selvedgelaw05.SeatsInside", spec := "seatsInside", unfollowed := true, recurses := true, apart := false }
def SeatsInsideSaid : Prop := seatsInsideRow.holds Try.pinned (OpenSpec.ofChange seatsInsideSpec)

/-- ITS FALSE NEIGHBOUR: 'it returns false'. Refute it at one input. -/
def seatsInsideWrong : ChangeSpec := { name := "seatsInside", fn := fun _ => fun
  | [d1, d2] => { results := [.lit (.bool false)], args := [d1, d2] }
  | _ => none }
def SeatsInsideWrongFalsely : Prop := seatsInsideRow.holds Try.pinned (OpenSpec.ofChange seatsInsideWrong)

/- THE SECOND FORM. 'bulk': how many values and letters a reading holds, each counted each time it is reached (what is shared counts as often as it is met; a slice's spare places count too). A statement '..UptoSaid' is the law's where the arguments, and the package variables that the reading takes, are together of bulk at most 1048576: NARROWER than '..Said'. Prove '..Said' where nothing that the law and all that it calls make is longer than what came in: it says more and counts as full. Else prove '..UptoSaid'. A law counts once. -/
mutual
def uptoBulk {H : Type} : DataW H → Nat
  | .lit (.string bytes) => bytes.length + 1
  | .lit _ => 1
  | .nil => 1
  | .ptr d => uptoBulk d + 1
  | .slice elems spare => uptoBulkAll elems + uptoBulkAll spare + 1
  | .agg parts => uptoBulkAll parts + 1
  | .iface _ d => uptoBulk d + 1
  | .map entries => uptoBulkEntries entries + 1
  | .held _ => 1
def uptoBulkAll {H : Type} : List (DataW H) → Nat
  | [] => 0
  | d :: r => uptoBulk d + uptoBulkAll r
def uptoBulkEntries {H : Type} : List (Lit × DataW H) → Nat
  | [] => 0
  | x :: r => uptoBulkEntry x + uptoBulkEntries r
def uptoBulkEntry {H : Type} : Lit × DataW H → Nat
  | (.string bytes, d) => bytes.length + uptoBulk d + 1
  | (_, d) => uptoBulk d + 1
 end
def uptoSmall : (H : Type) → List (DataW H) → Bool := fun _ ds => decide (uptoBulkAll ds ≤ 1048576)
def OpenSpec.upto (s : _root_.Go.ChangeSpec) : _root_.Go.OpenSpec := { _root_.Go.OpenSpec.ofChange s with cond := some uptoSmall }

/-- 'selvedgelaw05.SeatsMay', WHERE WHAT IT READS IS OF BULK AT MOST 1048576: true; the input reads as it did. -/
def seatsMayUptoRow : OpenClaim := { program := "ytlfclkolbjiafaa", sum := "eb6b09ae62c47d82f8f8a180b8098e52df053b703906ae535ee4869f035b7831", func := "selvedge/selvedgelaw05.SeatsMay", spec := "seatsMay", unfollowed := true, recurses := true, apart := false, narrowed := true }
def SeatsMayUptoSaid : Prop := seatsMayUptoRow.holds Try.pinned (OpenSpec.upto seatsMaySpec)

/-- 'selvedgelaw05.SeatsBits', WHERE WHAT IT READS IS OF BULK AT MOST 1048576: true; the input reads as it did. -/
def seatsBitsUptoRow : OpenClaim := { program := "ytlfclkolbjiafaa", sum := "eb6b09ae62c47d82f8f8a180b8098e52df053b703906ae535ee4869f035b7831", func := "selvedge/selvedgelaw05.SeatsBits", spec := "seatsBits", unfollowed := true, recurses := true, apart := false, narrowed := true }
def SeatsBitsUptoSaid : Prop := seatsBitsUptoRow.holds Try.pinned (OpenSpec.upto seatsBitsSpec)

/-- 'selvedgelaw05.SeatsMeet', WHERE WHAT IT READS IS OF BULK AT MOST 1048576: true; the input reads as it did. -/
def seatsMeetUptoRow : OpenClaim := { program := "ytlfclkolbjiafaa", sum := "eb6b09ae62c47d82f8f8a180b8098e52df053b703906ae535ee4869f035b7831", func := "selvedge/selvedgelaw05.SeatsMeet", spec := "seatsMeet", unfollowed := true, recurses := true, apart := false, narrowed := true }
def SeatsMeetUptoSaid : Prop := seatsMeetUptoRow.holds Try.pinned (OpenSpec.upto seatsMeetSpec)

/-- 'selvedgelaw05.SeatsTurn', WHERE WHAT IT READS IS OF BULK AT MOST 1048576: true; the input reads as it did. -/
def seatsTurnUptoRow : OpenClaim := { program := "ytlfclkolbjiafaa", sum := "eb6b09ae62c47d82f8f8a180b8098e52df053b703906ae535ee4869f035b7831", func := "selvedge/selvedgelaw05.SeatsTurn", spec := "seatsTurn", unfollowed := true, recurses := true, apart := false, narrowed := true }
def SeatsTurnUptoSaid : Prop := seatsTurnUptoRow.holds Try.pinned (OpenSpec.upto seatsTurnSpec)

/-- 'selvedgelaw05.SeatsHonest', WHERE WHAT IT READS IS OF BULK AT MOST 1048576: true; the input reads as it did. -/
def seatsHonestUptoRow : OpenClaim := { program := "ytlfclkolbjiafaa", sum := "eb6b09ae62c47d82f8f8a180b8098e52df053b703906ae535ee4869f035b7831", func := "selvedge/selvedgelaw05.SeatsHonest", spec := "seatsHonest", unfollowed := true, recurses := true, apart := false, narrowed := true }
def SeatsHonestUptoSaid : Prop := seatsHonestUptoRow.holds Try.pinned (OpenSpec.upto seatsHonestSpec)

/-- 'selvedgelaw05.SeatsPuts', WHERE WHAT IT READS IS OF BULK AT MOST 1048576: true; the input reads as it did. -/
def seatsPutsUptoRow : OpenClaim := { program := "ytlfclkolbjiafaa", sum := "eb6b09ae62c47d82f8f8a180b8098e52df053b703906ae535ee4869f035b7831", func := "selvedge/selvedgelaw05.SeatsPuts", spec := "seatsPuts", unfollowed := true, recurses := true, apart := false, narrowed := true }
def SeatsPutsUptoSaid : Prop := seatsPutsUptoRow.holds Try.pinned (OpenSpec.upto seatsPutsSpec)

/-- 'selvedgelaw05.SeatsSums', WHERE WHAT IT READS IS OF BULK AT MOST 1048576: true; the input reads as it did. -/
def seatsSumsUptoRow : OpenClaim := { program := "ytlfclkolbjiafaa", sum := "eb6b09ae62c47d82f8f8a180b8098e52df053b703906ae535ee4869f035b7831", func := "selvedge/selvedgelaw05.SeatsSums", spec := "seatsSums", unfollowed := true, recurses := true, apart := false, narrowed := true }
def SeatsSumsUptoSaid : Prop := seatsSumsUptoRow.holds Try.pinned (OpenSpec.upto seatsSumsSpec)

/-- 'selvedgelaw05.SeatsInside', WHERE WHAT IT READS IS OF BULK AT MOST 1048576: true; the input reads as it did. -/
def seatsInsideUptoRow : OpenClaim := { program := "ytlfclkolbjiafaa", sum := "eb6b09ae62c47d82f8f8a180b8098e52df053b703906ae535ee4869f035b7831", func := "selvedge/selvedgelaw05.SeatsInside", spec := "seatsInside", unfollowed := true, recurses := true, apart := false, narrowed := true }
def SeatsInsideUptoSaid : Prop := seatsInsideUptoRow.holds Try.pinned (OpenSpec.upto seatsInsideSpec)

end Rows
end Go.Proofs.Ytlfclkolbjiafaa
