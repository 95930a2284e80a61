/-
  No cell of these rows narrows 'for every input' (looked for: loops, veiled, ifaces, maps, wideKeys, modest, calm, conditions, laid).
  DERIVED. THE GIVEN ROWS OF THIS SEAT. 7 by the template 'for every input the law returns true; each argument reads behind the call as it read before'; 0 by the template 'total and deterministic' (their statements: YtpodccgaigkalaaTotals.lean).
  GIVEN WITH THE SEED: the statements are not yours to turn. If you find one false, say at which input.
  Laid BY PROGRAM, IN A SANDBOX (cutbox-rows.mjs): the forced cells as the released guide's own fill.sh prints them over the translation 7c984670654c9974… (all of the seat's roots in one cut). By AI agents, Wed Nov 11 2026. No macro, syntax, notation, axiom, sorry.
-/
import Derived.Test.YtpodccgaigkalaaChecked
import GoSem.Claim
import GoSem.ClaimJoined
import GoSem.ClaimMapViews
import Derived.JoinedTies
import Derived.KernelRfl
namespace Go.Proofs.Ytpodccgaigkalaa
/- THE CELL 'sum', in the pinned program and in every row, IS THE sha256 OF THE DUMP (.gsa) THAT YtpodccgaigkalaaProg.lean LOADS. Nothing in Lean hashes anything: it is a label: what it is worth is what the hold of that sum in a sandbox is worth. -/
noncomputable def Try.pinned : Pinned := { name := "ytpodccgaigkalaa", sum := "7c984670654c997444a55f8ded2eb737987223885aaab836fa9602997e7645a7", checked := Try.checked }
namespace Rows
def none {H : Type} : Left H := { results := [], args := [] }

/-- 'selvedgelaw06.BookPuts': WHATEVER THE INPUT: true; the input reads as it did. -/
def bookPutsSpec : ChangeSpec := { name := "bookPuts", fn := fun _ => fun
  | [d1, d2] => { results := [.lit (.bool true)], args := [d1, d2] }
  | _ => none }
def bookPutsRow : OpenClaim := { program := "ytpodccgaigkalaa", sum := "7c984670654c997444a55f8ded2eb737987223885aaab836fa9602997e7645a7", func := "selvedge/selvedgelaw06.BookPuts", spec := "bookPuts", unfollowed := true, recurses := true, apart := false }
def BookPutsSaid : Prop := bookPutsRow.holds Try.pinned (OpenSpec.ofChange bookPutsSpec)

/-- ITS FALSE NEIGHBOUR: 'it returns false'. Refute it at one input. -/
def bookPutsWrong : ChangeSpec := { name := "bookPuts", fn := fun _ => fun
  | [d1, d2] => { results := [.lit (.bool false)], args := [d1, d2] }
  | _ => none }
def BookPutsWrongFalsely : Prop := bookPutsRow.holds Try.pinned (OpenSpec.ofChange bookPutsWrong)

/-- 'selvedgelaw06.BookBy': WHATEVER THE INPUT: true; the input reads as it did. -/
def bookBySpec : ChangeSpec := { name := "bookBy", fn := fun _ => fun
  | [d1, d2, d3] => { results := [.lit (.bool true)], args := [d1, d2, d3] }
  | _ => none }
def bookByRow : OpenClaim := { program := "ytpodccgaigkalaa", sum := "7c984670654c997444a55f8ded2eb737987223885aaab836fa9602997e7645a7", func := "selvedge/selvedgelaw06.BookBy", spec := "bookBy", unfollowed := true, recurses := true, apart := false }
def BookBySaid : Prop := bookByRow.holds Try.pinned (OpenSpec.ofChange bookBySpec)

/-- ITS FALSE NEIGHBOUR: 'it returns false'. Refute it at one input. -/
def bookByWrong : ChangeSpec := { name := "bookBy", fn := fun _ => fun
  | [d1, d2, d3] => { results := [.lit (.bool false)], args := [d1, d2, d3] }
  | _ => none }
def BookByWrongFalsely : Prop := bookByRow.holds Try.pinned (OpenSpec.ofChange bookByWrong)

/-- 'selvedgelaw06.BookStays': WHATEVER THE INPUT: true; the input reads as it did. -/
def bookStaysSpec : ChangeSpec := { name := "bookStays", fn := fun _ => fun
  | [d1, d2] => { results := [.lit (.bool true)], args := [d1, d2] }
  | _ => none }
def bookStaysRow : OpenClaim := { program := "ytpodccgaigkalaa", sum := "7c984670654c997444a55f8ded2eb737987223885aaab836fa9602997e7645a7", func := "selvedge/selvedgelaw06.BookStays", spec := "bookStays", unfollowed := true, recurses := true, apart := false }
def BookStaysSaid : Prop := bookStaysRow.holds Try.pinned (OpenSpec.ofChange bookStaysSpec)

/-- ITS FALSE NEIGHBOUR: 'it returns false'. Refute it at one input. -/
def bookStaysWrong : ChangeSpec := { name := "bookStays", fn := fun _ => fun
  | [d1, d2] => { results := [.lit (.bool false)], args := [d1, d2] }
  | _ => none }
def BookStaysWrongFalsely : Prop := bookStaysRow.holds Try.pinned (OpenSpec.ofChange bookStaysWrong)

/-- 'selvedgelaw06.BookOrder': WHATEVER THE INPUT: true; the input reads as it did. -/
def bookOrderSpec : ChangeSpec := { name := "bookOrder", fn := fun _ => fun
  | [d] => { results := [.lit (.bool true)], args := [d] }
  | _ => none }
def bookOrderRow : OpenClaim := { program := "ytpodccgaigkalaa", sum := "7c984670654c997444a55f8ded2eb737987223885aaab836fa9602997e7645a7", func := "selvedge/selvedgelaw06.BookOrder", spec := "bookOrder", unfollowed := true, recurses := true, apart := false }
def BookOrderSaid : Prop := bookOrderRow.holds Try.pinned (OpenSpec.ofChange bookOrderSpec)

/-- ITS FALSE NEIGHBOUR: 'it returns false'. Refute it at one input. -/
def bookOrderWrong : ChangeSpec := { name := "bookOrder", fn := fun _ => fun
  | [d] => { results := [.lit (.bool false)], args := [d] }
  | _ => none }
def BookOrderWrongFalsely : Prop := bookOrderRow.holds Try.pinned (OpenSpec.ofChange bookOrderWrong)

/-- 'selvedgelaw06.BookGrows': WHATEVER THE INPUT: true; the input reads as it did. -/
def bookGrowsSpec : ChangeSpec := { name := "bookGrows", fn := fun _ => fun
  | [d] => { results := [.lit (.bool true)], args := [d] }
  | _ => none }
def bookGrowsRow : OpenClaim := { program := "ytpodccgaigkalaa", sum := "7c984670654c997444a55f8ded2eb737987223885aaab836fa9602997e7645a7", func := "selvedge/selvedgelaw06.BookGrows", spec := "bookGrows", unfollowed := true, recurses := true, apart := false }
def BookGrowsSaid : Prop := bookGrowsRow.holds Try.pinned (OpenSpec.ofChange bookGrowsSpec)

/-- ITS FALSE NEIGHBOUR: 'it returns false'. Refute it at one input. -/
def bookGrowsWrong : ChangeSpec := { name := "bookGrows", fn := fun _ => fun
  | [d] => { results := [.lit (.bool false)], args := [d] }
  | _ => none }
def BookGrowsWrongFalsely : Prop := bookGrowsRow.holds Try.pinned (OpenSpec.ofChange bookGrowsWrong)

/-- 'selvedgelaw06.BookAdds': WHATEVER THE INPUT: true; the input reads as it did. -/
def bookAddsSpec : ChangeSpec := { name := "bookAdds", fn := fun _ => fun
  | [d1, d2, d3] => { results := [.lit (.bool true)], args := [d1, d2, d3] }
  | _ => none }
def bookAddsRow : OpenClaim := { program := "ytpodccgaigkalaa", sum := "7c984670654c997444a55f8ded2eb737987223885aaab836fa9602997e7645a7", func := "selvedge/selvedgelaw06.BookAdds", spec := "bookAdds", unfollowed := true, recurses := true, apart := false }
def BookAddsSaid : Prop := bookAddsRow.holds Try.pinned (OpenSpec.ofChange bookAddsSpec)

/-- ITS FALSE NEIGHBOUR: 'it returns false'. Refute it at one input. -/
def bookAddsWrong : ChangeSpec := { name := "bookAdds", fn := fun _ => fun
  | [d1, d2, d3] => { results := [.lit (.bool false)], args := [d1, d2, d3] }
  | _ => none }
def BookAddsWrongFalsely : Prop := bookAddsRow.holds Try.pinned (OpenSpec.ofChange bookAddsWrong)

/-- 'selvedgelaw06.BookTwice': WHATEVER THE INPUT: true; the input reads as it did. -/
def bookTwiceSpec : ChangeSpec := { name := "bookTwice", fn := fun _ => fun
  | [d1, d2] => { results := [.lit (.bool true)], args := [d1, d2] }
  | _ => none }
def bookTwiceRow : OpenClaim := { program := "ytpodccgaigkalaa", sum := "7c984670654c997444a55f8ded2eb737987223885aaab836fa9602997e7645a7", func := "selvedge/selvedgelaw06.BookTwice", spec := "bookTwice", unfollowed := true, recurses := true, apart := false }
def BookTwiceSaid : Prop := bookTwiceRow.holds Try.pinned (OpenSpec.ofChange bookTwiceSpec)

/-- ITS FALSE NEIGHBOUR: 'it returns false'. Refute it at one input. -/
def bookTwiceWrong : ChangeSpec := { name := "bookTwice", fn := fun _ => fun
  | [d1, d2] => { results := [.lit (.bool false)], args := [d1, d2] }
  | _ => none }
def BookTwiceWrongFalsely : Prop := bookTwiceRow.holds Try.pinned (OpenSpec.ofChange bookTwiceWrong)

/- THE SECOND FORM. 'bulk': how many values and letters a reading holds, each counted each time it is reached (what is shared counts as often as it is met; a slice's spare places count too). A statement '..UptoSaid' is the law's where the arguments, and the package variables that the reading takes, are together of bulk at most 1048576: NARROWER than '..Said'. Prove '..Said' where nothing that the law and all that it calls make is longer than what came in: it says more and counts as full. Else prove '..UptoSaid'. A law counts once. -/
mutual
def uptoBulk {H : Type} : DataW H → Nat
  | .lit (.string bytes) => bytes.length + 1
  | .lit _ => 1
  | .nil => 1
  | .ptr d => uptoBulk d + 1
  | .slice elems spare => uptoBulkAll elems + uptoBulkAll spare + 1
  | .agg parts => uptoBulkAll parts + 1
  | .iface _ d => uptoBulk d + 1
  | .map entries => uptoBulkEntries entries + 1
  | .held _ => 1
def uptoBulkAll {H : Type} : List (DataW H) → Nat
  | [] => 0
  | d :: r => uptoBulk d + uptoBulkAll r
def uptoBulkEntries {H : Type} : List (Lit × DataW H) → Nat
  | [] => 0
  | x :: r => uptoBulkEntry x + uptoBulkEntries r
def uptoBulkEntry {H : Type} : Lit × DataW H → Nat
  | (.string bytes, d) => bytes.length + uptoBulk d + 1
  | (_, d) => uptoBulk d + 1
 end
def uptoSmall : (H : Type) → List (DataW H) → Bool := fun _ ds => decide (uptoBulkAll ds ≤ 1048576)
def OpenSpec.upto (s : _root_.Go.ChangeSpec) : _root_.Go.OpenSpec := { _root_.Go.OpenSpec.ofChange s with cond := some uptoSmall }

/-- 'selvedgelaw06.BookPuts', WHERE WHAT IT READS IS OF BULK AT MOST 1048576: true; the input reads as it did. -/
def bookPutsUptoRow : OpenClaim := { program := "ytpodccgaigkalaa", sum := "7c984670654c997444a55f8ded2eb737987223885aaab836fa9602997e7645a7", func := "selvedge/selvedgelaw06.BookPuts", spec := "bookPuts", unfollowed := true, recurses := true, apart := false, narrowed := true }
def BookPutsUptoSaid : Prop := bookPutsUptoRow.holds Try.pinned (OpenSpec.upto bookPutsSpec)

/-- 'selvedgelaw06.BookBy', WHERE WHAT IT READS IS OF BULK AT MOST 1048576: true; the input reads as it did. -/
def bookByUptoRow : OpenClaim := { program := "ytpodccgaigkalaa", sum := "7c984670654c997444a55f8ded2eb737987223885aaab836fa9602997e7645a7", func := "selvedge/selvedgelaw06.BookBy", spec := "bookBy", unfollowed := true, recurses := true, apart := false, narrowed := true }
def BookByUptoSaid : Prop := bookByUptoRow.holds Try.pinned (OpenSpec.upto bookBySpec)

/-- 'selvedgelaw06.BookStays', WHERE WHAT IT READS IS OF BULK AT MOST 1048576: true; the input reads as it did. -/
def bookStaysUptoRow : OpenClaim := { program := "ytpodccgaigkalaa", sum := "7c984670654c997444a55f8ded2eb737987223885aaab836fa9602997e7645a7", func := "selvedge/selvedgelaw06.BookStays", spec := "bookStays", unfollowed := true, recurses := true, apart := false, narrowed := true }
def BookStaysUptoSaid : Prop := bookStaysUptoRow.holds Try.pinned (OpenSpec.upto bookStaysSpec)

/-- 'selvedgelaw06.BookOrder', WHERE WHAT IT READS IS OF BULK AT MOST 1048576: true; the input reads as it did. -/
def bookOrderUptoRow : OpenClaim := { program := "ytpodccgaigkalaa", sum := "7c984670654c997444a55f8ded2eb737987223885aaab836fa9602997e7645a7", func := "selvedge/selvedgelaw06.BookOrder", spec := "bookOrder", unfollowed := true, recurses := true, apart := false, narrowed := true }
def BookOrderUptoSaid : Prop := bookOrderUptoRow.holds Try.pinned (OpenSpec.upto bookOrderSpec)

/-- 'selvedgelaw06.BookGrows', WHERE WHAT IT READS IS OF BULK AT MOST 1048576: true; the input reads as it did. -/
def bookGrowsUptoRow : OpenClaim := { program := "ytpodccgaigkalaa", sum := "7c984670654c997444a55f8ded2eb737987223885aaab836fa9602997e7645a7", func := "selvedge/selvedgelaw06.BookGrows", spec := "bookGrows", unfollowed := true, recurses := true, apart := false, narrowed := true }
def BookGrowsUptoSaid : Prop := bookGrowsUptoRow.holds Try.pinned (OpenSpec.upto bookGrowsSpec)

/-- 'selvedgelaw06.BookAdds', WHERE WHAT IT READS IS OF BULK AT MOST 1048576: true; the input reads as it did. -/
def bookAddsUptoRow : OpenClaim := { program := "ytpodccgaigkalaa", sum := "7c984670654c997444a55f8ded2eb737987223885aaab836fa9602997e7645a7", func := "selvedge/selvedgelaw06.BookAdds", spec := "bookAdds", unfollowed := true, recurses := true, apart := false, narrowed := true }
def BookAddsUptoSaid : Prop := bookAddsUptoRow.holds Try.pinned (OpenSpec.upto bookAddsSpec)

/-- 'selvedgelaw06.BookTwice', WHERE WHAT IT READS IS OF BULK AT MOST 1048576: true; the input reads as it did. -/
def bookTwiceUptoRow : OpenClaim := { program := "ytpodccgaigkalaa", sum := "7c984670654c997444a55f8ded2eb737987223885aaab836fa9602997e7645a7", func := "selvedge/selvedgelaw06.BookTwice", spec := "bookTwice", unfollowed := true, recurses := true, apart := false, narrowed := true }
def BookTwiceUptoSaid : Prop := bookTwiceUptoRow.holds Try.pinned (OpenSpec.upto bookTwiceSpec)

end Rows
end Go.Proofs.Ytpodccgaigkalaa
