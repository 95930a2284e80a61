/-
  No cell of these rows narrows 'for every input' (looked for: loops, veiled, ifaces, maps, wideKeys, modest, calm, conditions, laid).
  DERIVED. THE GIVEN ROWS OF THIS SEAT. 6 by the template 'for every input the law returns true; each argument reads behind the call as it read before'; 0 by the template 'total and deterministic' (their statements: YtjngjmhhfhkbkaaTotals.lean).
  GIVEN WITH THE SEED: the statements are not yours to turn. If you find one false, say at which input.
  Laid BY PROGRAM, IN A SANDBOX (cutbox-rows.mjs): the forced cells as the released guide's own fill.sh prints them over the translation 5b4d5a66ebf709f4… (all of the seat's roots in one cut). By AI agents, Wed Nov 11 2026. No macro, syntax, notation, axiom, sorry.
-/
import Derived.Test.YtjngjmhhfhkbkaaChecked
import GoSem.Claim
import GoSem.ClaimJoined
import GoSem.ClaimMapViews
import Derived.JoinedTies
import Derived.KernelRfl
namespace Go.Proofs.Ytjngjmhhfhkbkaa
/- THE CELL 'sum', in the pinned program and in every row, IS THE sha256 OF THE DUMP (.gsa) THAT YtjngjmhhfhkbkaaProg.lean LOADS. Nothing in Lean hashes anything: it is a label: what it is worth is what the hold of that sum in a sandbox is worth. -/
noncomputable def Try.pinned : Pinned := { name := "ytjngjmhhfhkbkaa", sum := "5b4d5a66ebf709f4266d6fc1f51c25b19476c0d049519c41af5f3f3c50ace4de", checked := Try.checked }
namespace Rows
def none {H : Type} : Left H := { results := [], args := [] }

/-- 'selvedgelaw09.VoteGives': WHATEVER THE INPUT: true; the input reads as it did. -/
def voteGivesSpec : ChangeSpec := { name := "voteGives", fn := fun _ => fun
  | [d1, d2, d3] => { results := [.lit (.bool true)], args := [d1, d2, d3] }
  | _ => none }
def voteGivesRow : OpenClaim := { program := "ytjngjmhhfhkbkaa", sum := "5b4d5a66ebf709f4266d6fc1f51c25b19476c0d049519c41af5f3f3c50ace4de", func := "selvedge/selvedgelaw09.VoteGives", spec := "voteGives", unfollowed := true, recurses := true, apart := false }
def VoteGivesSaid : Prop := voteGivesRow.holds Try.pinned (OpenSpec.ofChange voteGivesSpec)

/-- ITS FALSE NEIGHBOUR: 'it returns false'. Refute it at one input. -/
def voteGivesWrong : ChangeSpec := { name := "voteGives", fn := fun _ => fun
  | [d1, d2, d3] => { results := [.lit (.bool false)], args := [d1, d2, d3] }
  | _ => none }
def VoteGivesWrongFalsely : Prop := voteGivesRow.holds Try.pinned (OpenSpec.ofChange voteGivesWrong)

/-- 'selvedgelaw09.VoteFinds': WHATEVER THE INPUT: true; the input reads as it did. -/
def voteFindsSpec : ChangeSpec := { name := "voteFinds", fn := fun _ => fun
  | [d1, d2, d3] => { results := [.lit (.bool true)], args := [d1, d2, d3] }
  | _ => none }
def voteFindsRow : OpenClaim := { program := "ytjngjmhhfhkbkaa", sum := "5b4d5a66ebf709f4266d6fc1f51c25b19476c0d049519c41af5f3f3c50ace4de", func := "selvedge/selvedgelaw09.VoteFinds", spec := "voteFinds", apart := false }
def VoteFindsSaid : Prop := voteFindsRow.holds Try.pinned (OpenSpec.ofChange voteFindsSpec)

/-- ITS FALSE NEIGHBOUR: 'it returns false'. Refute it at one input. -/
def voteFindsWrong : ChangeSpec := { name := "voteFinds", fn := fun _ => fun
  | [d1, d2, d3] => { results := [.lit (.bool false)], args := [d1, d2, d3] }
  | _ => none }
def VoteFindsWrongFalsely : Prop := voteFindsRow.holds Try.pinned (OpenSpec.ofChange voteFindsWrong)

/-- 'selvedgelaw09.VoteOnce': WHATEVER THE INPUT: true; the input reads as it did. -/
def voteOnceSpec : ChangeSpec := { name := "voteOnce", fn := fun _ => fun
  | [d] => { results := [.lit (.bool true)], args := [d] }
  | _ => none }
def voteOnceRow : OpenClaim := { program := "ytjngjmhhfhkbkaa", sum := "5b4d5a66ebf709f4266d6fc1f51c25b19476c0d049519c41af5f3f3c50ace4de", func := "selvedge/selvedgelaw09.VoteOnce", spec := "voteOnce", unfollowed := true, recurses := true, apart := false }
def VoteOnceSaid : Prop := voteOnceRow.holds Try.pinned (OpenSpec.ofChange voteOnceSpec)

/-- ITS FALSE NEIGHBOUR: 'it returns false'. Refute it at one input. -/
def voteOnceWrong : ChangeSpec := { name := "voteOnce", fn := fun _ => fun
  | [d] => { results := [.lit (.bool false)], args := [d] }
  | _ => none }
def VoteOnceWrongFalsely : Prop := voteOnceRow.holds Try.pinned (OpenSpec.ofChange voteOnceWrong)

/-- 'selvedgelaw09.VoteStays': WHATEVER THE INPUT: true; the input reads as it did. -/
def voteStaysSpec : ChangeSpec := { name := "voteStays", fn := fun _ => fun
  | [d1, d2, d3] => { results := [.lit (.bool true)], args := [d1, d2, d3] }
  | _ => none }
def voteStaysRow : OpenClaim := { program := "ytjngjmhhfhkbkaa", sum := "5b4d5a66ebf709f4266d6fc1f51c25b19476c0d049519c41af5f3f3c50ace4de", func := "selvedge/selvedgelaw09.VoteStays", spec := "voteStays", unfollowed := true, recurses := true, apart := false }
def VoteStaysSaid : Prop := voteStaysRow.holds Try.pinned (OpenSpec.ofChange voteStaysSpec)

/-- ITS FALSE NEIGHBOUR: 'it returns false'. Refute it at one input. -/
def voteStaysWrong : ChangeSpec := { name := "voteStays", fn := fun _ => fun
  | [d1, d2, d3] => { results := [.lit (.bool false)], args := [d1, d2, d3] }
  | _ => none }
def VoteStaysWrongFalsely : Prop := voteStaysRow.holds Try.pinned (OpenSpec.ofChange voteStaysWrong)

/-- 'selvedgelaw09.VoteFloors': WHATEVER THE INPUT: true; the input reads as it did. -/
def voteFloorsSpec : ChangeSpec := { name := "voteFloors", fn := fun _ => fun
  | [d] => { results := [.lit (.bool true)], args := [d] }
  | _ => none }
def voteFloorsRow : OpenClaim := { program := "ytjngjmhhfhkbkaa", sum := "5b4d5a66ebf709f4266d6fc1f51c25b19476c0d049519c41af5f3f3c50ace4de", func := "selvedge/selvedgelaw09.VoteFloors", spec := "voteFloors", unfollowed := true, recurses := true, apart := false }
def VoteFloorsSaid : Prop := voteFloorsRow.holds Try.pinned (OpenSpec.ofChange voteFloorsSpec)

/-- ITS FALSE NEIGHBOUR: 'it returns false'. Refute it at one input. -/
def voteFloorsWrong : ChangeSpec := { name := "voteFloors", fn := fun _ => fun
  | [d] => { results := [.lit (.bool false)], args := [d] }
  | _ => none }
def VoteFloorsWrongFalsely : Prop := voteFloorsRow.holds Try.pinned (OpenSpec.ofChange voteFloorsWrong)

/-- 'selvedgelaw09.VoteGrows': WHATEVER THE INPUT: true; the input reads as it did. -/
def voteGrowsSpec : ChangeSpec := { name := "voteGrows", fn := fun _ => fun
  | [d1, d2, d3] => { results := [.lit (.bool true)], args := [d1, d2, d3] }
  | _ => none }
def voteGrowsRow : OpenClaim := { program := "ytjngjmhhfhkbkaa", sum := "5b4d5a66ebf709f4266d6fc1f51c25b19476c0d049519c41af5f3f3c50ace4de", func := "selvedge/selvedgelaw09.VoteGrows", spec := "voteGrows", apart := false }
def VoteGrowsSaid : Prop := voteGrowsRow.holds Try.pinned (OpenSpec.ofChange voteGrowsSpec)

/-- ITS FALSE NEIGHBOUR: 'it returns false'. Refute it at one input. -/
def voteGrowsWrong : ChangeSpec := { name := "voteGrows", fn := fun _ => fun
  | [d1, d2, d3] => { results := [.lit (.bool false)], args := [d1, d2, d3] }
  | _ => none }
def VoteGrowsWrongFalsely : Prop := voteGrowsRow.holds Try.pinned (OpenSpec.ofChange voteGrowsWrong)

/- THE SECOND FORM. 'bulk': how many values and letters a reading holds, each counted each time it is reached (what is shared counts as often as it is met; a slice's spare places count too). A statement '..UptoSaid' is the law's where the arguments, and the package variables that the reading takes, are together of bulk at most 1048576: NARROWER than '..Said'. Prove '..Said' where nothing that the law and all that it calls make is longer than what came in: it says more and counts as full. Else prove '..UptoSaid'. A law counts once. -/
mutual
def uptoBulk {H : Type} : DataW H → Nat
  | .lit (.string bytes) => bytes.length + 1
  | .lit _ => 1
  | .nil => 1
  | .ptr d => uptoBulk d + 1
  | .slice elems spare => uptoBulkAll elems + uptoBulkAll spare + 1
  | .agg parts => uptoBulkAll parts + 1
  | .iface _ d => uptoBulk d + 1
  | .map entries => uptoBulkEntries entries + 1
  | .held _ => 1
def uptoBulkAll {H : Type} : List (DataW H) → Nat
  | [] => 0
  | d :: r => uptoBulk d + uptoBulkAll r
def uptoBulkEntries {H : Type} : List (Lit × DataW H) → Nat
  | [] => 0
  | x :: r => uptoBulkEntry x + uptoBulkEntries r
def uptoBulkEntry {H : Type} : Lit × DataW H → Nat
  | (.string bytes, d) => bytes.length + uptoBulk d + 1
  | (_, d) => uptoBulk d + 1
 end
def uptoSmall : (H : Type) → List (DataW H) → Bool := fun _ ds => decide (uptoBulkAll ds ≤ 1048576)
def OpenSpec.upto (s : _root_.Go.ChangeSpec) : _root_.Go.OpenSpec := { _root_.Go.OpenSpec.ofChange s with cond := some uptoSmall }

/-- 'selvedgelaw09.VoteGives', WHERE WHAT IT READS IS OF BULK AT MOST 1048576: true; the input reads as it did. -/
def voteGivesUptoRow : OpenClaim := { program := "ytjngjmhhfhkbkaa", sum := "5b4d5a66ebf709f4266d6fc1f51c25b19476c0d049519c41af5f3f3c50ace4de", func := "selvedge/selvedgelaw09.VoteGives", spec := "voteGives", unfollowed := true, recurses := true, apart := false, narrowed := true }
def VoteGivesUptoSaid : Prop := voteGivesUptoRow.holds Try.pinned (OpenSpec.upto voteGivesSpec)

/-- 'selvedgelaw09.VoteFinds', WHERE WHAT IT READS IS OF BULK AT MOST 1048576: true; the input reads as it did. -/
def voteFindsUptoRow : OpenClaim := { program := "ytjngjmhhfhkbkaa", sum := "5b4d5a66ebf709f4266d6fc1f51c25b19476c0d049519c41af5f3f3c50ace4de", func := "selvedge/selvedgelaw09.VoteFinds", spec := "voteFinds", apart := false, narrowed := true }
def VoteFindsUptoSaid : Prop := voteFindsUptoRow.holds Try.pinned (OpenSpec.upto voteFindsSpec)

/-- 'selvedgelaw09.VoteOnce', WHERE WHAT IT READS IS OF BULK AT MOST 1048576: true; the input reads as it did. -/
def voteOnceUptoRow : OpenClaim := { program := "ytjngjmhhfhkbkaa", sum := "5b4d5a66ebf709f4266d6fc1f51c25b19476c0d049519c41af5f3f3c50ace4de", func := "selvedge/selvedgelaw09.VoteOnce", spec := "voteOnce", unfollowed := true, recurses := true, apart := false, narrowed := true }
def VoteOnceUptoSaid : Prop := voteOnceUptoRow.holds Try.pinned (OpenSpec.upto voteOnceSpec)

/-- 'selvedgelaw09.VoteStays', WHERE WHAT IT READS IS OF BULK AT MOST 1048576: true; the input reads as it did. -/
def voteStaysUptoRow : OpenClaim := { program := "ytjngjmhhfhkbkaa", sum := "5b4d5a66ebf709f4266d6fc1f51c25b19476c0d049519c41af5f3f3c50ace4de", func := "selvedge/selvedgelaw09.VoteStays", spec := "voteStays", unfollowed := true, recurses := true, apart := false, narrowed := true }
def VoteStaysUptoSaid : Prop := voteStaysUptoRow.holds Try.pinned (OpenSpec.upto voteStaysSpec)

/-- 'selvedgelaw09.VoteFloors', WHERE WHAT IT READS IS OF BULK AT MOST 1048576: true; the input reads as it did. -/
def voteFloorsUptoRow : OpenClaim := { program := "ytjngjmhhfhkbkaa", sum := "5b4d5a66ebf709f4266d6fc1f51c25b19476c0d049519c41af5f3f3c50ace4de", func := "selvedge/selvedgelaw09.VoteFloors", spec := "voteFloors", unfollowed := true, recurses := true, apart := false, narrowed := true }
def VoteFloorsUptoSaid : Prop := voteFloorsUptoRow.holds Try.pinned (OpenSpec.upto voteFloorsSpec)

/-- 'selvedgelaw09.VoteGrows', WHERE WHAT IT READS IS OF BULK AT MOST 1048576: true; the input reads as it did. -/
def voteGrowsUptoRow : OpenClaim := { program := "ytjngjmhhfhkbkaa", sum := "5b4d5a66ebf709f4266d6fc1f51c25b19476c0d049519c41af5f3f3c50ace4de", func := "selvedge/selvedgelaw09.VoteGrows", spec := "voteGrows", apart := false, narrowed := true }
def VoteGrowsUptoSaid : Prop := voteGrowsUptoRow.holds Try.pinned (OpenSpec.upto voteGrowsSpec)

end Rows
end Go.Proofs.Ytjngjmhhfhkbkaa
