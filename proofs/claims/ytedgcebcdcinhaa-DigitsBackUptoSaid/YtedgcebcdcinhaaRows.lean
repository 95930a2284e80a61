/-
  No cell of these rows narrows 'for every input' (looked for: loops, veiled, ifaces, maps, wideKeys, modest, calm, conditions, laid).
  DERIVED. THE GIVEN ROWS OF THIS SEAT. 9 by the template 'for every input the law returns true; each argument reads behind the call as it read before'; 0 by the template 'total and deterministic' (their statements: YtedgcebcdcinhaaTotals.lean).
  GIVEN WITH THE SEED: the statements are not yours to turn. If you find one false, say at which input.
  Laid BY PROGRAM, IN A SANDBOX (cutbox-rows.mjs): the forced cells as the released guide's own fill.sh prints them over the translation ab5649c307633f31… (all of the seat's roots in one cut). By AI agents, Wed Nov 11 2026. No macro, syntax, notation, axiom, sorry.
-/
import Derived.Test.YtedgcebcdcinhaaChecked
import GoSem.Claim
import GoSem.ClaimJoined
import GoSem.ClaimMapViews
import Derived.JoinedTies
import Derived.KernelRfl
namespace Go.Proofs.Ytedgcebcdcinhaa
/- THE CELL 'sum', in the pinned program and in every row, IS THE sha256 OF THE DUMP (.gsa) THAT YtedgcebcdcinhaaProg.lean LOADS. Nothing in Lean hashes anything: it is a label: what it is worth is what the hold of that sum in a sandbox is worth. -/
noncomputable def Try.pinned : Pinned := { name := "ytedgcebcdcinhaa", sum := "ab5649c307633f311cd9962a8e9a10493d4161d6b16f9a25f8dd7cb2a5484ca0", checked := Try.checked }
namespace Rows
def none {H : Type} : Left H := { results := [], args := [] }

/-- 'selvedgelaw01.DigitsNums': WHATEVER THE INPUT: true; the input reads as it did. -/
def digitsNumsSpec : ChangeSpec := { name := "digitsNums", fn := fun _ => fun
  | [d1, d2] => { results := [.lit (.bool true)], args := [d1, d2] }
  | _ => none }
def digitsNumsRow : OpenClaim := { program := "ytedgcebcdcinhaa", sum := "ab5649c307633f311cd9962a8e9a10493d4161d6b16f9a25f8dd7cb2a5484ca0", func := "selvedge/selvedgelaw01.DigitsNums", spec := "digitsNums", apart := false }
def DigitsNumsSaid : Prop := digitsNumsRow.holds Try.pinned (OpenSpec.ofChange digitsNumsSpec)

/-- ITS FALSE NEIGHBOUR: 'it returns false'. Refute it at one input. -/
def digitsNumsWrong : ChangeSpec := { name := "digitsNums", fn := fun _ => fun
  | [d1, d2] => { results := [.lit (.bool false)], args := [d1, d2] }
  | _ => none }
def DigitsNumsWrongFalsely : Prop := digitsNumsRow.holds Try.pinned (OpenSpec.ofChange digitsNumsWrong)

/-- 'selvedgelaw01.DigitsTakes': WHATEVER THE INPUT: true; the input reads as it did. -/
def digitsTakesSpec : ChangeSpec := { name := "digitsTakes", fn := fun _ => fun
  | [d] => { results := [.lit (.bool true)], args := [d] }
  | _ => none }
def digitsTakesRow : OpenClaim := { program := "ytedgcebcdcinhaa", sum := "ab5649c307633f311cd9962a8e9a10493d4161d6b16f9a25f8dd7cb2a5484ca0", func := "selvedge/selvedgelaw01.DigitsTakes", spec := "digitsTakes", apart := false }
def DigitsTakesSaid : Prop := digitsTakesRow.holds Try.pinned (OpenSpec.ofChange digitsTakesSpec)

/-- ITS FALSE NEIGHBOUR: 'it returns false'. Refute it at one input. -/
def digitsTakesWrong : ChangeSpec := { name := "digitsTakes", fn := fun _ => fun
  | [d] => { results := [.lit (.bool false)], args := [d] }
  | _ => none }
def DigitsTakesWrongFalsely : Prop := digitsTakesRow.holds Try.pinned (OpenSpec.ofChange digitsTakesWrong)

/-- 'selvedgelaw01.DigitsTexts': WHATEVER THE INPUT: true; the input reads as it did. -/
def digitsTextsSpec : ChangeSpec := { name := "digitsTexts", fn := fun _ => fun
  | [d1, d2] => { results := [.lit (.bool true)], args := [d1, d2] }
  | _ => none }
def digitsTextsRow : OpenClaim := { program := "ytedgcebcdcinhaa", sum := "ab5649c307633f311cd9962a8e9a10493d4161d6b16f9a25f8dd7cb2a5484ca0", func := "selvedge/selvedgelaw01.DigitsTexts", spec := "digitsTexts", apart := false }
def DigitsTextsSaid : Prop := digitsTextsRow.holds Try.pinned (OpenSpec.ofChange digitsTextsSpec)

/-- ITS FALSE NEIGHBOUR: 'it returns false'. Refute it at one input. -/
def digitsTextsWrong : ChangeSpec := { name := "digitsTexts", fn := fun _ => fun
  | [d1, d2] => { results := [.lit (.bool false)], args := [d1, d2] }
  | _ => none }
def DigitsTextsWrongFalsely : Prop := digitsTextsRow.holds Try.pinned (OpenSpec.ofChange digitsTextsWrong)

/-- 'selvedgelaw01.DigitsRows': WHATEVER THE INPUT: true; the input reads as it did. -/
def digitsRowsSpec : ChangeSpec := { name := "digitsRows", fn := fun _ => fun
  | [d] => { results := [.lit (.bool true)], args := [d] }
  | _ => none }
def digitsRowsRow : OpenClaim := { program := "ytedgcebcdcinhaa", sum := "ab5649c307633f311cd9962a8e9a10493d4161d6b16f9a25f8dd7cb2a5484ca0", func := "selvedge/selvedgelaw01.DigitsRows", spec := "digitsRows", inPlace := ["internal/abi.NoEscape"], unfollowed := true, recurses := true, apart := false }
def DigitsRowsSaid : Prop := digitsRowsRow.holds Try.pinned (OpenSpec.ofChange digitsRowsSpec)

/-- ITS FALSE NEIGHBOUR: 'it returns false'. Refute it at one input. -/
def digitsRowsWrong : ChangeSpec := { name := "digitsRows", fn := fun _ => fun
  | [d] => { results := [.lit (.bool false)], args := [d] }
  | _ => none }
def DigitsRowsWrongFalsely : Prop := digitsRowsRow.holds Try.pinned (OpenSpec.ofChange digitsRowsWrong)

/-- 'selvedgelaw01.DigitsBack': WHATEVER THE INPUT: true; the input reads as it did. -/
def digitsBackSpec : ChangeSpec := { name := "digitsBack", fn := fun _ => fun
  | [d] => { results := [.lit (.bool true)], args := [d] }
  | _ => none }
def digitsBackRow : OpenClaim := { program := "ytedgcebcdcinhaa", sum := "ab5649c307633f311cd9962a8e9a10493d4161d6b16f9a25f8dd7cb2a5484ca0", func := "selvedge/selvedgelaw01.DigitsBack", spec := "digitsBack", inPlace := ["internal/abi.NoEscape"], unfollowed := true, recurses := true, apart := false }
def DigitsBackSaid : Prop := digitsBackRow.holds Try.pinned (OpenSpec.ofChange digitsBackSpec)

/-- ITS FALSE NEIGHBOUR: 'it returns false'. Refute it at one input. -/
def digitsBackWrong : ChangeSpec := { name := "digitsBack", fn := fun _ => fun
  | [d] => { results := [.lit (.bool false)], args := [d] }
  | _ => none }
def DigitsBackWrongFalsely : Prop := digitsBackRow.holds Try.pinned (OpenSpec.ofChange digitsBackWrong)

/-- 'selvedgelaw01.DigitsCut': WHATEVER THE INPUT: true; the input reads as it did. -/
def digitsCutSpec : ChangeSpec := { name := "digitsCut", fn := fun _ => fun
  | [d1, d2, d3] => { results := [.lit (.bool true)], args := [d1, d2, d3] }
  | _ => none }
def digitsCutRow : OpenClaim := { program := "ytedgcebcdcinhaa", sum := "ab5649c307633f311cd9962a8e9a10493d4161d6b16f9a25f8dd7cb2a5484ca0", func := "selvedge/selvedgelaw01.DigitsCut", spec := "digitsCut", inPlace := ["internal/abi.NoEscape"], unfollowed := true, recurses := true, apart := false }
def DigitsCutSaid : Prop := digitsCutRow.holds Try.pinned (OpenSpec.ofChange digitsCutSpec)

/-- ITS FALSE NEIGHBOUR: 'it returns false'. Refute it at one input. -/
def digitsCutWrong : ChangeSpec := { name := "digitsCut", fn := fun _ => fun
  | [d1, d2, d3] => { results := [.lit (.bool false)], args := [d1, d2, d3] }
  | _ => none }
def DigitsCutWrongFalsely : Prop := digitsCutRow.holds Try.pinned (OpenSpec.ofChange digitsCutWrong)

/-- 'selvedgelaw01.DigitsOrder': WHATEVER THE INPUT: true; the input reads as it did. -/
def digitsOrderSpec : ChangeSpec := { name := "digitsOrder", fn := fun _ => fun
  | [d1, d2] => { results := [.lit (.bool true)], args := [d1, d2] }
  | _ => none }
def digitsOrderRow : OpenClaim := { program := "ytedgcebcdcinhaa", sum := "ab5649c307633f311cd9962a8e9a10493d4161d6b16f9a25f8dd7cb2a5484ca0", func := "selvedge/selvedgelaw01.DigitsOrder", spec := "digitsOrder", apart := false }
def DigitsOrderSaid : Prop := digitsOrderRow.holds Try.pinned (OpenSpec.ofChange digitsOrderSpec)

/-- ITS FALSE NEIGHBOUR: 'it returns false'. Refute it at one input. -/
def digitsOrderWrong : ChangeSpec := { name := "digitsOrder", fn := fun _ => fun
  | [d1, d2] => { results := [.lit (.bool false)], args := [d1, d2] }
  | _ => none }
def DigitsOrderWrongFalsely : Prop := digitsOrderRow.holds Try.pinned (OpenSpec.ofChange digitsOrderWrong)

/-- 'selvedgelaw01.DigitsSizes': WHATEVER THE INPUT: true; the input reads as it did. -/
def digitsSizesSpec : ChangeSpec := { name := "digitsSizes", fn := fun _ => fun
  | [d] => { results := [.lit (.bool true)], args := [d] }
  | _ => none }
def digitsSizesRow : OpenClaim := { program := "ytedgcebcdcinhaa", sum := "ab5649c307633f311cd9962a8e9a10493d4161d6b16f9a25f8dd7cb2a5484ca0", func := "selvedge/selvedgelaw01.DigitsSizes", spec := "digitsSizes", apart := false }
def DigitsSizesSaid : Prop := digitsSizesRow.holds Try.pinned (OpenSpec.ofChange digitsSizesSpec)

/-- ITS FALSE NEIGHBOUR: 'it returns false'. Refute it at one input. -/
def digitsSizesWrong : ChangeSpec := { name := "digitsSizes", fn := fun _ => fun
  | [d] => { results := [.lit (.bool false)], args := [d] }
  | _ => none }
def DigitsSizesWrongFalsely : Prop := digitsSizesRow.holds Try.pinned (OpenSpec.ofChange digitsSizesWrong)

/-- 'selvedgelaw01.DigitsJoin': WHATEVER THE INPUT: true; the input reads as it did. -/
def digitsJoinSpec : ChangeSpec := { name := "digitsJoin", fn := fun _ => fun
  | [d1, d2] => { results := [.lit (.bool true)], args := [d1, d2] }
  | _ => none }
def digitsJoinRow : OpenClaim := { program := "ytedgcebcdcinhaa", sum := "ab5649c307633f311cd9962a8e9a10493d4161d6b16f9a25f8dd7cb2a5484ca0", func := "selvedge/selvedgelaw01.DigitsJoin", spec := "digitsJoin", inPlace := ["internal/abi.NoEscape"], unfollowed := true, recurses := true, apart := false }
def DigitsJoinSaid : Prop := digitsJoinRow.holds Try.pinned (OpenSpec.ofChange digitsJoinSpec)

/-- ITS FALSE NEIGHBOUR: 'it returns false'. Refute it at one input. -/
def digitsJoinWrong : ChangeSpec := { name := "digitsJoin", fn := fun _ => fun
  | [d1, d2] => { results := [.lit (.bool false)], args := [d1, d2] }
  | _ => none }
def DigitsJoinWrongFalsely : Prop := digitsJoinRow.holds Try.pinned (OpenSpec.ofChange digitsJoinWrong)

/- THE SECOND FORM. 'bulk': how many values and letters a reading holds, each counted each time it is reached (what is shared counts as often as it is met; a slice's spare places count too). A statement '..UptoSaid' is the law's where the arguments, and the package variables that the reading takes, are together of bulk at most 1048576: NARROWER than '..Said'. Prove '..Said' where nothing that the law and all that it calls make is longer than what came in: it says more and counts as full. Else prove '..UptoSaid'. A law counts once. -/
mutual
def uptoBulk {H : Type} : DataW H → Nat
  | .lit (.string bytes) => bytes.length + 1
  | .lit _ => 1
  | .nil => 1
  | .ptr d => uptoBulk d + 1
  | .slice elems spare => uptoBulkAll elems + uptoBulkAll spare + 1
  | .agg parts => uptoBulkAll parts + 1
  | .iface _ d => uptoBulk d + 1
  | .map entries => uptoBulkEntries entries + 1
  | .held _ => 1
def uptoBulkAll {H : Type} : List (DataW H) → Nat
  | [] => 0
  | d :: r => uptoBulk d + uptoBulkAll r
def uptoBulkEntries {H : Type} : List (Lit × DataW H) → Nat
  | [] => 0
  | x :: r => uptoBulkEntry x + uptoBulkEntries r
def uptoBulkEntry {H : Type} : Lit × DataW H → Nat
  | (.string bytes, d) => bytes.length + uptoBulk d + 1
  | (_, d) => uptoBulk d + 1
 end
def uptoSmall : (H : Type) → List (DataW H) → Bool := fun _ ds => decide (uptoBulkAll ds ≤ 1048576)
def OpenSpec.upto (s : _root_.Go.ChangeSpec) : _root_.Go.OpenSpec := { _root_.Go.OpenSpec.ofChange s with cond := some uptoSmall }

/-- 'selvedgelaw01.DigitsNums', WHERE WHAT IT READS IS OF BULK AT MOST 1048576: true; the input reads as it did. -/
def digitsNumsUptoRow : OpenClaim := { program := "ytedgcebcdcinhaa", sum := "ab5649c307633f311cd9962a8e9a10493d4161d6b16f9a25f8dd7cb2a5484ca0", func := "selvedge/selvedgelaw01.DigitsNums", spec := "digitsNums", apart := false, narrowed := true }
def DigitsNumsUptoSaid : Prop := digitsNumsUptoRow.holds Try.pinned (OpenSpec.upto digitsNumsSpec)

/-- 'selvedgelaw01.DigitsTakes', WHERE WHAT IT READS IS OF BULK AT MOST 1048576: true; the input reads as it did. -/
def digitsTakesUptoRow : OpenClaim := { program := "ytedgcebcdcinhaa", sum := "ab5649c307633f311cd9962a8e9a10493d4161d6b16f9a25f8dd7cb2a5484ca0", func := "selvedge/selvedgelaw01.DigitsTakes", spec := "digitsTakes", apart := false, narrowed := true }
def DigitsTakesUptoSaid : Prop := digitsTakesUptoRow.holds Try.pinned (OpenSpec.upto digitsTakesSpec)

/-- 'selvedgelaw01.DigitsTexts', WHERE WHAT IT READS IS OF BULK AT MOST 1048576: true; the input reads as it did. -/
def digitsTextsUptoRow : OpenClaim := { program := "ytedgcebcdcinhaa", sum := "ab5649c307633f311cd9962a8e9a10493d4161d6b16f9a25f8dd7cb2a5484ca0", func := "selvedge/selvedgelaw01.DigitsTexts", spec := "digitsTexts", apart := false, narrowed := true }
def DigitsTextsUptoSaid : Prop := digitsTextsUptoRow.holds Try.pinned (OpenSpec.upto digitsTextsSpec)

/-- 'selvedgelaw01.DigitsRows', WHERE WHAT IT READS IS OF BULK AT MOST 1048576: true; the input reads as it did. -/
def digitsRowsUptoRow : OpenClaim := { program := "ytedgcebcdcinhaa", sum := "ab5649c307633f311cd9962a8e9a10493d4161d6b16f9a25f8dd7cb2a5484ca0", func := "selvedge/selvedgelaw01.DigitsRows", spec := "digitsRows", inPlace := ["internal/abi.NoEscape"], unfollowed := true, recurses := true, apart := false, narrowed := true }
def DigitsRowsUptoSaid : Prop := digitsRowsUptoRow.holds Try.pinned (OpenSpec.upto digitsRowsSpec)

/-- 'selvedgelaw01.DigitsBack', WHERE WHAT IT READS IS OF BULK AT MOST 1048576: true; the input reads as it did. -/
def digitsBackUptoRow : OpenClaim := { program := "ytedgcebcdcinhaa", sum := "ab5649c307633f311cd9962a8e9a10493d4161d6b16f9a25f8dd7cb2a5484ca0", func := "selvedge/selvedgelaw01.DigitsBack", spec := "digitsBack", inPlace := ["internal/abi.NoEscape"], unfollowed := true, recurses := true, apart := false, narrowed := true }
def DigitsBackUptoSaid : Prop := digitsBackUptoRow.holds Try.pinned (OpenSpec.upto digitsBackSpec)

/-- 'selvedgelaw01.DigitsCut', WHERE WHAT IT READS IS OF BULK AT MOST 1048576: true; the input reads as it did. -/
def digitsCutUptoRow : OpenClaim := { program := "ytedgcebcdcinhaa", sum := "ab5649c307633f311cd9962a8e9a10493d4161d6b16f9a25f8dd7cb2a5484ca0", func := "selvedge/selvedgelaw01.DigitsCut", spec := "digitsCut", inPlace := ["internal/abi.NoEscape"], unfollowed := true, recurses := true, apart := false, narrowed := true }
def DigitsCutUptoSaid : Prop := digitsCutUptoRow.holds Try.pinned (OpenSpec.upto digitsCutSpec)

/-- 'selvedgelaw01.DigitsOrder', WHERE WHAT IT READS IS OF BULK AT MOST 1048576: true; the input reads as it did. -/
def digitsOrderUptoRow : OpenClaim := { program := "ytedgcebcdcinhaa", sum := "ab5649c307633f311cd9962a8e9a10493d4161d6b16f9a25f8dd7cb2a5484ca0", func := "selvedge/selvedgelaw01.DigitsOrder", spec := "digitsOrder", apart := false, narrowed := true }
def DigitsOrderUptoSaid : Prop := digitsOrderUptoRow.holds Try.pinned (OpenSpec.upto digitsOrderSpec)

/-- 'selvedgelaw01.DigitsSizes', WHERE WHAT IT READS IS OF BULK AT MOST 1048576: true; the input reads as it did. -/
def digitsSizesUptoRow : OpenClaim := { program := "ytedgcebcdcinhaa", sum := "ab5649c307633f311cd9962a8e9a10493d4161d6b16f9a25f8dd7cb2a5484ca0", func := "selvedge/selvedgelaw01.DigitsSizes", spec := "digitsSizes", apart := false, narrowed := true }
def DigitsSizesUptoSaid : Prop := digitsSizesUptoRow.holds Try.pinned (OpenSpec.upto digitsSizesSpec)

/-- 'selvedgelaw01.DigitsJoin', WHERE WHAT IT READS IS OF BULK AT MOST 1048576: true; the input reads as it did. -/
def digitsJoinUptoRow : OpenClaim := { program := "ytedgcebcdcinhaa", sum := "ab5649c307633f311cd9962a8e9a10493d4161d6b16f9a25f8dd7cb2a5484ca0", func := "selvedge/selvedgelaw01.DigitsJoin", spec := "digitsJoin", inPlace := ["internal/abi.NoEscape"], unfollowed := true, recurses := true, apart := false, narrowed := true }
def DigitsJoinUptoSaid : Prop := digitsJoinUptoRow.holds Try.pinned (OpenSpec.upto digitsJoinSpec)

end Rows
end Go.Proofs.Ytedgcebcdcinhaa
