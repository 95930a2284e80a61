/-
  NARROWER THAN 'FOR EVERY INPUT', by the rows' own cells (each row's printed sentence says how): PaperReads: laid · PaperActs: laid · PaperLasts: laid · PaperTorn: laid · PaperOff: laid · PaperAgain: laid.
  DERIVED. THE GIVEN ROWS OF THIS SEAT. 6 by the template 'for every input the law returns true; each argument reads behind the call as it read before'; 0 by the template 'total and deterministic' (their statements: YtkkiedmcpibnaaaDoorTotals.lean).
  GIVEN WITH THE SEED: the statements are not yours to turn. If you find one false, say at which input.
  Laid BY PROGRAM, IN A SANDBOX (cutbox-rows.mjs): the forced cells as the released guide's own fill.sh prints them over the translation 1514b35829a60243… (all of the seat's roots in one cut). By AI agents, Wed Nov 11 2026. No macro, syntax, notation, axiom, sorry.
-/
import Derived.Test.YtkkiedmcpibnaaaDoorChecked
import GoSem.Claim
import GoSem.ClaimJoined
import GoSem.ClaimMapViews
import Derived.JoinedTies
import Derived.KernelRfl
namespace Go.Proofs.YtkkiedmcpibnaaaDoor
/- THE CELL 'sum', in the pinned program and in every row, IS THE sha256 OF THE DUMP (.gsa) THAT YtkkiedmcpibnaaaDoorProg.lean LOADS. Nothing in Lean hashes anything: it is a label: what it is worth is what the hold of that sum in a sandbox is worth. -/
noncomputable def Tryd.pinned : Pinned := { name := "ytkkiedmcpibnaaadoor", sum := "1514b35829a6024370b22b21530a953e2113e170dd7d160b0b21a6b6bd6d3908", checked := Tryd.checked }
namespace Rows
def none {H : Type} : Left H := { results := [], args := [] }

/- WHAT THE LISTED PACKAGE-LEVEL VARIABLES READ AS WHEN THE CALL BEGINS. Each datum BY PROGRAM (the guide's laid-datum.mjs) off the statement by which the dump's own 'gosem.cut.vars' lays the variable. In a bare row this is a premise. The card (YtkkiedmcpibnaaaDoorCards.lean) ties it to the program's text. -/
def laid_selvedge_sha_words {H : Type} : DataW H := .agg [.lit (.int .u32 1116352408), .lit (.int .u32 1899447441), .lit (.int .u32 3049323471), .lit (.int .u32 3921009573), .lit (.int .u32 961987163), .lit (.int .u32 1508970993), .lit (.int .u32 2453635748), .lit (.int .u32 2870763221), .lit (.int .u32 3624381080), .lit (.int .u32 310598401), .lit (.int .u32 607225278), .lit (.int .u32 1426881987), .lit (.int .u32 1925078388), .lit (.int .u32 2162078206), .lit (.int .u32 2614888103), .lit (.int .u32 3248222580), .lit (.int .u32 3835390401), .lit (.int .u32 4022224774), .lit (.int .u32 264347078), .lit (.int .u32 604807628), .lit (.int .u32 770255983), .lit (.int .u32 1249150122), .lit (.int .u32 1555081692), .lit (.int .u32 1996064986), .lit (.int .u32 2554220882), .lit (.int .u32 2821834349), .lit (.int .u32 2952996808), .lit (.int .u32 3210313671), .lit (.int .u32 3336571891), .lit (.int .u32 3584528711), .lit (.int .u32 113926993), .lit (.int .u32 338241895), .lit (.int .u32 666307205), .lit (.int .u32 773529912), .lit (.int .u32 1294757372), .lit (.int .u32 1396182291), .lit (.int .u32 1695183700), .lit (.int .u32 1986661051), .lit (.int .u32 2177026350), .lit (.int .u32 2456956037), .lit (.int .u32 2730485921), .lit (.int .u32 2820302411), .lit (.int .u32 3259730800), .lit (.int .u32 3345764771), .lit (.int .u32 3516065817), .lit (.int .u32 3600352804), .lit (.int .u32 4094571909), .lit (.int .u32 275423344), .lit (.int .u32 430227734), .lit (.int .u32 506948616), .lit (.int .u32 659060556), .lit (.int .u32 883997877), .lit (.int .u32 958139571), .lit (.int .u32 1322822218), .lit (.int .u32 1537002063), .lit (.int .u32 1747873779), .lit (.int .u32 1955562222), .lit (.int .u32 2024104815), .lit (.int .u32 2227730452), .lit (.int .u32 2361852424), .lit (.int .u32 2428436474), .lit (.int .u32 2756734187), .lit (.int .u32 3204031479), .lit (.int .u32 3329325298)]

/-- 'selvedgelaw17.PaperReads': WHATEVER THE INPUT: true; the input reads as it did. -/
def paperReadsSpec : ChangeSpec := { name := "paperReads", fn := fun _ => fun
  | [d1, d2] => { results := [.lit (.bool true)], args := [d1, d2] }
  | _ => none }
def paperReadsRow : OpenClaim := { program := "ytkkiedmcpibnaaadoor", sum := "1514b35829a6024370b22b21530a953e2113e170dd7d160b0b21a6b6bd6d3908", func := "selvedge/selvedgelaw17.PaperReads", spec := "paperReads", inPlace := ["internal/abi.NoEscape", "internal/bytealg.MakeNoZero"], unfollowed := true, recurses := true, named := ["selvedge/sha.words"], apart := false, laid := [("selvedge/sha.words", laid_selvedge_sha_words)] }
def PaperReadsSaid : Prop := paperReadsRow.holds Tryd.pinned (OpenSpec.ofChange paperReadsSpec)

/-- ITS FALSE NEIGHBOUR: 'it returns false'. Refute it at one input. -/
def paperReadsWrong : ChangeSpec := { name := "paperReads", fn := fun _ => fun
  | [d1, d2] => { results := [.lit (.bool false)], args := [d1, d2] }
  | _ => none }
def PaperReadsWrongFalsely : Prop := paperReadsRow.holds Tryd.pinned (OpenSpec.ofChange paperReadsWrong)

/-- 'selvedgelaw17.PaperActs': WHATEVER THE INPUT: true; the input reads as it did. -/
def paperActsSpec : ChangeSpec := { name := "paperActs", fn := fun _ => fun
  | [d] => { results := [.lit (.bool true)], args := [d] }
  | _ => none }
def paperActsRow : OpenClaim := { program := "ytkkiedmcpibnaaadoor", sum := "1514b35829a6024370b22b21530a953e2113e170dd7d160b0b21a6b6bd6d3908", func := "selvedge/selvedgelaw17.PaperActs", spec := "paperActs", inPlace := ["internal/abi.NoEscape", "internal/bytealg.MakeNoZero"], unfollowed := true, recurses := true, named := ["selvedge/sha.words"], apart := false, laid := [("selvedge/sha.words", laid_selvedge_sha_words)] }
def PaperActsSaid : Prop := paperActsRow.holds Tryd.pinned (OpenSpec.ofChange paperActsSpec)

/-- ITS FALSE NEIGHBOUR: 'it returns false'. Refute it at one input. -/
def paperActsWrong : ChangeSpec := { name := "paperActs", fn := fun _ => fun
  | [d] => { results := [.lit (.bool false)], args := [d] }
  | _ => none }
def PaperActsWrongFalsely : Prop := paperActsRow.holds Tryd.pinned (OpenSpec.ofChange paperActsWrong)

/-- 'selvedgelaw17.PaperLasts': WHATEVER THE INPUT: true; the input reads as it did. -/
def paperLastsSpec : ChangeSpec := { name := "paperLasts", fn := fun _ => fun
  | [d] => { results := [.lit (.bool true)], args := [d] }
  | _ => none }
def paperLastsRow : OpenClaim := { program := "ytkkiedmcpibnaaadoor", sum := "1514b35829a6024370b22b21530a953e2113e170dd7d160b0b21a6b6bd6d3908", func := "selvedge/selvedgelaw17.PaperLasts", spec := "paperLasts", inPlace := ["internal/abi.NoEscape", "internal/bytealg.MakeNoZero"], unfollowed := true, recurses := true, named := ["selvedge/sha.words"], apart := false, laid := [("selvedge/sha.words", laid_selvedge_sha_words)] }
def PaperLastsSaid : Prop := paperLastsRow.holds Tryd.pinned (OpenSpec.ofChange paperLastsSpec)

/-- ITS FALSE NEIGHBOUR: 'it returns false'. Refute it at one input. -/
def paperLastsWrong : ChangeSpec := { name := "paperLasts", fn := fun _ => fun
  | [d] => { results := [.lit (.bool false)], args := [d] }
  | _ => none }
def PaperLastsWrongFalsely : Prop := paperLastsRow.holds Tryd.pinned (OpenSpec.ofChange paperLastsWrong)

/-- 'selvedgelaw17.PaperTorn': WHATEVER THE INPUT: true; the input reads as it did. -/
def paperTornSpec : ChangeSpec := { name := "paperTorn", fn := fun _ => fun
  | [d1, d2] => { results := [.lit (.bool true)], args := [d1, d2] }
  | _ => none }
def paperTornRow : OpenClaim := { program := "ytkkiedmcpibnaaadoor", sum := "1514b35829a6024370b22b21530a953e2113e170dd7d160b0b21a6b6bd6d3908", func := "selvedge/selvedgelaw17.PaperTorn", spec := "paperTorn", inPlace := ["internal/abi.NoEscape", "internal/bytealg.MakeNoZero"], unfollowed := true, recurses := true, named := ["selvedge/sha.words"], apart := false, laid := [("selvedge/sha.words", laid_selvedge_sha_words)] }
def PaperTornSaid : Prop := paperTornRow.holds Tryd.pinned (OpenSpec.ofChange paperTornSpec)

/-- ITS FALSE NEIGHBOUR: 'it returns false'. Refute it at one input. -/
def paperTornWrong : ChangeSpec := { name := "paperTorn", fn := fun _ => fun
  | [d1, d2] => { results := [.lit (.bool false)], args := [d1, d2] }
  | _ => none }
def PaperTornWrongFalsely : Prop := paperTornRow.holds Tryd.pinned (OpenSpec.ofChange paperTornWrong)

/-- 'selvedgelaw17.PaperOff': WHATEVER THE INPUT: true; the input reads as it did. -/
def paperOffSpec : ChangeSpec := { name := "paperOff", fn := fun _ => fun
  | [d1, d2, d3] => { results := [.lit (.bool true)], args := [d1, d2, d3] }
  | _ => none }
def paperOffRow : OpenClaim := { program := "ytkkiedmcpibnaaadoor", sum := "1514b35829a6024370b22b21530a953e2113e170dd7d160b0b21a6b6bd6d3908", func := "selvedge/selvedgelaw17.PaperOff", spec := "paperOff", inPlace := ["internal/abi.NoEscape", "internal/bytealg.MakeNoZero"], unfollowed := true, recurses := true, named := ["selvedge/sha.words"], apart := false, laid := [("selvedge/sha.words", laid_selvedge_sha_words)] }
def PaperOffSaid : Prop := paperOffRow.holds Tryd.pinned (OpenSpec.ofChange paperOffSpec)

/-- ITS FALSE NEIGHBOUR: 'it returns false'. Refute it at one input. -/
def paperOffWrong : ChangeSpec := { name := "paperOff", fn := fun _ => fun
  | [d1, d2, d3] => { results := [.lit (.bool false)], args := [d1, d2, d3] }
  | _ => none }
def PaperOffWrongFalsely : Prop := paperOffRow.holds Tryd.pinned (OpenSpec.ofChange paperOffWrong)

/-- 'selvedgelaw17.PaperAgain': WHATEVER THE INPUT: true; the input reads as it did. -/
def paperAgainSpec : ChangeSpec := { name := "paperAgain", fn := fun _ => fun
  | [d1, d2, d3] => { results := [.lit (.bool true)], args := [d1, d2, d3] }
  | _ => none }
def paperAgainRow : OpenClaim := { program := "ytkkiedmcpibnaaadoor", sum := "1514b35829a6024370b22b21530a953e2113e170dd7d160b0b21a6b6bd6d3908", func := "selvedge/selvedgelaw17.PaperAgain", spec := "paperAgain", inPlace := ["internal/abi.NoEscape", "internal/bytealg.MakeNoZero"], unfollowed := true, recurses := true, named := ["selvedge/sha.words"], apart := false, laid := [("selvedge/sha.words", laid_selvedge_sha_words)] }
def PaperAgainSaid : Prop := paperAgainRow.holds Tryd.pinned (OpenSpec.ofChange paperAgainSpec)

/-- ITS FALSE NEIGHBOUR: 'it returns false'. Refute it at one input. -/
def paperAgainWrong : ChangeSpec := { name := "paperAgain", fn := fun _ => fun
  | [d1, d2, d3] => { results := [.lit (.bool false)], args := [d1, d2, d3] }
  | _ => none }
def PaperAgainWrongFalsely : Prop := paperAgainRow.holds Tryd.pinned (OpenSpec.ofChange paperAgainWrong)

/- THE SECOND FORM. 'bulk': how many values and letters a reading holds, each counted each time it is reached (what is shared counts as often as it is met; a slice's spare places count too). A statement '..UptoSaid' is the law's where the arguments, and the package variables that the reading takes, are together of bulk at most 1048576: NARROWER than '..Said'. Prove '..Said' where nothing that the law and all that it calls make is longer than what came in: it says more and counts as full. Else prove '..UptoSaid'. A law counts once. -/
mutual
def uptoBulk {H : Type} : DataW H → Nat
  | .lit (.string bytes) => bytes.length + 1
  | .lit _ => 1
  | .nil => 1
  | .ptr d => uptoBulk d + 1
  | .slice elems spare => uptoBulkAll elems + uptoBulkAll spare + 1
  | .agg parts => uptoBulkAll parts + 1
  | .iface _ d => uptoBulk d + 1
  | .map entries => uptoBulkEntries entries + 1
  | .held _ => 1
def uptoBulkAll {H : Type} : List (DataW H) → Nat
  | [] => 0
  | d :: r => uptoBulk d + uptoBulkAll r
def uptoBulkEntries {H : Type} : List (Lit × DataW H) → Nat
  | [] => 0
  | x :: r => uptoBulkEntry x + uptoBulkEntries r
def uptoBulkEntry {H : Type} : Lit × DataW H → Nat
  | (.string bytes, d) => bytes.length + uptoBulk d + 1
  | (_, d) => uptoBulk d + 1
 end
def uptoSmall : (H : Type) → List (DataW H) → Bool := fun _ ds => decide (uptoBulkAll ds ≤ 1048576)
def OpenSpec.upto (s : _root_.Go.ChangeSpec) : _root_.Go.OpenSpec := { _root_.Go.OpenSpec.ofChange s with cond := some uptoSmall }

/-- 'selvedgelaw17.PaperReads', WHERE WHAT IT READS IS OF BULK AT MOST 1048576: true; the input reads as it did. -/
def paperReadsUptoRow : OpenClaim := { program := "ytkkiedmcpibnaaadoor", sum := "1514b35829a6024370b22b21530a953e2113e170dd7d160b0b21a6b6bd6d3908", func := "selvedge/selvedgelaw17.PaperReads", spec := "paperReads", inPlace := ["internal/abi.NoEscape", "internal/bytealg.MakeNoZero"], unfollowed := true, recurses := true, named := ["selvedge/sha.words"], apart := false, laid := [("selvedge/sha.words", laid_selvedge_sha_words)], narrowed := true }
def PaperReadsUptoSaid : Prop := paperReadsUptoRow.holds Tryd.pinned (OpenSpec.upto paperReadsSpec)

/-- 'selvedgelaw17.PaperActs', WHERE WHAT IT READS IS OF BULK AT MOST 1048576: true; the input reads as it did. -/
def paperActsUptoRow : OpenClaim := { program := "ytkkiedmcpibnaaadoor", sum := "1514b35829a6024370b22b21530a953e2113e170dd7d160b0b21a6b6bd6d3908", func := "selvedge/selvedgelaw17.PaperActs", spec := "paperActs", inPlace := ["internal/abi.NoEscape", "internal/bytealg.MakeNoZero"], unfollowed := true, recurses := true, named := ["selvedge/sha.words"], apart := false, laid := [("selvedge/sha.words", laid_selvedge_sha_words)], narrowed := true }
def PaperActsUptoSaid : Prop := paperActsUptoRow.holds Tryd.pinned (OpenSpec.upto paperActsSpec)

/-- 'selvedgelaw17.PaperLasts', WHERE WHAT IT READS IS OF BULK AT MOST 1048576: true; the input reads as it did. -/
def paperLastsUptoRow : OpenClaim := { program := "ytkkiedmcpibnaaadoor", sum := "1514b35829a6024370b22b21530a953e2113e170dd7d160b0b21a6b6bd6d3908", func := "selvedge/selvedgelaw17.PaperLasts", spec := "paperLasts", inPlace := ["internal/abi.NoEscape", "internal/bytealg.MakeNoZero"], unfollowed := true, recurses := true, named := ["selvedge/sha.words"], apart := false, laid := [("selvedge/sha.words", laid_selvedge_sha_words)], narrowed := true }
def PaperLastsUptoSaid : Prop := paperLastsUptoRow.holds Tryd.pinned (OpenSpec.upto paperLastsSpec)

/-- 'selvedgelaw17.PaperTorn', WHERE WHAT IT READS IS OF BULK AT MOST 1048576: true; the input reads as it did. -/
def paperTornUptoRow : OpenClaim := { program := "ytkkiedmcpibnaaadoor", sum := "1514b35829a6024370b22b21530a953e2113e170dd7d160b0b21a6b6bd6d3908", func := "selvedge/selvedgelaw17.PaperTorn", spec := "paperTorn", inPlace := ["internal/abi.NoEscape", "internal/bytealg.MakeNoZero"], unfollowed := true, recurses := true, named := ["selvedge/sha.words"], apart := false, laid := [("selvedge/sha.words", laid_selvedge_sha_words)], narrowed := true }
def PaperTornUptoSaid : Prop := paperTornUptoRow.holds Tryd.pinned (OpenSpec.upto paperTornSpec)

/-- 'selvedgelaw17.PaperOff', WHERE WHAT IT READS IS OF BULK AT MOST 1048576: true; the input reads as it did. -/
def paperOffUptoRow : OpenClaim := { program := "ytkkiedmcpibnaaadoor", sum := "1514b35829a6024370b22b21530a953e2113e170dd7d160b0b21a6b6bd6d3908", func := "selvedge/selvedgelaw17.PaperOff", spec := "paperOff", inPlace := ["internal/abi.NoEscape", "internal/bytealg.MakeNoZero"], unfollowed := true, recurses := true, named := ["selvedge/sha.words"], apart := false, laid := [("selvedge/sha.words", laid_selvedge_sha_words)], narrowed := true }
def PaperOffUptoSaid : Prop := paperOffUptoRow.holds Tryd.pinned (OpenSpec.upto paperOffSpec)

/-- 'selvedgelaw17.PaperAgain', WHERE WHAT IT READS IS OF BULK AT MOST 1048576: true; the input reads as it did. -/
def paperAgainUptoRow : OpenClaim := { program := "ytkkiedmcpibnaaadoor", sum := "1514b35829a6024370b22b21530a953e2113e170dd7d160b0b21a6b6bd6d3908", func := "selvedge/selvedgelaw17.PaperAgain", spec := "paperAgain", inPlace := ["internal/abi.NoEscape", "internal/bytealg.MakeNoZero"], unfollowed := true, recurses := true, named := ["selvedge/sha.words"], apart := false, laid := [("selvedge/sha.words", laid_selvedge_sha_words)], narrowed := true }
def PaperAgainUptoSaid : Prop := paperAgainUptoRow.holds Tryd.pinned (OpenSpec.upto paperAgainSpec)

end Rows
end Go.Proofs.YtkkiedmcpibnaaaDoor
