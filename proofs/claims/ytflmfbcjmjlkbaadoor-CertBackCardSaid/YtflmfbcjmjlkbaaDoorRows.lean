/-
  NARROWER THAN 'FOR EVERY INPUT', by the rows' own cells (each row's printed sentence says how): CertChecks: laid · CertBack: laid · CertMeet: laid · CertGrows: laid · CertFewer: laid · CertOwn: laid.
  DERIVED. THE GIVEN ROWS OF THIS SEAT. 6 by the template 'for every input the law returns true; each argument reads behind the call as it read before'; 0 by the template 'total and deterministic' (their statements: YtflmfbcjmjlkbaaDoorTotals.lean).
  GIVEN WITH THE SEED: the statements are not yours to turn. If you find one false, say at which input.
  Laid BY PROGRAM, IN A SANDBOX (cutbox-rows.mjs): the forced cells as the released guide's own fill.sh prints them over the translation b1d0e87dbbbd66c0… (all of the seat's roots in one cut). By AI agents, Wed Nov 11 2026. No macro, syntax, notation, axiom, sorry.
-/
import Derived.Test.YtflmfbcjmjlkbaaDoorChecked
import GoSem.Claim
import GoSem.ClaimJoined
import GoSem.ClaimMapViews
import Derived.JoinedTies
import Derived.KernelRfl
namespace Go.Proofs.YtflmfbcjmjlkbaaDoor
/- THE CELL 'sum', in the pinned program and in every row, IS THE sha256 OF THE DUMP (.gsa) THAT YtflmfbcjmjlkbaaDoorProg.lean LOADS. Nothing in Lean hashes anything: it is a label: what it is worth is what the hold of that sum in a sandbox is worth. -/
noncomputable def Tryd.pinned : Pinned := { name := "ytflmfbcjmjlkbaadoor", sum := "b1d0e87dbbbd66c0a4b29c97c0537ee626cde7c0f16349c762b69d9950af1eb1", checked := Tryd.checked }
namespace Rows
def none {H : Type} : Left H := { results := [], args := [] }

/- WHAT THE LISTED PACKAGE-LEVEL VARIABLES READ AS WHEN THE CALL BEGINS. Each datum BY PROGRAM (the guide's laid-datum.mjs) off the statement by which the dump's own 'gosem.cut.vars' lays the variable. In a bare row this is a premise. The card (YtflmfbcjmjlkbaaDoorCards.lean) ties it to the program's text. -/
def laid_selvedge_sha_words {H : Type} : DataW H := .agg [.lit (.int .u32 1116352408), .lit (.int .u32 1899447441), .lit (.int .u32 3049323471), .lit (.int .u32 3921009573), .lit (.int .u32 961987163), .lit (.int .u32 1508970993), .lit (.int .u32 2453635748), .lit (.int .u32 2870763221), .lit (.int .u32 3624381080), .lit (.int .u32 310598401), .lit (.int .u32 607225278), .lit (.int .u32 1426881987), .lit (.int .u32 1925078388), .lit (.int .u32 2162078206), .lit (.int .u32 2614888103), .lit (.int .u32 3248222580), .lit (.int .u32 3835390401), .lit (.int .u32 4022224774), .lit (.int .u32 264347078), .lit (.int .u32 604807628), .lit (.int .u32 770255983), .lit (.int .u32 1249150122), .lit (.int .u32 1555081692), .lit (.int .u32 1996064986), .lit (.int .u32 2554220882), .lit (.int .u32 2821834349), .lit (.int .u32 2952996808), .lit (.int .u32 3210313671), .lit (.int .u32 3336571891), .lit (.int .u32 3584528711), .lit (.int .u32 113926993), .lit (.int .u32 338241895), .lit (.int .u32 666307205), .lit (.int .u32 773529912), .lit (.int .u32 1294757372), .lit (.int .u32 1396182291), .lit (.int .u32 1695183700), .lit (.int .u32 1986661051), .lit (.int .u32 2177026350), .lit (.int .u32 2456956037), .lit (.int .u32 2730485921), .lit (.int .u32 2820302411), .lit (.int .u32 3259730800), .lit (.int .u32 3345764771), .lit (.int .u32 3516065817), .lit (.int .u32 3600352804), .lit (.int .u32 4094571909), .lit (.int .u32 275423344), .lit (.int .u32 430227734), .lit (.int .u32 506948616), .lit (.int .u32 659060556), .lit (.int .u32 883997877), .lit (.int .u32 958139571), .lit (.int .u32 1322822218), .lit (.int .u32 1537002063), .lit (.int .u32 1747873779), .lit (.int .u32 1955562222), .lit (.int .u32 2024104815), .lit (.int .u32 2227730452), .lit (.int .u32 2361852424), .lit (.int .u32 2428436474), .lit (.int .u32 2756734187), .lit (.int .u32 3204031479), .lit (.int .u32 3329325298)]

/-- 'selvedgelaw10.CertChecks': WHATEVER THE INPUT: true; the input reads as it did. -/
def certChecksSpec : ChangeSpec := { name := "certChecks", fn := fun _ => fun
  | [d] => { results := [.lit (.bool true)], args := [d] }
  | _ => none }
def certChecksRow : OpenClaim := { program := "ytflmfbcjmjlkbaadoor", sum := "b1d0e87dbbbd66c0a4b29c97c0537ee626cde7c0f16349c762b69d9950af1eb1", func := "selvedge/selvedgelaw10.CertChecks", spec := "certChecks", inPlace := ["internal/abi.NoEscape", "internal/bytealg.MakeNoZero"], unfollowed := true, recurses := true, named := ["selvedge/sha.words"], apart := false, laid := [("selvedge/sha.words", laid_selvedge_sha_words)] }
def CertChecksSaid : Prop := certChecksRow.holds Tryd.pinned (OpenSpec.ofChange certChecksSpec)

/-- ITS FALSE NEIGHBOUR: 'it returns false'. Refute it at one input. -/
def certChecksWrong : ChangeSpec := { name := "certChecks", fn := fun _ => fun
  | [d] => { results := [.lit (.bool false)], args := [d] }
  | _ => none }
def CertChecksWrongFalsely : Prop := certChecksRow.holds Tryd.pinned (OpenSpec.ofChange certChecksWrong)

/-- 'selvedgelaw10.CertBack': WHATEVER THE INPUT: true; the input reads as it did. -/
def certBackSpec : ChangeSpec := { name := "certBack", fn := fun _ => fun
  | [d1, d2, d3] => { results := [.lit (.bool true)], args := [d1, d2, d3] }
  | _ => none }
def certBackRow : OpenClaim := { program := "ytflmfbcjmjlkbaadoor", sum := "b1d0e87dbbbd66c0a4b29c97c0537ee626cde7c0f16349c762b69d9950af1eb1", func := "selvedge/selvedgelaw10.CertBack", spec := "certBack", inPlace := ["internal/abi.NoEscape", "internal/bytealg.MakeNoZero"], unfollowed := true, recurses := true, named := ["selvedge/sha.words"], apart := false, laid := [("selvedge/sha.words", laid_selvedge_sha_words)] }
def CertBackSaid : Prop := certBackRow.holds Tryd.pinned (OpenSpec.ofChange certBackSpec)

/-- ITS FALSE NEIGHBOUR: 'it returns false'. Refute it at one input. -/
def certBackWrong : ChangeSpec := { name := "certBack", fn := fun _ => fun
  | [d1, d2, d3] => { results := [.lit (.bool false)], args := [d1, d2, d3] }
  | _ => none }
def CertBackWrongFalsely : Prop := certBackRow.holds Tryd.pinned (OpenSpec.ofChange certBackWrong)

/-- 'selvedgelaw10.CertMeet': WHATEVER THE INPUT: true; the input reads as it did. -/
def certMeetSpec : ChangeSpec := { name := "certMeet", fn := fun _ => fun
  | [d] => { results := [.lit (.bool true)], args := [d] }
  | _ => none }
def certMeetRow : OpenClaim := { program := "ytflmfbcjmjlkbaadoor", sum := "b1d0e87dbbbd66c0a4b29c97c0537ee626cde7c0f16349c762b69d9950af1eb1", func := "selvedge/selvedgelaw10.CertMeet", spec := "certMeet", inPlace := ["internal/abi.NoEscape", "internal/bytealg.MakeNoZero"], unfollowed := true, recurses := true, named := ["selvedge/sha.words"], apart := false, laid := [("selvedge/sha.words", laid_selvedge_sha_words)] }
def CertMeetSaid : Prop := certMeetRow.holds Tryd.pinned (OpenSpec.ofChange certMeetSpec)

/-- ITS FALSE NEIGHBOUR: 'it returns false'. Refute it at one input. -/
def certMeetWrong : ChangeSpec := { name := "certMeet", fn := fun _ => fun
  | [d] => { results := [.lit (.bool false)], args := [d] }
  | _ => none }
def CertMeetWrongFalsely : Prop := certMeetRow.holds Tryd.pinned (OpenSpec.ofChange certMeetWrong)

/-- 'selvedgelaw10.CertGrows': WHATEVER THE INPUT: true; the input reads as it did. -/
def certGrowsSpec : ChangeSpec := { name := "certGrows", fn := fun _ => fun
  | [d] => { results := [.lit (.bool true)], args := [d] }
  | _ => none }
def certGrowsRow : OpenClaim := { program := "ytflmfbcjmjlkbaadoor", sum := "b1d0e87dbbbd66c0a4b29c97c0537ee626cde7c0f16349c762b69d9950af1eb1", func := "selvedge/selvedgelaw10.CertGrows", spec := "certGrows", inPlace := ["internal/abi.NoEscape", "internal/bytealg.MakeNoZero"], unfollowed := true, recurses := true, named := ["selvedge/sha.words"], apart := false, laid := [("selvedge/sha.words", laid_selvedge_sha_words)] }
def CertGrowsSaid : Prop := certGrowsRow.holds Tryd.pinned (OpenSpec.ofChange certGrowsSpec)

/-- ITS FALSE NEIGHBOUR: 'it returns false'. Refute it at one input. -/
def certGrowsWrong : ChangeSpec := { name := "certGrows", fn := fun _ => fun
  | [d] => { results := [.lit (.bool false)], args := [d] }
  | _ => none }
def CertGrowsWrongFalsely : Prop := certGrowsRow.holds Tryd.pinned (OpenSpec.ofChange certGrowsWrong)

/-- 'selvedgelaw10.CertFewer': WHATEVER THE INPUT: true; the input reads as it did. -/
def certFewerSpec : ChangeSpec := { name := "certFewer", fn := fun _ => fun
  | [d] => { results := [.lit (.bool true)], args := [d] }
  | _ => none }
def certFewerRow : OpenClaim := { program := "ytflmfbcjmjlkbaadoor", sum := "b1d0e87dbbbd66c0a4b29c97c0537ee626cde7c0f16349c762b69d9950af1eb1", func := "selvedge/selvedgelaw10.CertFewer", spec := "certFewer", inPlace := ["internal/abi.NoEscape", "internal/bytealg.MakeNoZero"], unfollowed := true, recurses := true, named := ["selvedge/sha.words"], apart := false, laid := [("selvedge/sha.words", laid_selvedge_sha_words)] }
def CertFewerSaid : Prop := certFewerRow.holds Tryd.pinned (OpenSpec.ofChange certFewerSpec)

/-- ITS FALSE NEIGHBOUR: 'it returns false'. Refute it at one input. -/
def certFewerWrong : ChangeSpec := { name := "certFewer", fn := fun _ => fun
  | [d] => { results := [.lit (.bool false)], args := [d] }
  | _ => none }
def CertFewerWrongFalsely : Prop := certFewerRow.holds Tryd.pinned (OpenSpec.ofChange certFewerWrong)

/-- 'selvedgelaw10.CertOwn': WHATEVER THE INPUT: true; the input reads as it did. -/
def certOwnSpec : ChangeSpec := { name := "certOwn", fn := fun _ => fun
  | [d1, d2] => { results := [.lit (.bool true)], args := [d1, d2] }
  | _ => none }
def certOwnRow : OpenClaim := { program := "ytflmfbcjmjlkbaadoor", sum := "b1d0e87dbbbd66c0a4b29c97c0537ee626cde7c0f16349c762b69d9950af1eb1", func := "selvedge/selvedgelaw10.CertOwn", spec := "certOwn", inPlace := ["internal/abi.NoEscape", "internal/bytealg.MakeNoZero"], unfollowed := true, recurses := true, named := ["selvedge/sha.words"], apart := false, laid := [("selvedge/sha.words", laid_selvedge_sha_words)] }
def CertOwnSaid : Prop := certOwnRow.holds Tryd.pinned (OpenSpec.ofChange certOwnSpec)

/-- ITS FALSE NEIGHBOUR: 'it returns false'. Refute it at one input. -/
def certOwnWrong : ChangeSpec := { name := "certOwn", fn := fun _ => fun
  | [d1, d2] => { results := [.lit (.bool false)], args := [d1, d2] }
  | _ => none }
def CertOwnWrongFalsely : Prop := certOwnRow.holds Tryd.pinned (OpenSpec.ofChange certOwnWrong)

/- THE SECOND FORM. 'bulk': how many values and letters a reading holds, each counted each time it is reached (what is shared counts as often as it is met; a slice's spare places count too). A statement '..UptoSaid' is the law's where the arguments, and the package variables that the reading takes, are together of bulk at most 1048576: NARROWER than '..Said'. Prove '..Said' where nothing that the law and all that it calls make is longer than what came in: it says more and counts as full. Else prove '..UptoSaid'. A law counts once. -/
mutual
def uptoBulk {H : Type} : DataW H → Nat
  | .lit (.string bytes) => bytes.length + 1
  | .lit _ => 1
  | .nil => 1
  | .ptr d => uptoBulk d + 1
  | .slice elems spare => uptoBulkAll elems + uptoBulkAll spare + 1
  | .agg parts => uptoBulkAll parts + 1
  | .iface _ d => uptoBulk d + 1
  | .map entries => uptoBulkEntries entries + 1
  | .held _ => 1
def uptoBulkAll {H : Type} : List (DataW H) → Nat
  | [] => 0
  | d :: r => uptoBulk d + uptoBulkAll r
def uptoBulkEntries {H : Type} : List (Lit × DataW H) → Nat
  | [] => 0
  | x :: r => uptoBulkEntry x + uptoBulkEntries r
def uptoBulkEntry {H : Type} : Lit × DataW H → Nat
  | (.string bytes, d) => bytes.length + uptoBulk d + 1
  | (_, d) => uptoBulk d + 1
 end
def uptoSmall : (H : Type) → List (DataW H) → Bool := fun _ ds => decide (uptoBulkAll ds ≤ 1048576)
def OpenSpec.upto (s : _root_.Go.ChangeSpec) : _root_.Go.OpenSpec := { _root_.Go.OpenSpec.ofChange s with cond := some uptoSmall }

/-- 'selvedgelaw10.CertChecks', WHERE WHAT IT READS IS OF BULK AT MOST 1048576: true; the input reads as it did. -/
def certChecksUptoRow : OpenClaim := { program := "ytflmfbcjmjlkbaadoor", sum := "b1d0e87dbbbd66c0a4b29c97c0537ee626cde7c0f16349c762b69d9950af1eb1", func := "selvedge/selvedgelaw10.CertChecks", spec := "certChecks", inPlace := ["internal/abi.NoEscape", "internal/bytealg.MakeNoZero"], unfollowed := true, recurses := true, named := ["selvedge/sha.words"], apart := false, laid := [("selvedge/sha.words", laid_selvedge_sha_words)], narrowed := true }
def CertChecksUptoSaid : Prop := certChecksUptoRow.holds Tryd.pinned (OpenSpec.upto certChecksSpec)

/-- 'selvedgelaw10.CertBack', WHERE WHAT IT READS IS OF BULK AT MOST 1048576: true; the input reads as it did. -/
def certBackUptoRow : OpenClaim := { program := "ytflmfbcjmjlkbaadoor", sum := "b1d0e87dbbbd66c0a4b29c97c0537ee626cde7c0f16349c762b69d9950af1eb1", func := "selvedge/selvedgelaw10.CertBack", spec := "certBack", inPlace := ["internal/abi.NoEscape", "internal/bytealg.MakeNoZero"], unfollowed := true, recurses := true, named := ["selvedge/sha.words"], apart := false, laid := [("selvedge/sha.words", laid_selvedge_sha_words)], narrowed := true }
def CertBackUptoSaid : Prop := certBackUptoRow.holds Tryd.pinned (OpenSpec.upto certBackSpec)

/-- 'selvedgelaw10.CertMeet', WHERE WHAT IT READS IS OF BULK AT MOST 1048576: true; the input reads as it did. -/
def certMeetUptoRow : OpenClaim := { program := "ytflmfbcjmjlkbaadoor", sum := "b1d0e87dbbbd66c0a4b29c97c0537ee626cde7c0f16349c762b69d9950af1eb1", func := "selvedge/selvedgelaw10.CertMeet", spec := "certMeet", inPlace := ["internal/abi.NoEscape", "internal/bytealg.MakeNoZero"], unfollowed := true, recurses := true, named := ["selvedge/sha.words"], apart := false, laid := [("selvedge/sha.words", laid_selvedge_sha_words)], narrowed := true }
def CertMeetUptoSaid : Prop := certMeetUptoRow.holds Tryd.pinned (OpenSpec.upto certMeetSpec)

/-- 'selvedgelaw10.CertGrows', WHERE WHAT IT READS IS OF BULK AT MOST 1048576: true; the input reads as it did. -/
def certGrowsUptoRow : OpenClaim := { program := "ytflmfbcjmjlkbaadoor", sum := "b1d0e87dbbbd66c0a4b29c97c0537ee626cde7c0f16349c762b69d9950af1eb1", func := "selvedge/selvedgelaw10.CertGrows", spec := "certGrows", inPlace := ["internal/abi.NoEscape", "internal/bytealg.MakeNoZero"], unfollowed := true, recurses := true, named := ["selvedge/sha.words"], apart := false, laid := [("selvedge/sha.words", laid_selvedge_sha_words)], narrowed := true }
def CertGrowsUptoSaid : Prop := certGrowsUptoRow.holds Tryd.pinned (OpenSpec.upto certGrowsSpec)

/-- 'selvedgelaw10.CertFewer', WHERE WHAT IT READS IS OF BULK AT MOST 1048576: true; the input reads as it did. -/
def certFewerUptoRow : OpenClaim := { program := "ytflmfbcjmjlkbaadoor", sum := "b1d0e87dbbbd66c0a4b29c97c0537ee626cde7c0f16349c762b69d9950af1eb1", func := "selvedge/selvedgelaw10.CertFewer", spec := "certFewer", inPlace := ["internal/abi.NoEscape", "internal/bytealg.MakeNoZero"], unfollowed := true, recurses := true, named := ["selvedge/sha.words"], apart := false, laid := [("selvedge/sha.words", laid_selvedge_sha_words)], narrowed := true }
def CertFewerUptoSaid : Prop := certFewerUptoRow.holds Tryd.pinned (OpenSpec.upto certFewerSpec)

/-- 'selvedgelaw10.CertOwn', WHERE WHAT IT READS IS OF BULK AT MOST 1048576: true; the input reads as it did. -/
def certOwnUptoRow : OpenClaim := { program := "ytflmfbcjmjlkbaadoor", sum := "b1d0e87dbbbd66c0a4b29c97c0537ee626cde7c0f16349c762b69d9950af1eb1", func := "selvedge/selvedgelaw10.CertOwn", spec := "certOwn", inPlace := ["internal/abi.NoEscape", "internal/bytealg.MakeNoZero"], unfollowed := true, recurses := true, named := ["selvedge/sha.words"], apart := false, laid := [("selvedge/sha.words", laid_selvedge_sha_words)], narrowed := true }
def CertOwnUptoSaid : Prop := certOwnUptoRow.holds Tryd.pinned (OpenSpec.upto certOwnSpec)

end Rows
end Go.Proofs.YtflmfbcjmjlkbaaDoor
