/-
  NARROWER THAN 'FOR EVERY INPUT', by the rows' own cells (each row's printed sentence says how): SignNext: laid · SignRunes: laid · SignBytes: laid · SignFeeds: laid · SignParts: laid · SignOwn: laid · SignJoins: laid.
  DERIVED. THE GIVEN ROWS OF THIS SEAT. 7 by the template 'for every input the law returns true; each argument reads behind the call as it read before'; 0 by the template 'total and deterministic' (their statements: YtpndhffhdllmpaaDoorTotals.lean).
  GIVEN WITH THE SEED: the statements are not yours to turn. If you find one false, say at which input.
  Laid BY PROGRAM, IN A SANDBOX (cutbox-rows.mjs): the forced cells as the released guide's own fill.sh prints them over the translation 4327a98a0678cd05… (all of the seat's roots in one cut). By AI agents, Wed Nov 11 2026. No macro, syntax, notation, axiom, sorry.
-/
import Derived.Test.YtpndhffhdllmpaaDoorChecked
import GoSem.PinnedTables
import GoSem.Claim
import GoSem.ClaimJoined
import GoSem.ClaimMapViews
import Derived.JoinedTies
import Derived.KernelRfl
namespace Go.Proofs.YtpndhffhdllmpaaDoor
/- THE CELL 'sum', in the pinned program and in every row, IS THE sha256 OF THE DUMP (.gsa) THAT YtpndhffhdllmpaaDoorProg.lean LOADS. Nothing in Lean hashes anything: it is a label: what it is worth is what the hold of that sum in a sandbox is worth. -/
noncomputable def Tryd.pinned : Pinned := { name := "ytpndhffhdllmpaadoor", sum := "4327a98a0678cd0573a5105a052f3eafdce87702c8f3026380e0ddad2c34f4bf", checked := Tryd.checked }
namespace Rows
def none {H : Type} : Left H := { results := [], args := [] }

/- WHAT THE LISTED PACKAGE-LEVEL VARIABLES READ AS WHEN THE CALL BEGINS. Each datum BY PROGRAM (the guide's laid-datum.mjs) off the statement by which the dump's own 'gosem.cut.vars' lays the variable. In a bare row this is a premise. The card (YtpndhffhdllmpaaDoorCards.lean) ties it to the program's text. -/
def laid_unicode_utf8_acceptRanges {H : Type} : DataW H := .agg [.agg [.lit (.int .u8 128), .lit (.int .u8 191)], .agg [.lit (.int .u8 160), .lit (.int .u8 191)], .agg [.lit (.int .u8 128), .lit (.int .u8 159)], .agg [.lit (.int .u8 144), .lit (.int .u8 191)], .agg [.lit (.int .u8 128), .lit (.int .u8 143)], .agg [.lit (.int .u8 0), .lit (.int .u8 0)], .agg [.lit (.int .u8 0), .lit (.int .u8 0)], .agg [.lit (.int .u8 0), .lit (.int .u8 0)], .agg [.lit (.int .u8 0), .lit (.int .u8 0)], .agg [.lit (.int .u8 0), .lit (.int .u8 0)], .agg [.lit (.int .u8 0), .lit (.int .u8 0)], .agg [.lit (.int .u8 0), .lit (.int .u8 0)], .agg [.lit (.int .u8 0), .lit (.int .u8 0)], .agg [.lit (.int .u8 0), .lit (.int .u8 0)], .agg [.lit (.int .u8 0), .lit (.int .u8 0)], .agg [.lit (.int .u8 0), .lit (.int .u8 0)]]
/-- One of Go's own tables, pinned by name: the form's constant. -/
def laid_unicode_utf8_first : DataW Unit := Go.Pinned.utf8First

/-- 'souffleurlaw01.SignNext': WHATEVER THE INPUT: true; the input reads as it did. -/
def signNextSpec : ChangeSpec := { name := "signNext", fn := fun _ => fun
  | [d] => { results := [.lit (.bool true)], args := [d] }
  | _ => none }
def signNextRow : OpenClaim := { program := "ytpndhffhdllmpaadoor", sum := "4327a98a0678cd0573a5105a052f3eafdce87702c8f3026380e0ddad2c34f4bf", func := "souffleur/souffleurlaw01.SignNext", spec := "signNext", inPlace := ["internal/abi.NoEscape"], named := ["unicode/utf8.first", "unicode/utf8.acceptRanges"], apart := false, laid := [("unicode/utf8.acceptRanges", laid_unicode_utf8_acceptRanges), ("unicode/utf8.first", laid_unicode_utf8_first)] }
def SignNextSaid : Prop := signNextRow.holds Tryd.pinned (OpenSpec.ofChange signNextSpec)

/-- ITS FALSE NEIGHBOUR: 'it returns false'. Refute it at one input. -/
def signNextWrong : ChangeSpec := { name := "signNext", fn := fun _ => fun
  | [d] => { results := [.lit (.bool false)], args := [d] }
  | _ => none }
def SignNextWrongFalsely : Prop := signNextRow.holds Tryd.pinned (OpenSpec.ofChange signNextWrong)

/-- 'souffleurlaw01.SignRunes': WHATEVER THE INPUT: true; the input reads as it did. -/
def signRunesSpec : ChangeSpec := { name := "signRunes", fn := fun _ => fun
  | [d] => { results := [.lit (.bool true)], args := [d] }
  | _ => none }
def signRunesRow : OpenClaim := { program := "ytpndhffhdllmpaadoor", sum := "4327a98a0678cd0573a5105a052f3eafdce87702c8f3026380e0ddad2c34f4bf", func := "souffleur/souffleurlaw01.SignRunes", spec := "signRunes", inPlace := ["internal/abi.NoEscape"], named := ["unicode/utf8.first", "unicode/utf8.acceptRanges"], apart := false, laid := [("unicode/utf8.acceptRanges", laid_unicode_utf8_acceptRanges), ("unicode/utf8.first", laid_unicode_utf8_first)] }
def SignRunesSaid : Prop := signRunesRow.holds Tryd.pinned (OpenSpec.ofChange signRunesSpec)

/-- ITS FALSE NEIGHBOUR: 'it returns false'. Refute it at one input. -/
def signRunesWrong : ChangeSpec := { name := "signRunes", fn := fun _ => fun
  | [d] => { results := [.lit (.bool false)], args := [d] }
  | _ => none }
def SignRunesWrongFalsely : Prop := signRunesRow.holds Tryd.pinned (OpenSpec.ofChange signRunesWrong)

/-- 'souffleurlaw01.SignBytes': WHATEVER THE INPUT: true; the input reads as it did. -/
def signBytesSpec : ChangeSpec := { name := "signBytes", fn := fun _ => fun
  | [d1, d2] => { results := [.lit (.bool true)], args := [d1, d2] }
  | _ => none }
def signBytesRow : OpenClaim := { program := "ytpndhffhdllmpaadoor", sum := "4327a98a0678cd0573a5105a052f3eafdce87702c8f3026380e0ddad2c34f4bf", func := "souffleur/souffleurlaw01.SignBytes", spec := "signBytes", inPlace := ["internal/abi.NoEscape"], named := ["unicode/utf8.first", "unicode/utf8.acceptRanges"], apart := false, laid := [("unicode/utf8.acceptRanges", laid_unicode_utf8_acceptRanges), ("unicode/utf8.first", laid_unicode_utf8_first)] }
def SignBytesSaid : Prop := signBytesRow.holds Tryd.pinned (OpenSpec.ofChange signBytesSpec)

/-- ITS FALSE NEIGHBOUR: 'it returns false'. Refute it at one input. -/
def signBytesWrong : ChangeSpec := { name := "signBytes", fn := fun _ => fun
  | [d1, d2] => { results := [.lit (.bool false)], args := [d1, d2] }
  | _ => none }
def SignBytesWrongFalsely : Prop := signBytesRow.holds Tryd.pinned (OpenSpec.ofChange signBytesWrong)

/-- 'souffleurlaw01.SignFeeds': WHATEVER THE INPUT: true; the input reads as it did. -/
def signFeedsSpec : ChangeSpec := { name := "signFeeds", fn := fun _ => fun
  | [d] => { results := [.lit (.bool true)], args := [d] }
  | _ => none }
def signFeedsRow : OpenClaim := { program := "ytpndhffhdllmpaadoor", sum := "4327a98a0678cd0573a5105a052f3eafdce87702c8f3026380e0ddad2c34f4bf", func := "souffleur/souffleurlaw01.SignFeeds", spec := "signFeeds", inPlace := ["internal/abi.NoEscape"], named := ["unicode/utf8.first", "unicode/utf8.acceptRanges"], apart := false, laid := [("unicode/utf8.acceptRanges", laid_unicode_utf8_acceptRanges), ("unicode/utf8.first", laid_unicode_utf8_first)] }
def SignFeedsSaid : Prop := signFeedsRow.holds Tryd.pinned (OpenSpec.ofChange signFeedsSpec)

/-- ITS FALSE NEIGHBOUR: 'it returns false'. Refute it at one input. -/
def signFeedsWrong : ChangeSpec := { name := "signFeeds", fn := fun _ => fun
  | [d] => { results := [.lit (.bool false)], args := [d] }
  | _ => none }
def SignFeedsWrongFalsely : Prop := signFeedsRow.holds Tryd.pinned (OpenSpec.ofChange signFeedsWrong)

/-- 'souffleurlaw01.SignParts': WHATEVER THE INPUT: true; the input reads as it did. -/
def signPartsSpec : ChangeSpec := { name := "signParts", fn := fun _ => fun
  | [d1, d2] => { results := [.lit (.bool true)], args := [d1, d2] }
  | _ => none }
def signPartsRow : OpenClaim := { program := "ytpndhffhdllmpaadoor", sum := "4327a98a0678cd0573a5105a052f3eafdce87702c8f3026380e0ddad2c34f4bf", func := "souffleur/souffleurlaw01.SignParts", spec := "signParts", inPlace := ["internal/abi.NoEscape"], named := ["unicode/utf8.first", "unicode/utf8.acceptRanges"], apart := false, laid := [("unicode/utf8.acceptRanges", laid_unicode_utf8_acceptRanges), ("unicode/utf8.first", laid_unicode_utf8_first)] }
def SignPartsSaid : Prop := signPartsRow.holds Tryd.pinned (OpenSpec.ofChange signPartsSpec)

/-- ITS FALSE NEIGHBOUR: 'it returns false'. Refute it at one input. -/
def signPartsWrong : ChangeSpec := { name := "signParts", fn := fun _ => fun
  | [d1, d2] => { results := [.lit (.bool false)], args := [d1, d2] }
  | _ => none }
def SignPartsWrongFalsely : Prop := signPartsRow.holds Tryd.pinned (OpenSpec.ofChange signPartsWrong)

/-- 'souffleurlaw01.SignOwn': WHATEVER THE INPUT: true; the input reads as it did. -/
def signOwnSpec : ChangeSpec := { name := "signOwn", fn := fun _ => fun
  | [d] => { results := [.lit (.bool true)], args := [d] }
  | _ => none }
def signOwnRow : OpenClaim := { program := "ytpndhffhdllmpaadoor", sum := "4327a98a0678cd0573a5105a052f3eafdce87702c8f3026380e0ddad2c34f4bf", func := "souffleur/souffleurlaw01.SignOwn", spec := "signOwn", inPlace := ["internal/abi.NoEscape"], named := ["unicode/utf8.first", "unicode/utf8.acceptRanges"], apart := false, laid := [("unicode/utf8.acceptRanges", laid_unicode_utf8_acceptRanges), ("unicode/utf8.first", laid_unicode_utf8_first)] }
def SignOwnSaid : Prop := signOwnRow.holds Tryd.pinned (OpenSpec.ofChange signOwnSpec)

/-- ITS FALSE NEIGHBOUR: 'it returns false'. Refute it at one input. -/
def signOwnWrong : ChangeSpec := { name := "signOwn", fn := fun _ => fun
  | [d] => { results := [.lit (.bool false)], args := [d] }
  | _ => none }
def SignOwnWrongFalsely : Prop := signOwnRow.holds Tryd.pinned (OpenSpec.ofChange signOwnWrong)

/-- 'souffleurlaw01.SignJoins': WHATEVER THE INPUT: true; the input reads as it did. -/
def signJoinsSpec : ChangeSpec := { name := "signJoins", fn := fun _ => fun
  | [d1, d2] => { results := [.lit (.bool true)], args := [d1, d2] }
  | _ => none }
def signJoinsRow : OpenClaim := { program := "ytpndhffhdllmpaadoor", sum := "4327a98a0678cd0573a5105a052f3eafdce87702c8f3026380e0ddad2c34f4bf", func := "souffleur/souffleurlaw01.SignJoins", spec := "signJoins", inPlace := ["internal/abi.NoEscape"], named := ["unicode/utf8.first", "unicode/utf8.acceptRanges"], apart := false, laid := [("unicode/utf8.acceptRanges", laid_unicode_utf8_acceptRanges), ("unicode/utf8.first", laid_unicode_utf8_first)] }
def SignJoinsSaid : Prop := signJoinsRow.holds Tryd.pinned (OpenSpec.ofChange signJoinsSpec)

/-- ITS FALSE NEIGHBOUR: 'it returns false'. Refute it at one input. -/
def signJoinsWrong : ChangeSpec := { name := "signJoins", fn := fun _ => fun
  | [d1, d2] => { results := [.lit (.bool false)], args := [d1, d2] }
  | _ => none }
def SignJoinsWrongFalsely : Prop := signJoinsRow.holds Tryd.pinned (OpenSpec.ofChange signJoinsWrong)

/- THE SECOND FORM. 'bulk': how many values and letters a reading holds, each counted each time it is reached (what is shared counts as often as it is met; a slice's spare places count too). A statement '..UptoSaid' is the law's where the arguments, and the package variables that the reading takes, are together of bulk at most 1048576: NARROWER than '..Said'. Prove '..Said' where nothing that the law and all that it calls make is longer than what came in: it says more and counts as full. Else prove '..UptoSaid'. A law counts once. -/
mutual
def uptoBulk {H : Type} : DataW H → Nat
  | .lit (.string bytes) => bytes.length + 1
  | .lit _ => 1
  | .nil => 1
  | .ptr d => uptoBulk d + 1
  | .slice elems spare => uptoBulkAll elems + uptoBulkAll spare + 1
  | .agg parts => uptoBulkAll parts + 1
  | .iface _ d => uptoBulk d + 1
  | .map entries => uptoBulkEntries entries + 1
  | .held _ => 1
def uptoBulkAll {H : Type} : List (DataW H) → Nat
  | [] => 0
  | d :: r => uptoBulk d + uptoBulkAll r
def uptoBulkEntries {H : Type} : List (Lit × DataW H) → Nat
  | [] => 0
  | x :: r => uptoBulkEntry x + uptoBulkEntries r
def uptoBulkEntry {H : Type} : Lit × DataW H → Nat
  | (.string bytes, d) => bytes.length + uptoBulk d + 1
  | (_, d) => uptoBulk d + 1
 end
def uptoSmall : (H : Type) → List (DataW H) → Bool := fun _ ds => decide (uptoBulkAll ds ≤ 1048576)
def OpenSpec.upto (s : _root_.Go.ChangeSpec) : _root_.Go.OpenSpec := { _root_.Go.OpenSpec.ofChange s with cond := some uptoSmall }

/-- 'souffleurlaw01.SignNext', WHERE WHAT IT READS IS OF BULK AT MOST 1048576: true; the input reads as it did. -/
def signNextUptoRow : OpenClaim := { program := "ytpndhffhdllmpaadoor", sum := "4327a98a0678cd0573a5105a052f3eafdce87702c8f3026380e0ddad2c34f4bf", func := "souffleur/souffleurlaw01.SignNext", spec := "signNext", inPlace := ["internal/abi.NoEscape"], named := ["unicode/utf8.first", "unicode/utf8.acceptRanges"], apart := false, laid := [("unicode/utf8.acceptRanges", laid_unicode_utf8_acceptRanges), ("unicode/utf8.first", laid_unicode_utf8_first)], narrowed := true }
def SignNextUptoSaid : Prop := signNextUptoRow.holds Tryd.pinned (OpenSpec.upto signNextSpec)

/-- 'souffleurlaw01.SignRunes', WHERE WHAT IT READS IS OF BULK AT MOST 1048576: true; the input reads as it did. -/
def signRunesUptoRow : OpenClaim := { program := "ytpndhffhdllmpaadoor", sum := "4327a98a0678cd0573a5105a052f3eafdce87702c8f3026380e0ddad2c34f4bf", func := "souffleur/souffleurlaw01.SignRunes", spec := "signRunes", inPlace := ["internal/abi.NoEscape"], named := ["unicode/utf8.first", "unicode/utf8.acceptRanges"], apart := false, laid := [("unicode/utf8.acceptRanges", laid_unicode_utf8_acceptRanges), ("unicode/utf8.first", laid_unicode_utf8_first)], narrowed := true }
def SignRunesUptoSaid : Prop := signRunesUptoRow.holds Tryd.pinned (OpenSpec.upto signRunesSpec)

/-- 'souffleurlaw01.SignBytes', WHERE WHAT IT READS IS OF BULK AT MOST 1048576: true; the input reads as it did. -/
def signBytesUptoRow : OpenClaim := { program := "ytpndhffhdllmpaadoor", sum := "4327a98a0678cd0573a5105a052f3eafdce87702c8f3026380e0ddad2c34f4bf", func := "souffleur/souffleurlaw01.SignBytes", spec := "signBytes", inPlace := ["internal/abi.NoEscape"], named := ["unicode/utf8.first", "unicode/utf8.acceptRanges"], apart := false, laid := [("unicode/utf8.acceptRanges", laid_unicode_utf8_acceptRanges), ("unicode/utf8.first", laid_unicode_utf8_first)], narrowed := true }
def SignBytesUptoSaid : Prop := signBytesUptoRow.holds Tryd.pinned (OpenSpec.upto signBytesSpec)

/-- 'souffleurlaw01.SignFeeds', WHERE WHAT IT READS IS OF BULK AT MOST 1048576: true; the input reads as it did. -/
def signFeedsUptoRow : OpenClaim := { program := "ytpndhffhdllmpaadoor", sum := "4327a98a0678cd0573a5105a052f3eafdce87702c8f3026380e0ddad2c34f4bf", func := "souffleur/souffleurlaw01.SignFeeds", spec := "signFeeds", inPlace := ["internal/abi.NoEscape"], named := ["unicode/utf8.first", "unicode/utf8.acceptRanges"], apart := false, laid := [("unicode/utf8.acceptRanges", laid_unicode_utf8_acceptRanges), ("unicode/utf8.first", laid_unicode_utf8_first)], narrowed := true }
def SignFeedsUptoSaid : Prop := signFeedsUptoRow.holds Tryd.pinned (OpenSpec.upto signFeedsSpec)

/-- 'souffleurlaw01.SignParts', WHERE WHAT IT READS IS OF BULK AT MOST 1048576: true; the input reads as it did. -/
def signPartsUptoRow : OpenClaim := { program := "ytpndhffhdllmpaadoor", sum := "4327a98a0678cd0573a5105a052f3eafdce87702c8f3026380e0ddad2c34f4bf", func := "souffleur/souffleurlaw01.SignParts", spec := "signParts", inPlace := ["internal/abi.NoEscape"], named := ["unicode/utf8.first", "unicode/utf8.acceptRanges"], apart := false, laid := [("unicode/utf8.acceptRanges", laid_unicode_utf8_acceptRanges), ("unicode/utf8.first", laid_unicode_utf8_first)], narrowed := true }
def SignPartsUptoSaid : Prop := signPartsUptoRow.holds Tryd.pinned (OpenSpec.upto signPartsSpec)

/-- 'souffleurlaw01.SignOwn', WHERE WHAT IT READS IS OF BULK AT MOST 1048576: true; the input reads as it did. -/
def signOwnUptoRow : OpenClaim := { program := "ytpndhffhdllmpaadoor", sum := "4327a98a0678cd0573a5105a052f3eafdce87702c8f3026380e0ddad2c34f4bf", func := "souffleur/souffleurlaw01.SignOwn", spec := "signOwn", inPlace := ["internal/abi.NoEscape"], named := ["unicode/utf8.first", "unicode/utf8.acceptRanges"], apart := false, laid := [("unicode/utf8.acceptRanges", laid_unicode_utf8_acceptRanges), ("unicode/utf8.first", laid_unicode_utf8_first)], narrowed := true }
def SignOwnUptoSaid : Prop := signOwnUptoRow.holds Tryd.pinned (OpenSpec.upto signOwnSpec)

/-- 'souffleurlaw01.SignJoins', WHERE WHAT IT READS IS OF BULK AT MOST 1048576: true; the input reads as it did. -/
def signJoinsUptoRow : OpenClaim := { program := "ytpndhffhdllmpaadoor", sum := "4327a98a0678cd0573a5105a052f3eafdce87702c8f3026380e0ddad2c34f4bf", func := "souffleur/souffleurlaw01.SignJoins", spec := "signJoins", inPlace := ["internal/abi.NoEscape"], named := ["unicode/utf8.first", "unicode/utf8.acceptRanges"], apart := false, laid := [("unicode/utf8.acceptRanges", laid_unicode_utf8_acceptRanges), ("unicode/utf8.first", laid_unicode_utf8_first)], narrowed := true }
def SignJoinsUptoSaid : Prop := signJoinsUptoRow.holds Tryd.pinned (OpenSpec.upto signJoinsSpec)

end Rows
end Go.Proofs.YtpndhffhdllmpaaDoor
