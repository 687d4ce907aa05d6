/-
  NARROWER THAN 'FOR EVERY INPUT', by the rows' own cells (each row's printed sentence says how): AbbrGrows: laid.
  DERIVED. THE GIVEN ROWS OF THIS SEAT. 1 by the template 'for every input the law returns true; each argument reads behind the call as it read before'; 0 by the template 'total and deterministic' (their statements: YtlmbafnoopfilaaGreatDoorTotals.lean).
  GIVEN WITH THE SEED: the statements are not yours to turn. If you find one false, say at which input.
  Laid BY PROGRAM, IN A SANDBOX (cutbox-rows.mjs): the forced cells as the released guide's own fill.sh prints them over the translation ecbd8fb1e81b1954… (all of the seat's roots in one cut). By AI agents, Wed Nov 11 2026. No macro, syntax, notation, axiom, sorry.
-/
import Derived.Test.YtlmbafnoopfilaaGreatDoorChecked
import GoSem.PinnedTables
import GoSem.Claim
import GoSem.ClaimJoined
import GoSem.ClaimMapViews
import Derived.JoinedTies
import Derived.KernelRfl
namespace Go.Proofs.YtlmbafnoopfilaaGreatDoor
/- THE CELL 'sum', in the pinned program and in every row, IS THE sha256 OF THE DUMP (.gsa) THAT YtlmbafnoopfilaaGreatDoorProg.lean LOADS. Nothing in Lean hashes anything: it is a label: what it is worth is what the hold of that sum in a sandbox is worth. -/
noncomputable def Tryz.pinned : Pinned := { name := "ytlmbafnoopfilaagreatdoor", sum := "ecbd8fb1e81b1954a429158e56f89489d5d1cf1659a179203b12cb5861d70172", checked := Tryz.checked }
namespace Rows
def none {H : Type} : Left H := { results := [], args := [] }

/- WHAT THE LISTED PACKAGE-LEVEL VARIABLES READ AS WHEN THE CALL BEGINS. Each datum BY PROGRAM (the guide's laid-datum.mjs) off the statement by which the dump's own 'gosem.cut.vars' lays the variable. In a bare row this is a premise. The card (YtlmbafnoopfilaaGreatDoorCards.lean) ties it to the program's text. -/
def laid_unicode_utf8_acceptRanges {H : Type} : DataW H := .agg [.agg [.lit (.int .u8 128), .lit (.int .u8 191)], .agg [.lit (.int .u8 160), .lit (.int .u8 191)], .agg [.lit (.int .u8 128), .lit (.int .u8 159)], .agg [.lit (.int .u8 144), .lit (.int .u8 191)], .agg [.lit (.int .u8 128), .lit (.int .u8 143)], .agg [.lit (.int .u8 0), .lit (.int .u8 0)], .agg [.lit (.int .u8 0), .lit (.int .u8 0)], .agg [.lit (.int .u8 0), .lit (.int .u8 0)], .agg [.lit (.int .u8 0), .lit (.int .u8 0)], .agg [.lit (.int .u8 0), .lit (.int .u8 0)], .agg [.lit (.int .u8 0), .lit (.int .u8 0)], .agg [.lit (.int .u8 0), .lit (.int .u8 0)], .agg [.lit (.int .u8 0), .lit (.int .u8 0)], .agg [.lit (.int .u8 0), .lit (.int .u8 0)], .agg [.lit (.int .u8 0), .lit (.int .u8 0)], .agg [.lit (.int .u8 0), .lit (.int .u8 0)]]
def laid_souffleur_width_spans {H : Type} : DataW H := .agg [.agg [.agg [.lit (.int .i32 768), .lit (.int .i32 879)], .lit (.int .i64 0)], .agg [.agg [.lit (.int .i32 6832), .lit (.int .i32 6911)], .lit (.int .i64 0)], .agg [.agg [.lit (.int .i32 7616), .lit (.int .i32 7679)], .lit (.int .i64 0)], .agg [.agg [.lit (.int .i32 8203), .lit (.int .i32 8205)], .lit (.int .i64 0)], .agg [.agg [.lit (.int .i32 8400), .lit (.int .i32 8447)], .lit (.int .i64 0)], .agg [.agg [.lit (.int .i32 65024), .lit (.int .i32 65039)], .lit (.int .i64 0)], .agg [.agg [.lit (.int .i32 65056), .lit (.int .i32 65071)], .lit (.int .i64 0)], .agg [.agg [.lit (.int .i32 4352), .lit (.int .i32 4447)], .lit (.int .i64 2)], .agg [.agg [.lit (.int .i32 11904), .lit (.int .i32 12350)], .lit (.int .i64 2)], .agg [.agg [.lit (.int .i32 12353), .lit (.int .i32 42191)], .lit (.int .i64 2)], .agg [.agg [.lit (.int .i32 44032), .lit (.int .i32 55203)], .lit (.int .i64 2)], .agg [.agg [.lit (.int .i32 63744), .lit (.int .i32 64255)], .lit (.int .i64 2)], .agg [.agg [.lit (.int .i32 65072), .lit (.int .i32 65135)], .lit (.int .i64 2)], .agg [.agg [.lit (.int .i32 65281), .lit (.int .i32 65376)], .lit (.int .i64 2)], .agg [.agg [.lit (.int .i32 65504), .lit (.int .i32 65510)], .lit (.int .i64 2)], .agg [.agg [.lit (.int .i32 127744), .lit (.int .i32 129791)], .lit (.int .i64 2)], .agg [.agg [.lit (.int .i32 131072), .lit (.int .i32 262141)], .lit (.int .i64 2)]]
/-- One of Go's own tables, pinned by name: the form's constant. -/
def laid_unicode_utf8_first : DataW Unit := Go.Pinned.utf8First

/-- 'souffleurlaw08.AbbrGrows': WHATEVER THE INPUT: true; the input reads as it did. -/
def abbrGrowsSpec : ChangeSpec := { name := "abbrGrows", fn := fun _ => fun
  | [d1, d2] => { results := [.lit (.bool true)], args := [d1, d2] }
  | _ => none }
def abbrGrowsRow : OpenClaim := { program := "ytlmbafnoopfilaagreatdoor", sum := "ecbd8fb1e81b1954a429158e56f89489d5d1cf1659a179203b12cb5861d70172", func := "souffleur/souffleurlaw08.AbbrGrows", spec := "abbrGrows", inPlace := ["internal/abi.NoEscape", "internal/bytealg.IndexByteString", "internal/bytealg.IndexString"], unfollowed := true, recurses := true, named := ["internal/bytealg.MaxLen", "souffleur/width.spans", "unicode/utf8.first", "unicode/utf8.acceptRanges"], apart := false, laid := [("unicode/utf8.acceptRanges", laid_unicode_utf8_acceptRanges), ("souffleur/width.spans", laid_souffleur_width_spans), ("unicode/utf8.first", laid_unicode_utf8_first)] }
def AbbrGrowsSaid : Prop := abbrGrowsRow.holds Tryz.pinned (OpenSpec.ofChange abbrGrowsSpec)

/-- ITS FALSE NEIGHBOUR: 'it returns false'. Refute it at one input. -/
def abbrGrowsWrong : ChangeSpec := { name := "abbrGrows", fn := fun _ => fun
  | [d1, d2] => { results := [.lit (.bool false)], args := [d1, d2] }
  | _ => none }
def AbbrGrowsWrongFalsely : Prop := abbrGrowsRow.holds Tryz.pinned (OpenSpec.ofChange abbrGrowsWrong)

/- THE SECOND FORM. 'bulk': how many values and letters a reading holds, each counted each time it is reached (what is shared counts as often as it is met; a slice's spare places count too). A statement '..UptoSaid' is the law's where the arguments, and the package variables that the reading takes, are together of bulk at most 1048576: NARROWER than '..Said'. Prove '..Said' where nothing that the law and all that it calls make is longer than what came in: it says more and counts as full. Else prove '..UptoSaid'. A law counts once. -/
mutual
def uptoBulk {H : Type} : DataW H → Nat
  | .lit (.string bytes) => bytes.length + 1
  | .lit _ => 1
  | .nil => 1
  | .ptr d => uptoBulk d + 1
  | .slice elems spare => uptoBulkAll elems + uptoBulkAll spare + 1
  | .agg parts => uptoBulkAll parts + 1
  | .iface _ d => uptoBulk d + 1
  | .map entries => uptoBulkEntries entries + 1
  | .held _ => 1
def uptoBulkAll {H : Type} : List (DataW H) → Nat
  | [] => 0
  | d :: r => uptoBulk d + uptoBulkAll r
def uptoBulkEntries {H : Type} : List (Lit × DataW H) → Nat
  | [] => 0
  | x :: r => uptoBulkEntry x + uptoBulkEntries r
def uptoBulkEntry {H : Type} : Lit × DataW H → Nat
  | (.string bytes, d) => bytes.length + uptoBulk d + 1
  | (_, d) => uptoBulk d + 1
 end
def uptoSmall : (H : Type) → List (DataW H) → Bool := fun _ ds => decide (uptoBulkAll ds ≤ 1048576)
def OpenSpec.upto (s : _root_.Go.ChangeSpec) : _root_.Go.OpenSpec := { _root_.Go.OpenSpec.ofChange s with cond := some uptoSmall }

/-- 'souffleurlaw08.AbbrGrows', WHERE WHAT IT READS IS OF BULK AT MOST 1048576: true; the input reads as it did. -/
def abbrGrowsUptoRow : OpenClaim := { program := "ytlmbafnoopfilaagreatdoor", sum := "ecbd8fb1e81b1954a429158e56f89489d5d1cf1659a179203b12cb5861d70172", func := "souffleur/souffleurlaw08.AbbrGrows", spec := "abbrGrows", inPlace := ["internal/abi.NoEscape", "internal/bytealg.IndexByteString", "internal/bytealg.IndexString"], unfollowed := true, recurses := true, named := ["internal/bytealg.MaxLen", "souffleur/width.spans", "unicode/utf8.first", "unicode/utf8.acceptRanges"], apart := false, laid := [("unicode/utf8.acceptRanges", laid_unicode_utf8_acceptRanges), ("souffleur/width.spans", laid_souffleur_width_spans), ("unicode/utf8.first", laid_unicode_utf8_first)], narrowed := true }
def AbbrGrowsUptoSaid : Prop := abbrGrowsUptoRow.holds Tryz.pinned (OpenSpec.upto abbrGrowsSpec)

end Rows
end Go.Proofs.YtlmbafnoopfilaaGreatDoor
