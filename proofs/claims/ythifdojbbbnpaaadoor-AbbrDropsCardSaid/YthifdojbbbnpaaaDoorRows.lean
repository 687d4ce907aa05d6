/-
  NARROWER THAN 'FOR EVERY INPUT', by the rows' own cells (each row's printed sentence says how): AbbrAll: laid · AbbrKeeps: laid · AbbrDrops: laid · AbbrSets: laid · AbbrOnce: laid.
  DERIVED. THE GIVEN ROWS OF THIS SEAT. 5 by the template 'for every input the law returns true; each argument reads behind the call as it read before'; 0 by the template 'total and deterministic' (their statements: YthifdojbbbnpaaaDoorTotals.lean).
  GIVEN WITH THE SEED: the statements are not yours to turn. If you find one false, say at which input.
  Laid BY PROGRAM, IN A SANDBOX (cutbox-rows.mjs): the forced cells as the released guide's own fill.sh prints them over the translation aa9b0a53054af04f… (all of the seat's roots in one cut). By AI agents, Wed Nov 11 2026. No macro, syntax, notation, axiom, sorry.
-/
import Derived.Test.YthifdojbbbnpaaaDoorChecked
import GoSem.PinnedTables
import GoSem.Claim
import GoSem.ClaimJoined
import GoSem.ClaimMapViews
import Derived.JoinedTies
import Derived.KernelRfl
namespace Go.Proofs.YthifdojbbbnpaaaDoor
/- THE CELL 'sum', in the pinned program and in every row, IS THE sha256 OF THE DUMP (.gsa) THAT YthifdojbbbnpaaaDoorProg.lean LOADS. Nothing in Lean hashes anything: it is a label: what it is worth is what the hold of that sum in a sandbox is worth. -/
noncomputable def Tryd.pinned : Pinned := { name := "ythifdojbbbnpaaadoor", sum := "aa9b0a53054af04f102a3a0ce145287509cf888f9e4dbd127b4b765096ca4861", checked := Tryd.checked }
namespace Rows
def none {H : Type} : Left H := { results := [], args := [] }

/- WHAT THE LISTED PACKAGE-LEVEL VARIABLES READ AS WHEN THE CALL BEGINS. Each datum BY PROGRAM (the guide's laid-datum.mjs) off the statement by which the dump's own 'gosem.cut.vars' lays the variable. In a bare row this is a premise. The card (YthifdojbbbnpaaaDoorCards.lean) ties it to the program's text. -/
def laid_unicode_utf8_acceptRanges {H : Type} : DataW H := .agg [.agg [.lit (.int .u8 128), .lit (.int .u8 191)], .agg [.lit (.int .u8 160), .lit (.int .u8 191)], .agg [.lit (.int .u8 128), .lit (.int .u8 159)], .agg [.lit (.int .u8 144), .lit (.int .u8 191)], .agg [.lit (.int .u8 128), .lit (.int .u8 143)], .agg [.lit (.int .u8 0), .lit (.int .u8 0)], .agg [.lit (.int .u8 0), .lit (.int .u8 0)], .agg [.lit (.int .u8 0), .lit (.int .u8 0)], .agg [.lit (.int .u8 0), .lit (.int .u8 0)], .agg [.lit (.int .u8 0), .lit (.int .u8 0)], .agg [.lit (.int .u8 0), .lit (.int .u8 0)], .agg [.lit (.int .u8 0), .lit (.int .u8 0)], .agg [.lit (.int .u8 0), .lit (.int .u8 0)], .agg [.lit (.int .u8 0), .lit (.int .u8 0)], .agg [.lit (.int .u8 0), .lit (.int .u8 0)], .agg [.lit (.int .u8 0), .lit (.int .u8 0)]]
def laid_souffleur_width_spans {H : Type} : DataW H := .agg [.agg [.agg [.lit (.int .i32 768), .lit (.int .i32 879)], .lit (.int .i64 0)], .agg [.agg [.lit (.int .i32 6832), .lit (.int .i32 6911)], .lit (.int .i64 0)], .agg [.agg [.lit (.int .i32 7616), .lit (.int .i32 7679)], .lit (.int .i64 0)], .agg [.agg [.lit (.int .i32 8203), .lit (.int .i32 8205)], .lit (.int .i64 0)], .agg [.agg [.lit (.int .i32 8400), .lit (.int .i32 8447)], .lit (.int .i64 0)], .agg [.agg [.lit (.int .i32 65024), .lit (.int .i32 65039)], .lit (.int .i64 0)], .agg [.agg [.lit (.int .i32 65056), .lit (.int .i32 65071)], .lit (.int .i64 0)], .agg [.agg [.lit (.int .i32 4352), .lit (.int .i32 4447)], .lit (.int .i64 2)], .agg [.agg [.lit (.int .i32 11904), .lit (.int .i32 12350)], .lit (.int .i64 2)], .agg [.agg [.lit (.int .i32 12353), .lit (.int .i32 42191)], .lit (.int .i64 2)], .agg [.agg [.lit (.int .i32 44032), .lit (.int .i32 55203)], .lit (.int .i64 2)], .agg [.agg [.lit (.int .i32 63744), .lit (.int .i32 64255)], .lit (.int .i64 2)], .agg [.agg [.lit (.int .i32 65072), .lit (.int .i32 65135)], .lit (.int .i64 2)], .agg [.agg [.lit (.int .i32 65281), .lit (.int .i32 65376)], .lit (.int .i64 2)], .agg [.agg [.lit (.int .i32 65504), .lit (.int .i32 65510)], .lit (.int .i64 2)], .agg [.agg [.lit (.int .i32 127744), .lit (.int .i32 129791)], .lit (.int .i64 2)], .agg [.agg [.lit (.int .i32 131072), .lit (.int .i32 262141)], .lit (.int .i64 2)]]
/-- One of Go's own tables, pinned by name: the form's constant. -/
def laid_unicode_utf8_first : DataW Unit := Go.Pinned.utf8First

/-- 'souffleurlaw08.AbbrAll': WHATEVER THE INPUT: true; the input reads as it did. -/
def abbrAllSpec : ChangeSpec := { name := "abbrAll", fn := fun _ => fun
  | [d] => { results := [.lit (.bool true)], args := [d] }
  | _ => none }
def abbrAllRow : OpenClaim := { program := "ythifdojbbbnpaaadoor", sum := "aa9b0a53054af04f102a3a0ce145287509cf888f9e4dbd127b4b765096ca4861", func := "souffleur/souffleurlaw08.AbbrAll", spec := "abbrAll", inPlace := ["internal/abi.NoEscape", "internal/bytealg.IndexByteString", "internal/bytealg.IndexString"], unfollowed := true, recurses := true, named := ["internal/bytealg.MaxLen", "souffleur/width.spans", "unicode/utf8.first", "unicode/utf8.acceptRanges"], apart := false, laid := [("unicode/utf8.acceptRanges", laid_unicode_utf8_acceptRanges), ("souffleur/width.spans", laid_souffleur_width_spans), ("unicode/utf8.first", laid_unicode_utf8_first)] }
def AbbrAllSaid : Prop := abbrAllRow.holds Tryd.pinned (OpenSpec.ofChange abbrAllSpec)

/-- ITS FALSE NEIGHBOUR: 'it returns false'. Refute it at one input. -/
def abbrAllWrong : ChangeSpec := { name := "abbrAll", fn := fun _ => fun
  | [d] => { results := [.lit (.bool false)], args := [d] }
  | _ => none }
def AbbrAllWrongFalsely : Prop := abbrAllRow.holds Tryd.pinned (OpenSpec.ofChange abbrAllWrong)

/-- 'souffleurlaw08.AbbrKeeps': WHATEVER THE INPUT: true; the input reads as it did. -/
def abbrKeepsSpec : ChangeSpec := { name := "abbrKeeps", fn := fun _ => fun
  | [d1, d2] => { results := [.lit (.bool true)], args := [d1, d2] }
  | _ => none }
def abbrKeepsRow : OpenClaim := { program := "ythifdojbbbnpaaadoor", sum := "aa9b0a53054af04f102a3a0ce145287509cf888f9e4dbd127b4b765096ca4861", func := "souffleur/souffleurlaw08.AbbrKeeps", spec := "abbrKeeps", inPlace := ["internal/abi.NoEscape", "internal/bytealg.IndexByteString", "internal/bytealg.IndexString"], unfollowed := true, recurses := true, named := ["internal/bytealg.MaxLen", "souffleur/width.spans", "unicode/utf8.first", "unicode/utf8.acceptRanges"], apart := false, laid := [("unicode/utf8.acceptRanges", laid_unicode_utf8_acceptRanges), ("souffleur/width.spans", laid_souffleur_width_spans), ("unicode/utf8.first", laid_unicode_utf8_first)] }
def AbbrKeepsSaid : Prop := abbrKeepsRow.holds Tryd.pinned (OpenSpec.ofChange abbrKeepsSpec)

/-- ITS FALSE NEIGHBOUR: 'it returns false'. Refute it at one input. -/
def abbrKeepsWrong : ChangeSpec := { name := "abbrKeeps", fn := fun _ => fun
  | [d1, d2] => { results := [.lit (.bool false)], args := [d1, d2] }
  | _ => none }
def AbbrKeepsWrongFalsely : Prop := abbrKeepsRow.holds Tryd.pinned (OpenSpec.ofChange abbrKeepsWrong)

/-- 'souffleurlaw08.AbbrDrops': WHATEVER THE INPUT: true; the input reads as it did. -/
def abbrDropsSpec : ChangeSpec := { name := "abbrDrops", fn := fun _ => fun
  | [d1, d2] => { results := [.lit (.bool true)], args := [d1, d2] }
  | _ => none }
def abbrDropsRow : OpenClaim := { program := "ythifdojbbbnpaaadoor", sum := "aa9b0a53054af04f102a3a0ce145287509cf888f9e4dbd127b4b765096ca4861", func := "souffleur/souffleurlaw08.AbbrDrops", spec := "abbrDrops", inPlace := ["internal/abi.NoEscape", "internal/bytealg.IndexByteString", "internal/bytealg.IndexString"], unfollowed := true, recurses := true, named := ["internal/bytealg.MaxLen", "souffleur/width.spans", "unicode/utf8.first", "unicode/utf8.acceptRanges"], apart := false, laid := [("unicode/utf8.acceptRanges", laid_unicode_utf8_acceptRanges), ("souffleur/width.spans", laid_souffleur_width_spans), ("unicode/utf8.first", laid_unicode_utf8_first)] }
def AbbrDropsSaid : Prop := abbrDropsRow.holds Tryd.pinned (OpenSpec.ofChange abbrDropsSpec)

/-- ITS FALSE NEIGHBOUR: 'it returns false'. Refute it at one input. -/
def abbrDropsWrong : ChangeSpec := { name := "abbrDrops", fn := fun _ => fun
  | [d1, d2] => { results := [.lit (.bool false)], args := [d1, d2] }
  | _ => none }
def AbbrDropsWrongFalsely : Prop := abbrDropsRow.holds Tryd.pinned (OpenSpec.ofChange abbrDropsWrong)

/-- 'souffleurlaw08.AbbrSets': WHATEVER THE INPUT: true; the input reads as it did. -/
def abbrSetsSpec : ChangeSpec := { name := "abbrSets", fn := fun _ => fun
  | [d1, d2] => { results := [.lit (.bool true)], args := [d1, d2] }
  | _ => none }
def abbrSetsRow : OpenClaim := { program := "ythifdojbbbnpaaadoor", sum := "aa9b0a53054af04f102a3a0ce145287509cf888f9e4dbd127b4b765096ca4861", func := "souffleur/souffleurlaw08.AbbrSets", spec := "abbrSets", inPlace := ["internal/abi.NoEscape", "internal/bytealg.IndexByteString", "internal/bytealg.IndexString"], unfollowed := true, recurses := true, named := ["internal/bytealg.MaxLen", "souffleur/width.spans", "unicode/utf8.first", "unicode/utf8.acceptRanges"], apart := false, laid := [("unicode/utf8.acceptRanges", laid_unicode_utf8_acceptRanges), ("souffleur/width.spans", laid_souffleur_width_spans), ("unicode/utf8.first", laid_unicode_utf8_first)] }
def AbbrSetsSaid : Prop := abbrSetsRow.holds Tryd.pinned (OpenSpec.ofChange abbrSetsSpec)

/-- ITS FALSE NEIGHBOUR: 'it returns false'. Refute it at one input. -/
def abbrSetsWrong : ChangeSpec := { name := "abbrSets", fn := fun _ => fun
  | [d1, d2] => { results := [.lit (.bool false)], args := [d1, d2] }
  | _ => none }
def AbbrSetsWrongFalsely : Prop := abbrSetsRow.holds Tryd.pinned (OpenSpec.ofChange abbrSetsWrong)

/-- 'souffleurlaw08.AbbrOnce': WHATEVER THE INPUT: true; the input reads as it did. -/
def abbrOnceSpec : ChangeSpec := { name := "abbrOnce", fn := fun _ => fun
  | [d1, d2] => { results := [.lit (.bool true)], args := [d1, d2] }
  | _ => none }
def abbrOnceRow : OpenClaim := { program := "ythifdojbbbnpaaadoor", sum := "aa9b0a53054af04f102a3a0ce145287509cf888f9e4dbd127b4b765096ca4861", func := "souffleur/souffleurlaw08.AbbrOnce", spec := "abbrOnce", inPlace := ["internal/abi.NoEscape", "internal/bytealg.IndexByteString", "internal/bytealg.IndexString"], unfollowed := true, recurses := true, named := ["internal/bytealg.MaxLen", "souffleur/width.spans", "unicode/utf8.first", "unicode/utf8.acceptRanges"], apart := false, laid := [("unicode/utf8.acceptRanges", laid_unicode_utf8_acceptRanges), ("souffleur/width.spans", laid_souffleur_width_spans), ("unicode/utf8.first", laid_unicode_utf8_first)] }
def AbbrOnceSaid : Prop := abbrOnceRow.holds Tryd.pinned (OpenSpec.ofChange abbrOnceSpec)

/-- ITS FALSE NEIGHBOUR: 'it returns false'. Refute it at one input. -/
def abbrOnceWrong : ChangeSpec := { name := "abbrOnce", fn := fun _ => fun
  | [d1, d2] => { results := [.lit (.bool false)], args := [d1, d2] }
  | _ => none }
def AbbrOnceWrongFalsely : Prop := abbrOnceRow.holds Tryd.pinned (OpenSpec.ofChange abbrOnceWrong)

/- THE SECOND FORM. 'bulk': how many values and letters a reading holds, each counted each time it is reached (what is shared counts as often as it is met; a slice's spare places count too). A statement '..UptoSaid' is the law's where the arguments, and the package variables that the reading takes, are together of bulk at most 1048576: NARROWER than '..Said'. Prove '..Said' where nothing that the law and all that it calls make is longer than what came in: it says more and counts as full. Else prove '..UptoSaid'. A law counts once. -/
mutual
def uptoBulk {H : Type} : DataW H → Nat
  | .lit (.string bytes) => bytes.length + 1
  | .lit _ => 1
  | .nil => 1
  | .ptr d => uptoBulk d + 1
  | .slice elems spare => uptoBulkAll elems + uptoBulkAll spare + 1
  | .agg parts => uptoBulkAll parts + 1
  | .iface _ d => uptoBulk d + 1
  | .map entries => uptoBulkEntries entries + 1
  | .held _ => 1
def uptoBulkAll {H : Type} : List (DataW H) → Nat
  | [] => 0
  | d :: r => uptoBulk d + uptoBulkAll r
def uptoBulkEntries {H : Type} : List (Lit × DataW H) → Nat
  | [] => 0
  | x :: r => uptoBulkEntry x + uptoBulkEntries r
def uptoBulkEntry {H : Type} : Lit × DataW H → Nat
  | (.string bytes, d) => bytes.length + uptoBulk d + 1
  | (_, d) => uptoBulk d + 1
 end
def uptoSmall : (H : Type) → List (DataW H) → Bool := fun _ ds => decide (uptoBulkAll ds ≤ 1048576)
def OpenSpec.upto (s : _root_.Go.ChangeSpec) : _root_.Go.OpenSpec := { _root_.Go.OpenSpec.ofChange s with cond := some uptoSmall }

/-- 'souffleurlaw08.AbbrAll', WHERE WHAT IT READS IS OF BULK AT MOST 1048576: true; the input reads as it did. -/
def abbrAllUptoRow : OpenClaim := { program := "ythifdojbbbnpaaadoor", sum := "aa9b0a53054af04f102a3a0ce145287509cf888f9e4dbd127b4b765096ca4861", func := "souffleur/souffleurlaw08.AbbrAll", spec := "abbrAll", inPlace := ["internal/abi.NoEscape", "internal/bytealg.IndexByteString", "internal/bytealg.IndexString"], unfollowed := true, recurses := true, named := ["internal/bytealg.MaxLen", "souffleur/width.spans", "unicode/utf8.first", "unicode/utf8.acceptRanges"], apart := false, laid := [("unicode/utf8.acceptRanges", laid_unicode_utf8_acceptRanges), ("souffleur/width.spans", laid_souffleur_width_spans), ("unicode/utf8.first", laid_unicode_utf8_first)], narrowed := true }
def AbbrAllUptoSaid : Prop := abbrAllUptoRow.holds Tryd.pinned (OpenSpec.upto abbrAllSpec)

/-- 'souffleurlaw08.AbbrKeeps', WHERE WHAT IT READS IS OF BULK AT MOST 1048576: true; the input reads as it did. -/
def abbrKeepsUptoRow : OpenClaim := { program := "ythifdojbbbnpaaadoor", sum := "aa9b0a53054af04f102a3a0ce145287509cf888f9e4dbd127b4b765096ca4861", func := "souffleur/souffleurlaw08.AbbrKeeps", spec := "abbrKeeps", inPlace := ["internal/abi.NoEscape", "internal/bytealg.IndexByteString", "internal/bytealg.IndexString"], unfollowed := true, recurses := true, named := ["internal/bytealg.MaxLen", "souffleur/width.spans", "unicode/utf8.first", "unicode/utf8.acceptRanges"], apart := false, laid := [("unicode/utf8.acceptRanges", laid_unicode_utf8_acceptRanges), ("souffleur/width.spans", laid_souffleur_width_spans), ("unicode/utf8.first", laid_unicode_utf8_first)], narrowed := true }
def AbbrKeepsUptoSaid : Prop := abbrKeepsUptoRow.holds Tryd.pinned (OpenSpec.upto abbrKeepsSpec)

/-- 'souffleurlaw08.AbbrDrops', WHERE WHAT IT READS IS OF BULK AT MOST 1048576: true; the input reads as it did. -/
def abbrDropsUptoRow : OpenClaim := { program := "ythifdojbbbnpaaadoor", sum := "aa9b0a53054af04f102a3a0ce145287509cf888f9e4dbd127b4b765096ca4861", func := "souffleur/souffleurlaw08.AbbrDrops", spec := "abbrDrops", inPlace := ["internal/abi.NoEscape", "internal/bytealg.IndexByteString", "internal/bytealg.IndexString"], unfollowed := true, recurses := true, named := ["internal/bytealg.MaxLen", "souffleur/width.spans", "unicode/utf8.first", "unicode/utf8.acceptRanges"], apart := false, laid := [("unicode/utf8.acceptRanges", laid_unicode_utf8_acceptRanges), ("souffleur/width.spans", laid_souffleur_width_spans), ("unicode/utf8.first", laid_unicode_utf8_first)], narrowed := true }
def AbbrDropsUptoSaid : Prop := abbrDropsUptoRow.holds Tryd.pinned (OpenSpec.upto abbrDropsSpec)

/-- 'souffleurlaw08.AbbrSets', WHERE WHAT IT READS IS OF BULK AT MOST 1048576: true; the input reads as it did. -/
def abbrSetsUptoRow : OpenClaim := { program := "ythifdojbbbnpaaadoor", sum := "aa9b0a53054af04f102a3a0ce145287509cf888f9e4dbd127b4b765096ca4861", func := "souffleur/souffleurlaw08.AbbrSets", spec := "abbrSets", inPlace := ["internal/abi.NoEscape", "internal/bytealg.IndexByteString", "internal/bytealg.IndexString"], unfollowed := true, recurses := true, named := ["internal/bytealg.MaxLen", "souffleur/width.spans", "unicode/utf8.first", "unicode/utf8.acceptRanges"], apart := false, laid := [("unicode/utf8.acceptRanges", laid_unicode_utf8_acceptRanges), ("souffleur/width.spans", laid_souffleur_width_spans), ("unicode/utf8.first", laid_unicode_utf8_first)], narrowed := true }
def AbbrSetsUptoSaid : Prop := abbrSetsUptoRow.holds Tryd.pinned (OpenSpec.upto abbrSetsSpec)

/-- 'souffleurlaw08.AbbrOnce', WHERE WHAT IT READS IS OF BULK AT MOST 1048576: true; the input reads as it did. -/
def abbrOnceUptoRow : OpenClaim := { program := "ythifdojbbbnpaaadoor", sum := "aa9b0a53054af04f102a3a0ce145287509cf888f9e4dbd127b4b765096ca4861", func := "souffleur/souffleurlaw08.AbbrOnce", spec := "abbrOnce", inPlace := ["internal/abi.NoEscape", "internal/bytealg.IndexByteString", "internal/bytealg.IndexString"], unfollowed := true, recurses := true, named := ["internal/bytealg.MaxLen", "souffleur/width.spans", "unicode/utf8.first", "unicode/utf8.acceptRanges"], apart := false, laid := [("unicode/utf8.acceptRanges", laid_unicode_utf8_acceptRanges), ("souffleur/width.spans", laid_souffleur_width_spans), ("unicode/utf8.first", laid_unicode_utf8_first)], narrowed := true }
def AbbrOnceUptoSaid : Prop := abbrOnceUptoRow.holds Tryd.pinned (OpenSpec.upto abbrOnceSpec)

end Rows
end Go.Proofs.YthifdojbbbnpaaaDoor
