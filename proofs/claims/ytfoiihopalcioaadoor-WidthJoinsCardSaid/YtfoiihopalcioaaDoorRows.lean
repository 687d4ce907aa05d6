/-
  NARROWER THAN 'FOR EVERY INPUT', by the rows' own cells (each row's printed sentence says how): WidthSigns: laid · WidthCuts: laid · WidthShows: laid · WidthEach: laid · WidthJoins: laid · WidthAgain: laid · WidthSums: laid.
  DERIVED. THE GIVEN ROWS OF THIS SEAT. 7 by the template 'for every input the law returns true; each argument reads behind the call as it read before'; 0 by the template 'total and deterministic' (their statements: YtfoiihopalcioaaDoorTotals.lean).
  GIVEN WITH THE SEED: the statements are not yours to turn. If you find one false, say at which input.
  Laid BY PROGRAM, IN A SANDBOX (cutbox-rows.mjs): the forced cells as the released guide's own fill.sh prints them over the translation a214cef2470e919d… (all of the seat's roots in one cut). By AI agents, Wed Nov 11 2026. No macro, syntax, notation, axiom, sorry.
-/
import Derived.Test.YtfoiihopalcioaaDoorChecked
import GoSem.Claim
import GoSem.ClaimJoined
import GoSem.ClaimMapViews
import Derived.JoinedTies
import Derived.KernelRfl
namespace Go.Proofs.YtfoiihopalcioaaDoor
/- THE CELL 'sum', in the pinned program and in every row, IS THE sha256 OF THE DUMP (.gsa) THAT YtfoiihopalcioaaDoorProg.lean LOADS. Nothing in Lean hashes anything: it is a label: what it is worth is what the hold of that sum in a sandbox is worth. -/
noncomputable def Tryd.pinned : Pinned := { name := "ytfoiihopalcioaadoor", sum := "a214cef2470e919d5771055fb82c770314891c4bb5d0fb90142079cfdbcc56dc", checked := Tryd.checked }
namespace Rows
def none {H : Type} : Left H := { results := [], args := [] }

/- WHAT THE LISTED PACKAGE-LEVEL VARIABLES READ AS WHEN THE CALL BEGINS. Each datum BY PROGRAM (the guide's laid-datum.mjs) off the statement by which the dump's own 'gosem.cut.vars' lays the variable. In a bare row this is a premise. The card (YtfoiihopalcioaaDoorCards.lean) ties it to the program's text. -/
def laid_souffleur_width_spans {H : Type} : DataW H := .agg [.agg [.agg [.lit (.int .i32 768), .lit (.int .i32 879)], .lit (.int .i64 0)], .agg [.agg [.lit (.int .i32 6832), .lit (.int .i32 6911)], .lit (.int .i64 0)], .agg [.agg [.lit (.int .i32 7616), .lit (.int .i32 7679)], .lit (.int .i64 0)], .agg [.agg [.lit (.int .i32 8203), .lit (.int .i32 8205)], .lit (.int .i64 0)], .agg [.agg [.lit (.int .i32 8400), .lit (.int .i32 8447)], .lit (.int .i64 0)], .agg [.agg [.lit (.int .i32 65024), .lit (.int .i32 65039)], .lit (.int .i64 0)], .agg [.agg [.lit (.int .i32 65056), .lit (.int .i32 65071)], .lit (.int .i64 0)], .agg [.agg [.lit (.int .i32 4352), .lit (.int .i32 4447)], .lit (.int .i64 2)], .agg [.agg [.lit (.int .i32 11904), .lit (.int .i32 12350)], .lit (.int .i64 2)], .agg [.agg [.lit (.int .i32 12353), .lit (.int .i32 42191)], .lit (.int .i64 2)], .agg [.agg [.lit (.int .i32 44032), .lit (.int .i32 55203)], .lit (.int .i64 2)], .agg [.agg [.lit (.int .i32 63744), .lit (.int .i32 64255)], .lit (.int .i64 2)], .agg [.agg [.lit (.int .i32 65072), .lit (.int .i32 65135)], .lit (.int .i64 2)], .agg [.agg [.lit (.int .i32 65281), .lit (.int .i32 65376)], .lit (.int .i64 2)], .agg [.agg [.lit (.int .i32 65504), .lit (.int .i32 65510)], .lit (.int .i64 2)], .agg [.agg [.lit (.int .i32 127744), .lit (.int .i32 129791)], .lit (.int .i64 2)], .agg [.agg [.lit (.int .i32 131072), .lit (.int .i32 262141)], .lit (.int .i64 2)]]

/-- 'souffleurlaw02.WidthSigns': WHATEVER THE INPUT: true; the input reads as it did. -/
def widthSignsSpec : ChangeSpec := { name := "widthSigns", fn := fun _ => fun
  | [d] => { results := [.lit (.bool true)], args := [d] }
  | _ => none }
def widthSignsRow : OpenClaim := { program := "ytfoiihopalcioaadoor", sum := "a214cef2470e919d5771055fb82c770314891c4bb5d0fb90142079cfdbcc56dc", func := "souffleur/souffleurlaw02.WidthSigns", spec := "widthSigns", inPlace := ["internal/abi.NoEscape"], unfollowed := true, recurses := true, named := ["souffleur/width.spans"], apart := false, laid := [("souffleur/width.spans", laid_souffleur_width_spans)] }
def WidthSignsSaid : Prop := widthSignsRow.holds Tryd.pinned (OpenSpec.ofChange widthSignsSpec)

/-- ITS FALSE NEIGHBOUR: 'it returns false'. Refute it at one input. -/
def widthSignsWrong : ChangeSpec := { name := "widthSigns", fn := fun _ => fun
  | [d] => { results := [.lit (.bool false)], args := [d] }
  | _ => none }
def WidthSignsWrongFalsely : Prop := widthSignsRow.holds Tryd.pinned (OpenSpec.ofChange widthSignsWrong)

/-- 'souffleurlaw02.WidthCuts': WHATEVER THE INPUT: true; the input reads as it did. -/
def widthCutsSpec : ChangeSpec := { name := "widthCuts", fn := fun _ => fun
  | [d] => { results := [.lit (.bool true)], args := [d] }
  | _ => none }
def widthCutsRow : OpenClaim := { program := "ytfoiihopalcioaadoor", sum := "a214cef2470e919d5771055fb82c770314891c4bb5d0fb90142079cfdbcc56dc", func := "souffleur/souffleurlaw02.WidthCuts", spec := "widthCuts", inPlace := ["internal/abi.NoEscape"], unfollowed := true, recurses := true, named := ["souffleur/width.spans"], apart := false, laid := [("souffleur/width.spans", laid_souffleur_width_spans)] }
def WidthCutsSaid : Prop := widthCutsRow.holds Tryd.pinned (OpenSpec.ofChange widthCutsSpec)

/-- ITS FALSE NEIGHBOUR: 'it returns false'. Refute it at one input. -/
def widthCutsWrong : ChangeSpec := { name := "widthCuts", fn := fun _ => fun
  | [d] => { results := [.lit (.bool false)], args := [d] }
  | _ => none }
def WidthCutsWrongFalsely : Prop := widthCutsRow.holds Tryd.pinned (OpenSpec.ofChange widthCutsWrong)

/-- 'souffleurlaw02.WidthShows': WHATEVER THE INPUT: true; the input reads as it did. -/
def widthShowsSpec : ChangeSpec := { name := "widthShows", fn := fun _ => fun
  | [d] => { results := [.lit (.bool true)], args := [d] }
  | _ => none }
def widthShowsRow : OpenClaim := { program := "ytfoiihopalcioaadoor", sum := "a214cef2470e919d5771055fb82c770314891c4bb5d0fb90142079cfdbcc56dc", func := "souffleur/souffleurlaw02.WidthShows", spec := "widthShows", inPlace := ["internal/abi.NoEscape"], unfollowed := true, recurses := true, named := ["souffleur/width.spans"], apart := false, laid := [("souffleur/width.spans", laid_souffleur_width_spans)] }
def WidthShowsSaid : Prop := widthShowsRow.holds Tryd.pinned (OpenSpec.ofChange widthShowsSpec)

/-- ITS FALSE NEIGHBOUR: 'it returns false'. Refute it at one input. -/
def widthShowsWrong : ChangeSpec := { name := "widthShows", fn := fun _ => fun
  | [d] => { results := [.lit (.bool false)], args := [d] }
  | _ => none }
def WidthShowsWrongFalsely : Prop := widthShowsRow.holds Tryd.pinned (OpenSpec.ofChange widthShowsWrong)

/-- 'souffleurlaw02.WidthEach': WHATEVER THE INPUT: true; the input reads as it did. -/
def widthEachSpec : ChangeSpec := { name := "widthEach", fn := fun _ => fun
  | [d1, d2] => { results := [.lit (.bool true)], args := [d1, d2] }
  | _ => none }
def widthEachRow : OpenClaim := { program := "ytfoiihopalcioaadoor", sum := "a214cef2470e919d5771055fb82c770314891c4bb5d0fb90142079cfdbcc56dc", func := "souffleur/souffleurlaw02.WidthEach", spec := "widthEach", inPlace := ["internal/abi.NoEscape"], unfollowed := true, recurses := true, named := ["souffleur/width.spans"], apart := false, laid := [("souffleur/width.spans", laid_souffleur_width_spans)] }
def WidthEachSaid : Prop := widthEachRow.holds Tryd.pinned (OpenSpec.ofChange widthEachSpec)

/-- ITS FALSE NEIGHBOUR: 'it returns false'. Refute it at one input. -/
def widthEachWrong : ChangeSpec := { name := "widthEach", fn := fun _ => fun
  | [d1, d2] => { results := [.lit (.bool false)], args := [d1, d2] }
  | _ => none }
def WidthEachWrongFalsely : Prop := widthEachRow.holds Tryd.pinned (OpenSpec.ofChange widthEachWrong)

/-- 'souffleurlaw02.WidthJoins': WHATEVER THE INPUT: true; the input reads as it did. -/
def widthJoinsSpec : ChangeSpec := { name := "widthJoins", fn := fun _ => fun
  | [d1, d2] => { results := [.lit (.bool true)], args := [d1, d2] }
  | _ => none }
def widthJoinsRow : OpenClaim := { program := "ytfoiihopalcioaadoor", sum := "a214cef2470e919d5771055fb82c770314891c4bb5d0fb90142079cfdbcc56dc", func := "souffleur/souffleurlaw02.WidthJoins", spec := "widthJoins", inPlace := ["internal/abi.NoEscape"], unfollowed := true, recurses := true, named := ["souffleur/width.spans"], apart := false, laid := [("souffleur/width.spans", laid_souffleur_width_spans)] }
def WidthJoinsSaid : Prop := widthJoinsRow.holds Tryd.pinned (OpenSpec.ofChange widthJoinsSpec)

/-- ITS FALSE NEIGHBOUR: 'it returns false'. Refute it at one input. -/
def widthJoinsWrong : ChangeSpec := { name := "widthJoins", fn := fun _ => fun
  | [d1, d2] => { results := [.lit (.bool false)], args := [d1, d2] }
  | _ => none }
def WidthJoinsWrongFalsely : Prop := widthJoinsRow.holds Tryd.pinned (OpenSpec.ofChange widthJoinsWrong)

/-- 'souffleurlaw02.WidthAgain': WHATEVER THE INPUT: true; the input reads as it did. -/
def widthAgainSpec : ChangeSpec := { name := "widthAgain", fn := fun _ => fun
  | [d] => { results := [.lit (.bool true)], args := [d] }
  | _ => none }
def widthAgainRow : OpenClaim := { program := "ytfoiihopalcioaadoor", sum := "a214cef2470e919d5771055fb82c770314891c4bb5d0fb90142079cfdbcc56dc", func := "souffleur/souffleurlaw02.WidthAgain", spec := "widthAgain", inPlace := ["internal/abi.NoEscape"], unfollowed := true, recurses := true, named := ["souffleur/width.spans"], apart := false, laid := [("souffleur/width.spans", laid_souffleur_width_spans)] }
def WidthAgainSaid : Prop := widthAgainRow.holds Tryd.pinned (OpenSpec.ofChange widthAgainSpec)

/-- ITS FALSE NEIGHBOUR: 'it returns false'. Refute it at one input. -/
def widthAgainWrong : ChangeSpec := { name := "widthAgain", fn := fun _ => fun
  | [d] => { results := [.lit (.bool false)], args := [d] }
  | _ => none }
def WidthAgainWrongFalsely : Prop := widthAgainRow.holds Tryd.pinned (OpenSpec.ofChange widthAgainWrong)

/-- 'souffleurlaw02.WidthSums': WHATEVER THE INPUT: true; the input reads as it did. -/
def widthSumsSpec : ChangeSpec := { name := "widthSums", fn := fun _ => fun
  | [d1, d2] => { results := [.lit (.bool true)], args := [d1, d2] }
  | _ => none }
def widthSumsRow : OpenClaim := { program := "ytfoiihopalcioaadoor", sum := "a214cef2470e919d5771055fb82c770314891c4bb5d0fb90142079cfdbcc56dc", func := "souffleur/souffleurlaw02.WidthSums", spec := "widthSums", inPlace := ["internal/abi.NoEscape"], unfollowed := true, recurses := true, named := ["souffleur/width.spans"], apart := false, laid := [("souffleur/width.spans", laid_souffleur_width_spans)] }
def WidthSumsSaid : Prop := widthSumsRow.holds Tryd.pinned (OpenSpec.ofChange widthSumsSpec)

/-- ITS FALSE NEIGHBOUR: 'it returns false'. Refute it at one input. -/
def widthSumsWrong : ChangeSpec := { name := "widthSums", fn := fun _ => fun
  | [d1, d2] => { results := [.lit (.bool false)], args := [d1, d2] }
  | _ => none }
def WidthSumsWrongFalsely : Prop := widthSumsRow.holds Tryd.pinned (OpenSpec.ofChange widthSumsWrong)

/- THE SECOND FORM. 'bulk': how many values and letters a reading holds, each counted each time it is reached (what is shared counts as often as it is met; a slice's spare places count too). A statement '..UptoSaid' is the law's where the arguments, and the package variables that the reading takes, are together of bulk at most 1048576: NARROWER than '..Said'. Prove '..Said' where nothing that the law and all that it calls make is longer than what came in: it says more and counts as full. Else prove '..UptoSaid'. A law counts once. -/
mutual
def uptoBulk {H : Type} : DataW H → Nat
  | .lit (.string bytes) => bytes.length + 1
  | .lit _ => 1
  | .nil => 1
  | .ptr d => uptoBulk d + 1
  | .slice elems spare => uptoBulkAll elems + uptoBulkAll spare + 1
  | .agg parts => uptoBulkAll parts + 1
  | .iface _ d => uptoBulk d + 1
  | .map entries => uptoBulkEntries entries + 1
  | .held _ => 1
def uptoBulkAll {H : Type} : List (DataW H) → Nat
  | [] => 0
  | d :: r => uptoBulk d + uptoBulkAll r
def uptoBulkEntries {H : Type} : List (Lit × DataW H) → Nat
  | [] => 0
  | x :: r => uptoBulkEntry x + uptoBulkEntries r
def uptoBulkEntry {H : Type} : Lit × DataW H → Nat
  | (.string bytes, d) => bytes.length + uptoBulk d + 1
  | (_, d) => uptoBulk d + 1
 end
def uptoSmall : (H : Type) → List (DataW H) → Bool := fun _ ds => decide (uptoBulkAll ds ≤ 1048576)
def OpenSpec.upto (s : _root_.Go.ChangeSpec) : _root_.Go.OpenSpec := { _root_.Go.OpenSpec.ofChange s with cond := some uptoSmall }

/-- 'souffleurlaw02.WidthSigns', WHERE WHAT IT READS IS OF BULK AT MOST 1048576: true; the input reads as it did. -/
def widthSignsUptoRow : OpenClaim := { program := "ytfoiihopalcioaadoor", sum := "a214cef2470e919d5771055fb82c770314891c4bb5d0fb90142079cfdbcc56dc", func := "souffleur/souffleurlaw02.WidthSigns", spec := "widthSigns", inPlace := ["internal/abi.NoEscape"], unfollowed := true, recurses := true, named := ["souffleur/width.spans"], apart := false, laid := [("souffleur/width.spans", laid_souffleur_width_spans)], narrowed := true }
def WidthSignsUptoSaid : Prop := widthSignsUptoRow.holds Tryd.pinned (OpenSpec.upto widthSignsSpec)

/-- 'souffleurlaw02.WidthCuts', WHERE WHAT IT READS IS OF BULK AT MOST 1048576: true; the input reads as it did. -/
def widthCutsUptoRow : OpenClaim := { program := "ytfoiihopalcioaadoor", sum := "a214cef2470e919d5771055fb82c770314891c4bb5d0fb90142079cfdbcc56dc", func := "souffleur/souffleurlaw02.WidthCuts", spec := "widthCuts", inPlace := ["internal/abi.NoEscape"], unfollowed := true, recurses := true, named := ["souffleur/width.spans"], apart := false, laid := [("souffleur/width.spans", laid_souffleur_width_spans)], narrowed := true }
def WidthCutsUptoSaid : Prop := widthCutsUptoRow.holds Tryd.pinned (OpenSpec.upto widthCutsSpec)

/-- 'souffleurlaw02.WidthShows', WHERE WHAT IT READS IS OF BULK AT MOST 1048576: true; the input reads as it did. -/
def widthShowsUptoRow : OpenClaim := { program := "ytfoiihopalcioaadoor", sum := "a214cef2470e919d5771055fb82c770314891c4bb5d0fb90142079cfdbcc56dc", func := "souffleur/souffleurlaw02.WidthShows", spec := "widthShows", inPlace := ["internal/abi.NoEscape"], unfollowed := true, recurses := true, named := ["souffleur/width.spans"], apart := false, laid := [("souffleur/width.spans", laid_souffleur_width_spans)], narrowed := true }
def WidthShowsUptoSaid : Prop := widthShowsUptoRow.holds Tryd.pinned (OpenSpec.upto widthShowsSpec)

/-- 'souffleurlaw02.WidthEach', WHERE WHAT IT READS IS OF BULK AT MOST 1048576: true; the input reads as it did. -/
def widthEachUptoRow : OpenClaim := { program := "ytfoiihopalcioaadoor", sum := "a214cef2470e919d5771055fb82c770314891c4bb5d0fb90142079cfdbcc56dc", func := "souffleur/souffleurlaw02.WidthEach", spec := "widthEach", inPlace := ["internal/abi.NoEscape"], unfollowed := true, recurses := true, named := ["souffleur/width.spans"], apart := false, laid := [("souffleur/width.spans", laid_souffleur_width_spans)], narrowed := true }
def WidthEachUptoSaid : Prop := widthEachUptoRow.holds Tryd.pinned (OpenSpec.upto widthEachSpec)

/-- 'souffleurlaw02.WidthJoins', WHERE WHAT IT READS IS OF BULK AT MOST 1048576: true; the input reads as it did. -/
def widthJoinsUptoRow : OpenClaim := { program := "ytfoiihopalcioaadoor", sum := "a214cef2470e919d5771055fb82c770314891c4bb5d0fb90142079cfdbcc56dc", func := "souffleur/souffleurlaw02.WidthJoins", spec := "widthJoins", inPlace := ["internal/abi.NoEscape"], unfollowed := true, recurses := true, named := ["souffleur/width.spans"], apart := false, laid := [("souffleur/width.spans", laid_souffleur_width_spans)], narrowed := true }
def WidthJoinsUptoSaid : Prop := widthJoinsUptoRow.holds Tryd.pinned (OpenSpec.upto widthJoinsSpec)

/-- 'souffleurlaw02.WidthAgain', WHERE WHAT IT READS IS OF BULK AT MOST 1048576: true; the input reads as it did. -/
def widthAgainUptoRow : OpenClaim := { program := "ytfoiihopalcioaadoor", sum := "a214cef2470e919d5771055fb82c770314891c4bb5d0fb90142079cfdbcc56dc", func := "souffleur/souffleurlaw02.WidthAgain", spec := "widthAgain", inPlace := ["internal/abi.NoEscape"], unfollowed := true, recurses := true, named := ["souffleur/width.spans"], apart := false, laid := [("souffleur/width.spans", laid_souffleur_width_spans)], narrowed := true }
def WidthAgainUptoSaid : Prop := widthAgainUptoRow.holds Tryd.pinned (OpenSpec.upto widthAgainSpec)

/-- 'souffleurlaw02.WidthSums', WHERE WHAT IT READS IS OF BULK AT MOST 1048576: true; the input reads as it did. -/
def widthSumsUptoRow : OpenClaim := { program := "ytfoiihopalcioaadoor", sum := "a214cef2470e919d5771055fb82c770314891c4bb5d0fb90142079cfdbcc56dc", func := "souffleur/souffleurlaw02.WidthSums", spec := "widthSums", inPlace := ["internal/abi.NoEscape"], unfollowed := true, recurses := true, named := ["souffleur/width.spans"], apart := false, laid := [("souffleur/width.spans", laid_souffleur_width_spans)], narrowed := true }
def WidthSumsUptoSaid : Prop := widthSumsUptoRow.holds Tryd.pinned (OpenSpec.upto widthSumsSpec)

end Rows
end Go.Proofs.YtfoiihopalcioaaDoor
