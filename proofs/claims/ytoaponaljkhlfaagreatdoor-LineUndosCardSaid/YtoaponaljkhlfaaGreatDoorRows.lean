/-
  NARROWER THAN 'FOR EVERY INPUT', by the rows' own cells (each row's printed sentence says how): LineUndos: laid · LineYanks: laid · LineMoves: laid · LineTypes: laid.
  DERIVED. THE GIVEN ROWS OF THIS SEAT. 4 by the template 'for every input the law returns true; each argument reads behind the call as it read before'; 0 by the template 'total and deterministic' (their statements: YtoaponaljkhlfaaGreatDoorTotals.lean).
  GIVEN WITH THE SEED: the statements are not yours to turn. If you find one false, say at which input.
  Laid BY PROGRAM, IN A SANDBOX (cutbox-rows.mjs): the forced cells as the released guide's own fill.sh prints them over the translation e081311a32a04680… (all of the seat's roots in one cut). By AI agents, Wed Nov 11 2026. No macro, syntax, notation, axiom, sorry.
-/
import Derived.Test.YtoaponaljkhlfaaGreatDoorChecked
import GoSem.Claim
import GoSem.ClaimJoined
import GoSem.ClaimMapViews
import Derived.JoinedTies
import Derived.KernelRfl
namespace Go.Proofs.YtoaponaljkhlfaaGreatDoor
/- THE CELL 'sum', in the pinned program and in every row, IS THE sha256 OF THE DUMP (.gsa) THAT YtoaponaljkhlfaaGreatDoorProg.lean LOADS. Nothing in Lean hashes anything: it is a label: what it is worth is what the hold of that sum in a sandbox is worth. -/
noncomputable def Tryz.pinned : Pinned := { name := "ytoaponaljkhlfaagreatdoor", sum := "e081311a32a04680d200d35d2cd96b191441b7291de75ecd82aec7512826ff42", checked := Tryz.checked }
namespace Rows
def none {H : Type} : Left H := { results := [], args := [] }

/- WHAT THE LISTED PACKAGE-LEVEL VARIABLES READ AS WHEN THE CALL BEGINS. Each datum BY PROGRAM (the guide's laid-datum.mjs) off the statement by which the dump's own 'gosem.cut.vars' lays the variable. In a bare row this is a premise. The card (YtoaponaljkhlfaaGreatDoorCards.lean) ties it to the program's text. -/
def laid_souffleur_width_spans {H : Type} : DataW H := .agg [.agg [.agg [.lit (.int .i32 768), .lit (.int .i32 879)], .lit (.int .i64 0)], .agg [.agg [.lit (.int .i32 6832), .lit (.int .i32 6911)], .lit (.int .i64 0)], .agg [.agg [.lit (.int .i32 7616), .lit (.int .i32 7679)], .lit (.int .i64 0)], .agg [.agg [.lit (.int .i32 8203), .lit (.int .i32 8205)], .lit (.int .i64 0)], .agg [.agg [.lit (.int .i32 8400), .lit (.int .i32 8447)], .lit (.int .i64 0)], .agg [.agg [.lit (.int .i32 65024), .lit (.int .i32 65039)], .lit (.int .i64 0)], .agg [.agg [.lit (.int .i32 65056), .lit (.int .i32 65071)], .lit (.int .i64 0)], .agg [.agg [.lit (.int .i32 4352), .lit (.int .i32 4447)], .lit (.int .i64 2)], .agg [.agg [.lit (.int .i32 11904), .lit (.int .i32 12350)], .lit (.int .i64 2)], .agg [.agg [.lit (.int .i32 12353), .lit (.int .i32 42191)], .lit (.int .i64 2)], .agg [.agg [.lit (.int .i32 44032), .lit (.int .i32 55203)], .lit (.int .i64 2)], .agg [.agg [.lit (.int .i32 63744), .lit (.int .i32 64255)], .lit (.int .i64 2)], .agg [.agg [.lit (.int .i32 65072), .lit (.int .i32 65135)], .lit (.int .i64 2)], .agg [.agg [.lit (.int .i32 65281), .lit (.int .i32 65376)], .lit (.int .i64 2)], .agg [.agg [.lit (.int .i32 65504), .lit (.int .i32 65510)], .lit (.int .i64 2)], .agg [.agg [.lit (.int .i32 127744), .lit (.int .i32 129791)], .lit (.int .i64 2)], .agg [.agg [.lit (.int .i32 131072), .lit (.int .i32 262141)], .lit (.int .i64 2)]]

/-- 'souffleurlaw07.LineUndos': WHATEVER THE INPUT: true; the input reads as it did. -/
def lineUndosSpec : ChangeSpec := { name := "lineUndos", fn := fun _ => fun
  | [d] => { results := [.lit (.bool true)], args := [d] }
  | _ => none }
def lineUndosRow : OpenClaim := { program := "ytoaponaljkhlfaagreatdoor", sum := "e081311a32a04680d200d35d2cd96b191441b7291de75ecd82aec7512826ff42", func := "souffleur/souffleurlaw07.LineUndos", spec := "lineUndos", inPlace := ["internal/abi.NoEscape"], unfollowed := true, recurses := true, named := ["souffleur/width.spans"], apart := false, laid := [("souffleur/width.spans", laid_souffleur_width_spans)] }
def LineUndosSaid : Prop := lineUndosRow.holds Tryz.pinned (OpenSpec.ofChange lineUndosSpec)

/-- ITS FALSE NEIGHBOUR: 'it returns false'. Refute it at one input. -/
def lineUndosWrong : ChangeSpec := { name := "lineUndos", fn := fun _ => fun
  | [d] => { results := [.lit (.bool false)], args := [d] }
  | _ => none }
def LineUndosWrongFalsely : Prop := lineUndosRow.holds Tryz.pinned (OpenSpec.ofChange lineUndosWrong)

/-- 'souffleurlaw07.LineYanks': WHATEVER THE INPUT: true; the input reads as it did. -/
def lineYanksSpec : ChangeSpec := { name := "lineYanks", fn := fun _ => fun
  | [d1, d2] => { results := [.lit (.bool true)], args := [d1, d2] }
  | _ => none }
def lineYanksRow : OpenClaim := { program := "ytoaponaljkhlfaagreatdoor", sum := "e081311a32a04680d200d35d2cd96b191441b7291de75ecd82aec7512826ff42", func := "souffleur/souffleurlaw07.LineYanks", spec := "lineYanks", inPlace := ["internal/abi.NoEscape"], unfollowed := true, recurses := true, named := ["souffleur/width.spans"], apart := false, laid := [("souffleur/width.spans", laid_souffleur_width_spans)] }
def LineYanksSaid : Prop := lineYanksRow.holds Tryz.pinned (OpenSpec.ofChange lineYanksSpec)

/-- ITS FALSE NEIGHBOUR: 'it returns false'. Refute it at one input. -/
def lineYanksWrong : ChangeSpec := { name := "lineYanks", fn := fun _ => fun
  | [d1, d2] => { results := [.lit (.bool false)], args := [d1, d2] }
  | _ => none }
def LineYanksWrongFalsely : Prop := lineYanksRow.holds Tryz.pinned (OpenSpec.ofChange lineYanksWrong)

/-- 'souffleurlaw07.LineMoves': WHATEVER THE INPUT: true; the input reads as it did. -/
def lineMovesSpec : ChangeSpec := { name := "lineMoves", fn := fun _ => fun
  | [d1, d2] => { results := [.lit (.bool true)], args := [d1, d2] }
  | _ => none }
def lineMovesRow : OpenClaim := { program := "ytoaponaljkhlfaagreatdoor", sum := "e081311a32a04680d200d35d2cd96b191441b7291de75ecd82aec7512826ff42", func := "souffleur/souffleurlaw07.LineMoves", spec := "lineMoves", inPlace := ["internal/abi.NoEscape"], unfollowed := true, recurses := true, named := ["souffleur/width.spans"], apart := false, laid := [("souffleur/width.spans", laid_souffleur_width_spans)] }
def LineMovesSaid : Prop := lineMovesRow.holds Tryz.pinned (OpenSpec.ofChange lineMovesSpec)

/-- ITS FALSE NEIGHBOUR: 'it returns false'. Refute it at one input. -/
def lineMovesWrong : ChangeSpec := { name := "lineMoves", fn := fun _ => fun
  | [d1, d2] => { results := [.lit (.bool false)], args := [d1, d2] }
  | _ => none }
def LineMovesWrongFalsely : Prop := lineMovesRow.holds Tryz.pinned (OpenSpec.ofChange lineMovesWrong)

/-- 'souffleurlaw07.LineTypes': WHATEVER THE INPUT: true; the input reads as it did. -/
def lineTypesSpec : ChangeSpec := { name := "lineTypes", fn := fun _ => fun
  | [d] => { results := [.lit (.bool true)], args := [d] }
  | _ => none }
def lineTypesRow : OpenClaim := { program := "ytoaponaljkhlfaagreatdoor", sum := "e081311a32a04680d200d35d2cd96b191441b7291de75ecd82aec7512826ff42", func := "souffleur/souffleurlaw07.LineTypes", spec := "lineTypes", inPlace := ["internal/abi.NoEscape"], unfollowed := true, recurses := true, named := ["souffleur/width.spans"], apart := false, laid := [("souffleur/width.spans", laid_souffleur_width_spans)] }
def LineTypesSaid : Prop := lineTypesRow.holds Tryz.pinned (OpenSpec.ofChange lineTypesSpec)

/-- ITS FALSE NEIGHBOUR: 'it returns false'. Refute it at one input. -/
def lineTypesWrong : ChangeSpec := { name := "lineTypes", fn := fun _ => fun
  | [d] => { results := [.lit (.bool false)], args := [d] }
  | _ => none }
def LineTypesWrongFalsely : Prop := lineTypesRow.holds Tryz.pinned (OpenSpec.ofChange lineTypesWrong)

/- THE SECOND FORM. 'bulk': how many values and letters a reading holds, each counted each time it is reached (what is shared counts as often as it is met; a slice's spare places count too). A statement '..UptoSaid' is the law's where the arguments, and the package variables that the reading takes, are together of bulk at most 1048576: NARROWER than '..Said'. Prove '..Said' where nothing that the law and all that it calls make is longer than what came in: it says more and counts as full. Else prove '..UptoSaid'. A law counts once. -/
mutual
def uptoBulk {H : Type} : DataW H → Nat
  | .lit (.string bytes) => bytes.length + 1
  | .lit _ => 1
  | .nil => 1
  | .ptr d => uptoBulk d + 1
  | .slice elems spare => uptoBulkAll elems + uptoBulkAll spare + 1
  | .agg parts => uptoBulkAll parts + 1
  | .iface _ d => uptoBulk d + 1
  | .map entries => uptoBulkEntries entries + 1
  | .held _ => 1
def uptoBulkAll {H : Type} : List (DataW H) → Nat
  | [] => 0
  | d :: r => uptoBulk d + uptoBulkAll r
def uptoBulkEntries {H : Type} : List (Lit × DataW H) → Nat
  | [] => 0
  | x :: r => uptoBulkEntry x + uptoBulkEntries r
def uptoBulkEntry {H : Type} : Lit × DataW H → Nat
  | (.string bytes, d) => bytes.length + uptoBulk d + 1
  | (_, d) => uptoBulk d + 1
 end
def uptoSmall : (H : Type) → List (DataW H) → Bool := fun _ ds => decide (uptoBulkAll ds ≤ 1048576)
def OpenSpec.upto (s : _root_.Go.ChangeSpec) : _root_.Go.OpenSpec := { _root_.Go.OpenSpec.ofChange s with cond := some uptoSmall }

/-- 'souffleurlaw07.LineUndos', WHERE WHAT IT READS IS OF BULK AT MOST 1048576: true; the input reads as it did. -/
def lineUndosUptoRow : OpenClaim := { program := "ytoaponaljkhlfaagreatdoor", sum := "e081311a32a04680d200d35d2cd96b191441b7291de75ecd82aec7512826ff42", func := "souffleur/souffleurlaw07.LineUndos", spec := "lineUndos", inPlace := ["internal/abi.NoEscape"], unfollowed := true, recurses := true, named := ["souffleur/width.spans"], apart := false, laid := [("souffleur/width.spans", laid_souffleur_width_spans)], narrowed := true }
def LineUndosUptoSaid : Prop := lineUndosUptoRow.holds Tryz.pinned (OpenSpec.upto lineUndosSpec)

/-- 'souffleurlaw07.LineYanks', WHERE WHAT IT READS IS OF BULK AT MOST 1048576: true; the input reads as it did. -/
def lineYanksUptoRow : OpenClaim := { program := "ytoaponaljkhlfaagreatdoor", sum := "e081311a32a04680d200d35d2cd96b191441b7291de75ecd82aec7512826ff42", func := "souffleur/souffleurlaw07.LineYanks", spec := "lineYanks", inPlace := ["internal/abi.NoEscape"], unfollowed := true, recurses := true, named := ["souffleur/width.spans"], apart := false, laid := [("souffleur/width.spans", laid_souffleur_width_spans)], narrowed := true }
def LineYanksUptoSaid : Prop := lineYanksUptoRow.holds Tryz.pinned (OpenSpec.upto lineYanksSpec)

/-- 'souffleurlaw07.LineMoves', WHERE WHAT IT READS IS OF BULK AT MOST 1048576: true; the input reads as it did. -/
def lineMovesUptoRow : OpenClaim := { program := "ytoaponaljkhlfaagreatdoor", sum := "e081311a32a04680d200d35d2cd96b191441b7291de75ecd82aec7512826ff42", func := "souffleur/souffleurlaw07.LineMoves", spec := "lineMoves", inPlace := ["internal/abi.NoEscape"], unfollowed := true, recurses := true, named := ["souffleur/width.spans"], apart := false, laid := [("souffleur/width.spans", laid_souffleur_width_spans)], narrowed := true }
def LineMovesUptoSaid : Prop := lineMovesUptoRow.holds Tryz.pinned (OpenSpec.upto lineMovesSpec)

/-- 'souffleurlaw07.LineTypes', WHERE WHAT IT READS IS OF BULK AT MOST 1048576: true; the input reads as it did. -/
def lineTypesUptoRow : OpenClaim := { program := "ytoaponaljkhlfaagreatdoor", sum := "e081311a32a04680d200d35d2cd96b191441b7291de75ecd82aec7512826ff42", func := "souffleur/souffleurlaw07.LineTypes", spec := "lineTypes", inPlace := ["internal/abi.NoEscape"], unfollowed := true, recurses := true, named := ["souffleur/width.spans"], apart := false, laid := [("souffleur/width.spans", laid_souffleur_width_spans)], narrowed := true }
def LineTypesUptoSaid : Prop := lineTypesUptoRow.holds Tryz.pinned (OpenSpec.upto lineTypesSpec)

end Rows
end Go.Proofs.YtoaponaljkhlfaaGreatDoor
